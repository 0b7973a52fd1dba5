/- The natural numbers of the specification: one digit of a quotient. -/
import Derived.Test.YtdinpeglclkjhaaDoorRefM
namespace Go.Proofs.YtdinpeglclkjhaaDoor
open Go.RowKit Dg

/-- Of what lay, only block b may have turned. -/
structure But (b : Nat) (w w' : World) : Prop where
  os : w'.os = w.os
  tape : w'.tape = w.tape
  output : w'.output = w.output
  size : w.heap.size ≤ w'.heap.size
  block : ∀ k, k < w.heap.size → k ≠ b → w'.heap[k]? = w.heap[k]?
theorem But.refl (b : Nat) (w : World) : But b w w := ⟨rfl, rfl, rfl, Nat.le_refl _, fun _ _ _ => rfl⟩
theorem But.trans {b : Nat} {a c d : World} (h : But b a c) (k : But b c d) : But b a d :=
  ⟨k.os.trans h.os, k.tape.trans h.tape, k.output.trans h.output, Nat.le_trans h.size k.size, fun i hi hb => (k.block i (Nat.lt_of_lt_of_le hi h.size) hb).trans (h.block i hi hb)⟩
theorem But.of_below {b : Nat} {w w' : World} (h : Below w.heap.size w w') : But b w w' := ⟨h.os, h.tape, h.output, h.size, fun k hk _ => h.block k hk⟩
theorem But.setCell {b : Nat} {a w : World} (h : But b a w) (o : Nat) (v : Value) : But b a (w.setCell ⟨b, o, none⟩ v) :=
  h.trans ⟨rfl, rfl, rfl, by simp [World.setCell], fun k _ hk => Below.heap_setCell _ _ _ _ (by exact hk)⟩
theorem But.cell {b : Nat} {w w' : World} (h : But b w w') {p : Addr} (hp : p.block ≠ b) (hl : p.block < w.heap.size) : w'.cell? p = w.cell? p := World.cell?_of_block (w := w) (h.block p.block hl hp)
theorem But.slc {b : Nat} {w w' : World} (h : But b w w') {b1 o1 n : Nat} {f : Nat → Nat} (hne : b1 ≠ b) (hs : Slc w (some ⟨b1, o1, none⟩) n f) : Slc w' (some ⟨b1, o1, none⟩) n f := fun h0 => by
  obtain ⟨b', o', hp, hc⟩ := hs h0
  simp only [Option.some.injEq, Addr.mk.injEq, and_true] at hp
  obtain ⟨rfl, rfl⟩ := hp
  exact ⟨b1, o1, rfl, fun j hj => by rw [h.cell (p := ⟨b1, o1 + j, none⟩) hne (World.block_lt_of_cell? _ _ (hc j hj))]; exact hc j hj⟩

/-- The first L cells of block b hold the digits of D. -/
def URow (w : World) (b L D : Nat) : Prop := ∃ cur, w.heap[b]? = some (.cells cur 58 (0, 0)) ∧ ∀ j, j < L → cur[j]? = some (.int .u32 (dg B16 D j : Nat))
theorem URow.cell {w : World} {b L D j : Nat} (h : URow w b L D) (hj : j < L) : w.cell? ⟨b, j, none⟩ = some (.int .u32 (dg B16 D j : Nat)) := by
  obtain ⟨cur, h0, h1⟩ := h
  have h2 := h1 j hj
  simp [World.cell?, h0, h2]
theorem URow.frozen {w : World} {b L D : Nat} (h : URow w b L D) (j : Nat) : w.frozen? ⟨b, j, none⟩ = false := by
  obtain ⟨cur, h0, _⟩ := h
  simp [World.frozen?, h0]
theorem URow.below {w w' : World} {b L D : Nat} (h : URow w b L D) (hb : Below w.heap.size w w') : URow w' b L D := by
  obtain ⟨cur, h0, h1⟩ := h
  exact ⟨cur, by rw [hb.block _ (Array.getElem?_eq_some_iff.1 h0).1]; exact h0, h1⟩
theorem URow.lt {w : World} {b L D : Nat} (h : URow w b L D) : b < w.heap.size := by
  obtain ⟨cur, h0, h1⟩ := h
  exact (Array.getElem?_eq_some_iff.1 h0).1
theorem URow.set {w : World} {b L D k s : Nat} (h : URow w b L D) (hk : k < L) (hs : s < B16) : URow (w.setCell ⟨b, k, none⟩ (.int .u32 (s : Nat))) b L (setd B16 D k s) := by
  obtain ⟨cur, h0, h1⟩ := h
  refine ⟨_, heap_setCell_same w b k _ _ _ h0, fun j hj => ?_⟩
  rw [dg_setd B16_pos hs]
  have h2 := h1 j hj
  have hjl := (Array.getElem?_eq_some_iff.1 h2).1
  by_cases hjk : j = k
  · subst hjk
    rw [if_pos rfl]
    simp [hjl]
  · rw [if_neg hjk, ← h2]
    simp [Ne.symm hjk]
theorem URow.slc {w : World} {b L D i n : Nat} (h : URow w b L D) (hn : i + n ≤ L) : Slc w (some ⟨b, i, none⟩) n (dg B16 (D / B16 ^ i)) := fun _ =>
  ⟨b, i, rfl, fun j hj => by rw [h.cell (by omega), dg_div_pow]⟩

def mixe (D i j X P : Nat) : Nat := D % B16 ^ i + B16 ^ i * (X + B16 ^ j * (P / B16 ^ j))
theorem dg_mixe {D i j X P : Nat} (hX : X < B16 ^ j) : dg B16 (mixe D i j X P) (i + j) = dg B16 P j := by
  unfold mixe
  have h1 : D % B16 ^ i < B16 ^ i := Nat.mod_lt _ (Nat.pow_pos B16_pos)
  unfold dg
  rw [Nat.pow_add, ← Nat.div_div_eq_div_mul, Nat.add_mul_div_left _ _ (Nat.pow_pos B16_pos), Nat.div_eq_of_lt h1, Nat.zero_add, Nat.add_mul_div_left _ _ (Nat.pow_pos B16_pos), Nat.div_eq_of_lt hX, Nat.zero_add]
theorem mixe_set {D i j X P s : Nat} (hX : X < B16 ^ j) : setd B16 (mixe D i j X P) (i + j) s = mixe D i (j + 1) (X + B16 ^ j * s) P := by
  have h := setd_val B16 (mixe D i j X P) (i + j) s
  rw [dg_mixe hX] at h
  generalize setd B16 (mixe D i j X P) (i + j) s = S at *
  have e : mixe D i j X P = D % B16 ^ i + B16 ^ i * (X + B16 ^ j * (dg B16 P j + B16 * (P / B16 ^ (j + 1)))) := by unfold mixe; rw [← div_succ]
  rw [e] at h
  unfold mixe at *
  have e1 : B16 ^ (i + j) * dg B16 P j = B16 ^ i * (B16 ^ j * dg B16 P j) := by rw [Nat.pow_add, Nat.mul_assoc]
  have e2 : B16 ^ (i + j) * s = B16 ^ i * (B16 ^ j * s) := by rw [Nat.pow_add, Nat.mul_assoc]
  have e3 : B16 ^ (j + 1) * (P / B16 ^ (j + 1)) = B16 ^ j * (B16 * (P / B16 ^ (j + 1))) := by rw [Nat.pow_succ, Nat.mul_assoc]
  rw [e1, e2] at h
  rw [e3]
  simp only [Nat.mul_add] at h ⊢
  omega
theorem mixe_start (D i : Nat) : mixe D i 0 0 (D / B16 ^ i) = D := by
  unfold mixe
  simp only [Nat.pow_zero, Nat.div_one, Nat.zero_add, Nat.one_mul]
  exact Nat.mod_add_div D (B16 ^ i)
theorem mixe_end {D i m X : Nat} (hP : D / B16 ^ i < B16 ^ m) : mixe D i m X (D / B16 ^ i) = D % B16 ^ i + B16 ^ i * X := by
  unfold mixe
  rw [Nat.div_eq_of_lt hP, Nat.mul_zero, Nat.add_zero]

theorem lt_16' {x a : Nat} (h : x < B16 ^ a) (hab : a ≤ 900000000) : x < B16 ^ 900000000 := by
  generalize 900000000 = b at *
  exact Nat.lt_of_lt_of_le h (Nat.pow_le_pow_right B16_pos hab)

/-! ### less -/
set_option maxHeartbeats 1000000 in
set_option maxRecDepth 100000 in
theorem less_any (b i m cap U : Nat) (vv : Value) (V g : Nat) (w : World) (hm : m ≤ 1000000000) (hcap : m ≤ cap) (hU : U < B16 ^ m) (hs : Slc w (some ⟨b, i, none⟩) m (dg B16 U)) (hv : Rep B16 w vv V) (hV : V < B16 ^ 900000000) (hg : g < 65536) :
    Calls Tryd.prog 137 #[.slice (some ⟨b, i, none⟩) m cap, vv, .int .u64 g] w fun e w' => e = .returned (.bool (decide (U < V * g))) ∧ Below w.heap.size w w' := by
  have HN := hid (NatOf_any g w (by omega))
  have hVb : V < B16 ^ 1000000000 := lt_16 hV (by omega)
  have hgb : g < B16 ^ 1 := by rw [Nat.pow_one]; exact hg
  have hVg : V * g < B16 ^ 1000000000 := by
    have h := mul_lt16 hV hgb
    exact lt_16 h (by omega)
  have hUb : U < B16 ^ 1000000000 := lt_16 hU hm
  have HM := hid (fun (W : World) (v1 : Value) (hB : Below w.heap.size w W) (hR : Rep B16 W v1 g) => NatMul_any vv v1 V g W (hv.below hB) hR hVb (lt_16 hgb (by omega)))
  have HT := hid (fun (W : World) (hB : Below w.heap.size w W) => trim_any (some ⟨b, i, none⟩) m cap U W (by omega) hcap hU (hs.below hB))
  have HC := hid (fun (W : World) (v1 v2 : Value) h1 h2 => NatCmp_any v1 v2 U (V * g) W h1 h2 hUb hVg)
  have HS := hid hs
  have hdec : decide (cmp3 U (V * g) < 0) = decide (U < V * g) := by
    unfold cmp3
    by_cases h : U < V * g
    · simp [h]
    · rw [if_neg h, decide_eq_false h]; split <;> rfl
  obtain ⟨r, hr⟩ : ∃ r, r = cmp3 U (V * g) := ⟨_, rfl⟩
  obtain ⟨d, hd⟩ : ∃ d, d = decide (U < V * g) := ⟨_, rfl⟩
  rw [← hd, ← hr] at hdec
  rw [← hr] at HC
  rw [← hd]
  clear hr hd hVb hgb hVg hUb hU hs hv hV
  obtain ⟨Q, hQ⟩ : ∃ Q, Q = V * g := ⟨_, rfl⟩
  rw [← hQ] at HM HC
  clear hQ
  go_enter Tryd.func137, Tryd.ntmps137
  go_wp2_with fail
  refine HN.out.mono ?_
  rintro e w1 ⟨v1, rfl, hR1, hB1⟩
  go_wp2_with fail
  refine (HM.out w1 v1 hB1 hR1).mono ?_
  rintro e w2 ⟨v2, rfl, hR2, hB2⟩
  have hB12 := held_any hB1 hB2
  go_wp2_with fail
  refine (HT.out w2 hB12).mono ?_
  rintro e w3 ⟨m', rfl, hm', hlen, rfl⟩
  go_wp2_with fail
  refine (HC.out w2 _ _ ⟨_, _, _, rfl, Nat.le_trans hm' hcap, hlen, (HS.out.below hB12).take hm'⟩ hR2).mono ?_
  rintro e w4 ⟨rfl, q, rfl⟩
  have HB := hid (below_drewN hB12 q)
  clear hR1 hB1 hR2 hB2 hB12 hm' hlen HN HM HT HC HS
  go_wp2_with fail
  go_ret
  exact ⟨rfl, HB.out⟩
end Go.Proofs.YtdinpeglclkjhaaDoor
