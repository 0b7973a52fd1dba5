/- The natural numbers of the program: taking a multiple away, and putting it back. -/
import Derived.Test.YtdinpeglclkjhaaDoorNatN
namespace Go.Proofs.YtdinpeglclkjhaaDoor
open Go.RowKit Dg

/-- Only block b may have turned. -/
structure Only (b : Nat) (w w' : World) : Prop where
  os : w'.os = w.os
  tape : w'.tape = w.tape
  output : w'.output = w.output
  size : w'.heap.size = w.heap.size
  block : ∀ k, k ≠ b → w'.heap[k]? = w.heap[k]?

theorem Only.refl (b : Nat) (w : World) : Only b w w := ⟨rfl, rfl, rfl, rfl, fun _ _ => rfl⟩
theorem Only.trans {b : Nat} {a c d : World} (h : Only b a c) (k : Only b c d) : Only b a d :=
  ⟨k.os.trans h.os, k.tape.trans h.tape, k.output.trans h.output, k.size.trans h.size, fun i hi => (k.block i hi).trans (h.block i hi)⟩
theorem Only.drewN {b : Nat} {a w : World} (h : Only b a w) (n : Nat) : Only b a (w.drewN n) := ⟨h.os, h.tape, h.output, h.size, h.block⟩
theorem Only.setCell {b : Nat} {a w : World} (h : Only b a w) (o : Nat) (v : Value) : Only b a (w.setCell ⟨b, o, none⟩ v) :=
  h.trans ⟨rfl, rfl, rfl, by simp [World.setCell], fun k hk => Below.heap_setCell _ _ _ _ (by exact hk)⟩
theorem Only.cell {b : Nat} {w w' : World} (h : Only b w w') {p : Addr} (hp : p.block ≠ b) : w'.cell? p = w.cell? p := World.cell?_of_block (w := w) (h.block p.block hp)
theorem Only.row {b c t n : Nat} {w w' : World} {f : Nat → Value} (h : Only b w w') (hc : c ≠ b) (hr : w.rowIs c t n f) : w'.rowIs c t n f := hr.of_block (h.block c hc)
theorem Only.below {b B : Nat} {w0 w w' : World} (h : Only b w w') (hB : B ≤ b) (hb : Below B w0 w) : Below B w0 w' :=
  hb.trans ⟨h.os, h.tape, h.output, by rw [h.size]; exact Nat.le_refl _, fun k hk => h.block k (by omega)⟩

/-- A row of digits of D. -/
abbrev DRow (w : World) (b L D : Nat) : Prop := w.rowIs b 58 L (fun j => .int .u32 (dg W32 D j : Nat))

theorem DRow.set {w : World} {b L D : Nat} (h : DRow w b L D) (k s : Nat) (hs : s < W32) : DRow (w.setCell ⟨b, k, none⟩ (.int .u32 (s : Nat))) b L (setd W32 D k s) :=
  (World.rowIs.set h k _).congr (fun j _ => by
    show (if j = k then _ else _) = Value.int .u32 (dg W32 (setd W32 D k s) j : Nat)
    rw [dg_setd W32_pos hs]; split <;> rfl)

/-- The digits of D from i on, of which those below i + j are those of X and the others those of P. -/
def mixd (D i j X P : Nat) : Nat := D % W32 ^ i + W32 ^ i * (X + W32 ^ j * (P / W32 ^ j))

theorem dg_mix {D i j X P : Nat} (hX : X < W32 ^ j) : dg W32 (mixd D i j X P) (i + j) = dg W32 P j := by
  unfold mixd
  have h1 : D % W32 ^ i < W32 ^ i := Nat.mod_lt _ (Nat.pow_pos W32_pos)
  unfold dg
  rw [Nat.pow_add, ← Nat.div_div_eq_div_mul, Nat.add_mul_div_left _ _ (Nat.pow_pos W32_pos), Nat.div_eq_of_lt h1, Nat.zero_add, Nat.add_mul_div_left _ _ (Nat.pow_pos W32_pos), Nat.div_eq_of_lt hX, Nat.zero_add]

theorem mix_set {D i j X P s : Nat} (hX : X < W32 ^ j) : setd W32 (mixd D i j X P) (i + j) s = mixd D i (j + 1) (X + W32 ^ j * s) P := by
  have h := setd_val W32 (mixd D i j X P) (i + j) s
  rw [dg_mix hX] at h
  generalize setd W32 (mixd D i j X P) (i + j) s = S at *
  have e : mixd D i j X P = D % W32 ^ i + W32 ^ i * (X + W32 ^ j * (dg W32 P j + W32 * (P / W32 ^ (j + 1)))) := by unfold mixd; rw [← div_succ]
  rw [e] at h
  unfold mixd at *
  have e1 : W32 ^ (i + j) * dg W32 P j = W32 ^ i * (W32 ^ j * dg W32 P j) := by rw [Nat.pow_add, Nat.mul_assoc]
  have e2 : W32 ^ (i + j) * s = W32 ^ i * (W32 ^ j * s) := by rw [Nat.pow_add, Nat.mul_assoc]
  have e3 : W32 ^ (j + 1) * (P / W32 ^ (j + 1)) = W32 ^ j * (W32 * (P / W32 ^ (j + 1))) := by rw [Nat.pow_succ, Nat.mul_assoc]
  rw [e1, e2] at h
  rw [e3]
  simp only [Nat.mul_add] at h ⊢
  omega

theorem mix_start (D i : Nat) : mixd D i 0 0 (D / W32 ^ i) = D := by
  unfold mixd
  simp only [Nat.pow_zero, Nat.div_one, Nat.zero_add, Nat.one_mul]
  exact Nat.mod_add_div D (W32 ^ i)

theorem and_low (c : Nat) (hc : c < 18446744073709551616) : bits .and .u64 (c : Int) 4294967295 = ((c % 4294967296 : Nat) : Int) := by
  rw [show (4294967295 : Int) = ((4294967295 : Nat) : Int) from rfl, u64_and_nat _ _ hc (by omega), show (4294967295 : Nat) = 2 ^ 32 - 1 from rfl, Nat.and_two_pow_sub_one_eq_mod]

theorem u64_take (a m b : Nat) (ha : a < 4294967296) (hm : m < 4294967296) (hb : b ≤ 1) (h : a < m + b) :
    IntKind.u64.wrap (IntKind.u64.wrap ((a : Int) - (m : Int)) - (b : Int)) = ((18446744073709551616 + a - m - b : Nat) : Int) := u64_borrow a m b ha hm hb h

/-- What the loop of takeAway knows. -/
def Take (w0 : World) (b0 L D i q V m : Nat) (j : Nat) (c bo X : Nat) (w : World) : Prop :=
  (m < j → c = 0) ∧ X < W32 ^ j ∧ X + q * (V % W32 ^ j) = (D / W32 ^ i) % W32 ^ j + W32 ^ j * (c + bo) ∧ c < 4294967296 ∧ bo ≤ 1 ∧ Only b0 w0 w ∧ DRow w b0 L (mixd D i j X (D / W32 ^ i))

def TakeRel (w0 : World) (b0 L D i n q V m : Nat) (c bo ct : Value) (w : World) : Prop :=
  ∃ j cc bb X : Nat, j ≤ n ∧ ct = .int .i64 j ∧ c = .int .u64 cc ∧ bo = .int .u64 bb ∧ Take w0 b0 L D i q V m j cc bb X w

set_option maxHeartbeats 1000000 in
set_option maxRecDepth 100000 in
theorem takeAway_any (b0 i n cap b1 o1 m cb q L D V : Nat) (w : World) (hn : n ≤ 1000000000) (hi : i + n ≤ L) (hL : L ≤ 4000000000) (hm : m ≤ 1000000000) (hne : b1 ≠ b0)
    (hrow : DRow w b0 L D) (hV : V < W32 ^ m) (hs1 : ∀ j, j < m → w.cell? ⟨b1, o1 + j, none⟩ = some (.int .u32 (dg W32 V j : Nat))) (hq : q < 4294967296) :
    Calls Tryd.prog 142 #[.slice (some ⟨b0, i, none⟩) n cap, .slice (some ⟨b1, o1, none⟩) m cb, .int .u32 q] w
      fun e w' => ∃ c bo X : Nat, e = .returned (.bool (decide (bo = 1))) ∧ Take w b0 L D i q V m n c bo X w' := by
  go_enter Tryd.func142, Tryd.ntmps142
  go_wp2_with fail
  go_loopw [7, 8, 14] (TakeRel w b0 L D i n q V m) (fun _ _ ct _ => n - (intOf ct).toNat)
  case atStart => exact ⟨0, 0, 0, 0, by omega, rfl, rfl, rfl, fun _ => rfl, by simp, by simp [Nat.mod_one], by omega, by omega, Only.refl _ _, by rw [mix_start]; exact hrow⟩
  case round =>
    obtain ⟨j, c, bo, X, hj, rfl, rfl, rfl, hc0, hX, hXe, hc, hbo, hO, hR⟩ := hrel
    by_cases hlt : j < n
    · have hcell := hR.cell (show i + j < L by omega)
      have hfrz := hR.frozen (i + j)
      rw [dg_mix hX] at hcell
      have hwb := word_any (some ⟨b1, o1, none⟩) m cb V j wr (by omega) (by omega) hV (fun _ => ⟨b1, o1, rfl, fun t ht => by rw [hO.cell (p := ⟨b1, o1 + t, none⟩) hne]; exact hs1 t ht⟩)
      have hd := dg_u32 (D / W32 ^ i) j
      have hv := dg_u32 V j
      have Hv0 := hid (fun (h : m ≤ j) => dg_zero' W32_pos hV h)
      have HX := hid hX
      have HR := hid (fun s c' b' h => take_round (s := s) (c' := c') (b' := b') hXe h)
      have HM := hid (fun s => mix_set (D := D) (i := i) (P := D / W32 ^ i) (s := s) hX)
      have HrowO := hid (And.intro hO hR)
      clear hX hXe hs1 hrow hO hR hc0
      generalize dg W32 (D / W32 ^ i) j = d at *
      generalize dg W32 V j = v at *
      have hqv0 : q * v ≤ 4294967295 * 4294967295 := Nat.mul_le_mul (by omega) (by omega)
      have hqv : (q : Int) * (v : Int) ≤ 18446744065119617025 := by rw [← Int.natCast_mul]; omega
      have hqv1 : 0 ≤ (q : Int) * (v : Int) := Int.mul_nonneg (by omega) (by omega)
      have hand : bits .and .u64 ((c : Int) + (q : Int) * (v : Int)) 4294967295 = (((c + q * v) % 4294967296 : Nat) : Int) := by
        rw [← and_low _ (by omega)]; rfl
      generalize hm0 : (c + q * v) % 4294967296 = m0 at *
      have hm1 : m0 < 4294967296 := by rw [← hm0]; exact Nat.mod_lt _ (by omega)
      have Hm0 := hid hm0
      clear hm0
      by_cases hb : m0 + bo ≤ d
      · go_wp2_with fail
        refine hwb.mono ?_
        rintro e w' ⟨rfl, rfl⟩
        clear hwb
        go_wp2_with fail
        go_roundw
        case rel =>
          have hs : d - m0 - bo < W32 := by rw [W32_val]; omega
          refine ⟨j + 1, (c + q * v) / 4294967296, 0, X + W32 ^ j * (d - m0 - bo), by omega, by go_num, congrArg (Value.int .u64) (by rw [← Int.natCast_mul]; omega), congrArg (Value.int .u64) (by omega), fun h => (by have h0 := Hv0.out (by omega); subst h0; omega), add_lt HX.out hs,
            HR.out _ _ _ (by have := Hm0.out; rw [W32_val]; omega), by omega, by omega, HrowO.out.1.setCell _ _, ?_⟩
          have h := HrowO.out.2.set (i + j) _ hs
          rw [HM.out, show ((d - m0 - bo : Nat) : Int) = (d : Int) - m0 - bo by omega] at h
          exact h
        case measure => simp [intOf]; omega
      · have hw := u64_take d m0 bo hd hm1 hbo (by omega)
        have Hw := hid hw
        clear hw
        go_wp2_with fail
        refine hwb.mono ?_
        rintro e w' ⟨rfl, rfl⟩
        clear hwb
        go_wp2_with fail
        go_roundw
        case rel =>
          have hs : 4294967296 + d - m0 - bo < W32 := by rw [W32_val]; omega
          rw [Hw.out]
          refine ⟨j + 1, (c + q * v) / 4294967296, 1, X + W32 ^ j * (4294967296 + d - m0 - bo), by omega, by go_num, congrArg (Value.int .u64) (by rw [← Int.natCast_mul]; omega), congrArg (Value.int .u64) (by omega), fun h => (by have h0 := Hv0.out (by omega); subst h0; omega), add_lt HX.out hs,
            HR.out _ _ _ (by have := Hm0.out; rw [W32_val]; omega), by omega, by omega, HrowO.out.1.setCell _ _, ?_⟩
          have h := HrowO.out.2.set (i + j) _ hs
          rw [HM.out, show ((4294967296 + d - m0 - bo : Nat) : Int) = ((18446744073709551616 + d - m0 - bo : Nat) : Int) % 4294967296 by omega] at h
          exact h
        case measure => simp [intOf]; omega
    · have hj' : j = n := by omega
      subst hj'
      have HT := hid (show Take w b0 L D i q V m j c bo X wr from ⟨hc0, hX, hXe, hc, hbo, hO, hR⟩)
      have hdec : decide (bo = 1) = ((bo : Int) == 1) := by rw [Bool.eq_iff_iff]; simp only [decide_eq_true_eq, beq_iff_eq]; omega
      have Hdec := hid hdec
      clear hX hXe hO hR hrow hs1 hV hdec hc0
      go_wp2_with fail
      go_ret
      exact ⟨c, bo, X, by rw [Hdec.out]; rfl, HT.out⟩
end Go.Proofs.YtdinpeglclkjhaaDoor
