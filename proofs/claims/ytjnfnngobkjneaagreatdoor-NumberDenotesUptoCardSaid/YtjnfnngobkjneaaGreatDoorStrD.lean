/- Texts of natural numbers of the program: Decimal. -/
import Derived.Test.YtjnfnngobkjneaaGreatDoorStrP
import Derived.Test.YtjnfnngobkjneaaGreatDoorFracX
import Derived.Deep.OwnRows
import Derived.Deep.AppendLies
namespace Go.Proofs.YtjnfnngobkjneaaGreatDoor
open Go.RowKit Dg Dc

theorem Tryz.infoStr : (Tryz.prog.info? 9).map (fun i => (i.zero, i.size, i.bytes)) = some (some (.string ⟨#[]⟩), 1, 16) := by kernel_rfl

/-- A row of the call's own that holds the texts f 0, .., f (n - 1). -/
def OwnS (w : World) (base : Nat) (v : Value) (n : Nat) (f : Nat → List UInt8) : Prop := w.ownsRow base 9 1 v n ((List.range n).map (fun j => str (f j)))
theorem OwnS.nil (w : World) (base : Nat) (f : Nat → List UInt8) : OwnS w base (.slice none 0 0) 0 f := World.ownsRow_nil w base _ 1
theorem OwnS.slc {w : World} {base : Nat} {v : Value} {n : Nat} {f : Nat → List UInt8} (h : OwnS w base v n f) : ∃ p cap, v = .slice p n cap ∧ n ≤ cap ∧ (0 < n → ∃ b off, p = some ⟨b, off, none⟩ ∧ ∀ j, j < n → w.cell? ⟨b, off + j, none⟩ = some (str (f j))) := by
  rcases h.2 with ⟨hv, h0⟩ | ⟨g, cap, cur, hv, hb, hg, hn, _, hsz, htk⟩
  · subst h0; exact ⟨none, 0, hv, Nat.le_refl _, fun h => absurd h (by omega)⟩
  · refine ⟨_, cap, hv, hn, fun _ => ⟨g, 0, rfl, fun j hj => ?_⟩⟩
    rw [Nat.zero_add, cell_of_row w g j cur _ _ hg]
    have h1 : (cur.toList.take (n * 1))[j]? = ((List.range n).map (fun j => str (f j)))[j]? := by rw [htk]
    rw [List.getElem?_take_of_lt (by omega), List.getElem?_map, List.getElem?_range hj] at h1
    simpa using h1
theorem OwnS.push {w : World} {base : Nat} {v : Value} {n : Nat} {f : Nat → List UInt8} {z : List UInt8} (h : w.ownsRow base 9 1 v (n + 1) ((List.range n).map (fun j => str (f j)) ++ [str z])) (hz : z = f n) : OwnS w base v (n + 1) f := by
  unfold OwnS; rw [List.range_succ, List.map_append, List.map_singleton, ← hz]; exact h
theorem OwnS.congr {w : World} {base : Nat} {v : Value} {n : Nat} {f g : Nat → List UInt8} (h : OwnS w base v n f) (e : ∀ j, j < n → f j = g j) : OwnS w base v n g := by
  unfold OwnS
  rw [show (List.range n).map (fun j => str (g j)) = (List.range n).map (fun j => str (f j)) from List.map_congr_left fun j hj => by rw [e j (List.mem_range.1 hj)]]
  exact h

theorem OwnS.below {w w' : World} {base : Nat} {v : Value} {n : Nat} {f : Nat → List UInt8} (h : OwnS w base v n f) (hb : Below w.heap.size w w') : OwnS w' base v n f :=
  World.ownsRow.kept (row := none) h ⟨hb.os, hb.tape, hb.output, hb.size, fun k hk _ => hb.block k hk⟩ (by cases hv : v.ownBlock <;> simp)

/-- The length of a slice. -/
def lenV : Value → Nat
  | .slice _ n _ => n
  | _ => 0

def grp (x j : Nat) : List UInt8 := pad 9 (x / 10 ^ (9 * j))
/-- The first loop of Decimal. -/
def DecRel (w0 : World) (x : Nat) (va vg : Value) (wr : World) : Prop :=
  ∃ k, k ≤ x ∧ (k = 0 ∨ 10 ^ (9 * k) ≤ x) ∧ Rep W32 wr va (x / 10 ^ (9 * k)) ∧ OwnS wr w0.heap.size vg k (grp x) ∧ Below w0.heap.size w0 wr ∧ Tab10 wr

/-- The groups at the end, and the text behind the writing of the groups from j on. -/
def fin (x k j : Nat) : List UInt8 := if j = k then Lib.decDigits (x / 10 ^ (9 * k)) else grp x j
def txt (x k j : Nat) : List UInt8 := if j = k + 1 then [] else Lib.decDigits (x / 10 ^ (9 * j))
theorem txt_step (x k j : Nat) (hj : j ≤ k) (hk : k = 0 ∨ 10 ^ (9 * k) ≤ x) : txt x k (j + 1) ++ fin x k j = txt x k j := by
  unfold txt fin grp
  rw [if_neg (show ¬ j = k + 1 by omega)]
  by_cases h : j = k
  · subst h; rw [if_pos rfl, if_pos rfl]; rfl
  · rw [if_neg (show ¬ j + 1 = k + 1 by omega), if_neg h]
    have h1 : 10 ^ (9 * k) ≤ x := hk.resolve_left (by omega)
    have h2 : 10 ^ (9 * (j + 1)) ≤ x := Nat.le_trans (Nat.pow_le_pow_right (by decide) (by omega)) h1
    have e : x / 10 ^ (9 * (j + 1)) = x / 10 ^ (9 * j) / 10 ^ 9 := by rw [Nat.mul_add, Nat.pow_add, Nat.div_div_eq_div_mul]
    rw [e]
    refine (dec_split 9 _ ?_).symm
    refine (Nat.le_div_iff_mul_le (Nat.pow_pos (by decide))).2 ?_
    rw [← Nat.pow_add, show 9 + 9 * j = 9 * (j + 1) by omega]
    exact h2

theorem str_append (a b : List UInt8) : (⟨a.toArray⟩ ++ ⟨b.toArray⟩ : ByteArray) = ⟨(a ++ b).toArray⟩ := by
  apply ByteArray.ext
  rw [ByteArray.data_append, List.append_toArray]
theorem pow9 (k : Nat) : 10 ^ (9 * (k + 1)) = 10 ^ (9 * k) * 1000000000 := by rw [Nat.mul_add, Nat.pow_add]
theorem lt_pow9 (k : Nat) : k < 10 ^ (9 * k) := by
  have h := Nat.lt_pow_self (n := 9 * k) (a := 10) (by decide)
  omega

theorem w32_ten (m : Nat) : W32 ^ m ≤ 10 ^ (10 * m) := by
  rw [Nat.pow_mul]
  exact Nat.pow_le_pow_left (by decide) _
theorem groups_le {x k m : Nat} (hx : x < W32 ^ m) (hm : m ≤ 1000) (hk : k = 0 ∨ 10 ^ (9 * k) ≤ x) : k ≤ 2000 := by
  rcases hk with h | h
  · omega
  · have h1 := w32_ten m
    have h2 : 10 ^ (9 * k) < 10 ^ (10 * m) := Nat.lt_of_le_of_lt h (Nat.lt_of_lt_of_le hx h1)
    have h3 := (Nat.pow_lt_pow_iff_right (show 1 < 10 by decide)).1 h2
    omega
theorem txt_len {x k j m : Nat} (hx : x < W32 ^ m) (hm : 0 < m) : (txt x k j).length ≤ 10 * m := by
  unfold txt
  split
  · simp
  · rw [Lib.decDigits_length]
    exact nDigits_le (Nat.lt_of_le_of_lt (Nat.div_le_self _ _) (Nat.lt_of_lt_of_le hx (w32_ten m))) (by omega)
theorem Repeat_z (z : Int) (w : World) (h0 : 0 ≤ z) (h1 : z ≤ 1000) : Calls Tryz.prog 76 #[.string ⟨#[48]⟩, .int .i64 z] w fun e w' => ∃ s : ByteArray, e = .returned (.string s) ∧ s.size ≤ 1000 ∧ Hid (s = ⟨(List.replicate z.toNat 48).toArray⟩) ∧ Below w.heap.size w w' := by
  obtain ⟨n, rfl⟩ : ∃ n : Nat, z = n := ⟨z.toNat, by omega⟩
  exact (Repeat_c n w (by omega)).mono fun _ _ h => ⟨_, h.1, by rw [str_size, List.length_replicate]; omega, hid (by rw [Int.toNat_natCast]), h.2⟩
theorem FormatUint_s (u : Nat) (w : World) (hu64 : u < 18446744073709551616) (htab : Tab10 w) :
    Calls Tryz.prog 75 #[.int .u64 u, .int .i64 10] w fun e w' => ∃ s : ByteArray, e = .returned (.string s) ∧ Hid (s = ⟨(Lib.decDigits u).toArray⟩) ∧ Below w.heap.size w w' :=
  (FormatUint_any u w hu64 htab).mono fun _ _ h => ⟨_, h.1, hid rfl, h.2⟩

set_option maxHeartbeats 400000 in
set_option maxRecDepth 100000 in
/-- divWord: the quotient lies in a new block. -/
theorem divWord_new (va : Value) (x d : Nat) (w : World) (ha : Rep W32 w va x) (hx : x < W32 ^ 1000000000) (hd : 0 < d) (hd2 : d < 4294967296) :
    Calls Tryz.prog 74 #[va, .int .u32 d] w fun e w' => ∃ m c, e = .returned (.tuple #[.slice (some ⟨w.heap.size, 0, none⟩) m c, .int .u32 (x % d : Nat)]) ∧ Rep W32 w' (.slice (some ⟨w.heap.size, 0, none⟩) m c) (x / d) ∧ Below w.heap.size w w' := by
  obtain ⟨pa, na, ca, rfl, hca, hla, hsa⟩ := ha
  have hna := hla.le W32_pos hx
  clear hx
  have hmk := Tryz.mk na (by omega)
  go_enter Tryz.func74, Tryz.ntmps74
  go_wp2_with fail
  clear hmk
  go_loopw [7, 8] (fun r i wr => ∃ k R Z : Nat, k ≤ na ∧ i = .int .i64 ((k : Int) - 1) ∧ r = .int .u64 R ∧ R < d ∧ R = (x / W32 ^ k) % d ∧ Z = W32 ^ k * ((x / W32 ^ k) / d) ∧ Mk W32 w wr na Z) (fun _ i _ => (intOf i + 1).toNat)
  case atStart => exact ⟨na, 0, 0, by omega, rfl, rfl, hd, by rw [div_pow_zero hla.1]; simp, by rw [div_pow_zero hla.1]; simp, Mk.start _ _ _⟩
  case round =>
    obtain ⟨k, R, Z, hk, rfl, rfl, hRd, hR, hZ, hM⟩ := hrel
    rcases Nat.eq_zero_or_pos k with h0 | h0
    · subst h0
      have HR : Hid (R = x % d) := by show R = x % d; simpa using hR
      have HZ : Hid (Z = x / d) := by show Z = x / d; simpa using hZ
      have hsl := hM.slc
      have hbel := hM.bel
      have hZl : Z < W32 ^ na := by rw [HZ.out]; exact div_lt_pow hla.1
      clear hR hZ hM hsa
      go_wp2_with fail
      refine (Of_any _ _ _ Z _ (by omega) (Nat.le_refl _) hZl hsl).mono ?_
      rintro e w' ⟨m, rfl, hm, hlen, rfl⟩
      go_wp2_with fail
      go_ret2
      rw [← HZ.out, ← HR.out]
      exact ⟨_, _, rfl, ⟨_, _, _, rfl, hm, hlen, hsl.take (by omega)⟩, hbel⟩
    · obtain ⟨t, rfl⟩ : ∃ t, k = t + 1 := ⟨k - 1, by omega⟩
      have hsa' := hsa.below hM.bel
      obtain ⟨b1, o1, rfl, hc1⟩ := hsa' (by omega)
      have hk1 := hc1 t (by omega)
      have e1 : ((t + 1 : Nat) : Int) - 1 = t := by omega
      rw [e1]
      clear e1
      have HS : Hid (∀ q, q = (R * W32 + dg W32 x t) / d → q < W32 ∧ setd W32 Z t q = W32 ^ t * ((x / W32 ^ t) / d) ∧ (x / W32 ^ t) % d = (R * W32 + dg W32 x t) % d) := fun q hq => by
        rw [hR] at hq ⊢; rw [hZ]; exact divw_step hd hq
      have hdx := dg_u32 x t
      have hor := or_join64 R (dg W32 x t) (by omega) hdx
      have hcell := hM.cell (show t < na by omega)
      have hfrz := hM.row.frozen t
      clear hR hZ hc1 hsa
      generalize dg W32 x t = g at *
      have hb1 : R * 4294967296 + g < 18446744073709551616 := by omega
      go_wp2_with fail
      go_roundw
      case rel =>
        obtain ⟨h1, h2, h3⟩ := HS.out _ rfl
        have hs := hM.set W32_pos t _ h1
        rw [W32_val] at h1 h3 hs
        refine ⟨t, (R * 4294967296 + g) % d, _, by omega, rfl, congrArg (Value.int .u64) (cast_rem R g d).symm, Nat.mod_lt _ hd, h3.symm, h2, ?_⟩
        first
          | (rw [cast_quo_small R g d h1]; exact hs)
          | (rw [← cast_quo]; exact hs)
      case measure => simp [intOf]

theorem cell_grown {w w' : World} {row : Option Nat} (hg : w.grownBy w' row) {b : Nat} (hb : b < w.heap.size) (hne : row ≠ some b) (o : Nat) : w'.cell? ⟨b, o, none⟩ = w.cell? ⟨b, o, none⟩ := by
  simp [World.cell?, hg.block b hb hne.symm]
theorem Rep.cell0 {B : Nat} {w : World} {b m c x : Nat} (h : Rep B w (.slice (some ⟨b, 0, none⟩) m c) x) (h0 : x ≠ 0) : ∃ v, w.cell? ⟨b, 0, none⟩ = some v := by
  obtain ⟨p, n, cap, e, h1, h2, h3⟩ := h
  injection e with e1 e2 e3
  subst e1 e2 e3
  have hm : 0 < m := by
    rcases Nat.eq_zero_or_pos m with h | h
    · subst h; exact absurd h2.eq_zero h0
    · exact h
  obtain ⟨b1, o1, e4, h4⟩ := h3 hm
  injection e4 with e5
  injection e5 with e6 e7
  subst e6 e7
  exact ⟨_, h4 0 hm⟩
theorem Rep.grown {B : Nat} {w w' : World} {row : Option Nat} {b m c x : Nat} (h : Rep B w (.slice (some ⟨b, 0, none⟩) m c) x) (hg : w.grownBy w' row) (hb : b < w.heap.size) (hne : row ≠ some b) : Rep B w' (.slice (some ⟨b, 0, none⟩) m c) x := by
  obtain ⟨p, n, cap, e, h1, h2, h3⟩ := h
  injection e with e1 e2 e3
  subst e1 e2 e3
  refine ⟨_, _, _, rfl, h1, h2, fun h0 => ?_⟩
  obtain ⟨b1, o1, e4, h4⟩ := h3 h0
  injection e4 with e5
  injection e5 with e6 e7
  subst e6 e7
  exact ⟨_, _, rfl, fun j hj => by rw [cell_grown hg hb hne]; exact h4 j hj⟩

set_option maxHeartbeats 4000000 in
set_option maxRecDepth 100000 in
theorem Decimal_any (va : Value) (x : Nat) (w : World) (ha : Rep W32 w va x) (hx : x < W32 ^ 1000) (ht : Tab10 w) :
    Calls Tryz.prog 33 #[va] w fun e w' => e = .returned (str (Lib.decDigits x)) ∧ Below w.heap.size w w' := by
  obtain ⟨i0, hi, hz0, hz1, hz2⟩ := info_parts Tryz.infoStr
  have HA := hid (And.intro ha (And.intro hx ht))
  obtain ⟨pa, na, ca, rfl, _, _, _⟩ := ha
  clear hx ht
  go_enter Tryz.func33, Tryz.ntmps33
  go_wp2_with fail
  go_loopw [0, 3] (fun a v wr => DecRel w x a v wr) (fun _ v _ => x + 1 - lenV v)
  case atStart => exact ⟨0, by omega, .inl rfl, by simpa using HA.out.1, OwnS.nil _ _ _, Below.refl _ _, HA.out.2.2⟩
  case round =>
    obtain ⟨k, hkx, hk1, hr, hown, hB, hT⟩ := hrel
    obtain ⟨a, ha⟩ : ∃ a, a = x / 10 ^ (9 * k) := ⟨_, rfl⟩
    rw [← ha] at hr
    have hk20 := groups_le HA.out.2.1 (Nat.le_refl _) hk1
    have hax : a < W32 ^ 1000000000 := lt_big (Nat.lt_of_le_of_lt (by rw [ha]; exact Nat.div_le_self _ _) HA.out.2.1) (by omega)
    obtain ⟨p, cap, rfl, hkc, _⟩ := hown.slc
    have HH := hid (And.intro ha (And.intro hkx (And.intro hk1 (And.intro hown (And.intro hB hT)))))
    obtain ⟨r, hr0⟩ : ∃ r, r = a % 1000000000 := ⟨_, rfl⟩
    obtain ⟨q, hq0⟩ : ∃ q, q = a / 1000000000 := ⟨_, rfl⟩
    have hr9 : r < 1000000000 := by rw [hr0]; exact Nat.mod_lt _ (by decide)
    have hdw := divWord_new _ a 1000000000 wr hr hax (by decide) (by decide)
    rw [← hr0, ← hq0] at hdw
    have HQ := hid (And.intro hr0 hq0)
    clear hkx hk1 ha hown hB hT hax hr hr0 hq0
    go_wp2_with fail
    refine hdw.mono ?_
    clear hdw
    rintro e w1 ⟨nq, cq, rfl, hvq, hB1⟩
    have hfm := FormatUint_s r w1 (by omega) (HH.out.2.2.2.2.2.below hB1)
    have H1 := hid (And.intro hvq hB1)
    clear hB1 hvq
    go_wp2_with fail
    refine hfm.mono ?_
    clear hfm
    rintro e w2 ⟨s, rfl, Hs, hB2⟩
    have hz := IsZero_any _ q w2 (H1.out.1.below hB2)
    have HB2 := hid hB2
    clear hB2
    go_wp2_with fail
    refine hz.mono ?_
    clear hz
    rintro e w3 ⟨rfl, rfl⟩
    by_cases h0 : q = 0
    · have hown2 : OwnS w2 w.heap.size (.slice p k cap) k (grp x) := (HH.out.2.2.2.1.below H1.out.2).below HB2.out
      have hB2 := HH.out.2.2.2.2.1.trans ((H1.out.2.trans (HB2.out.mono H1.out.2.size)).mono HH.out.2.2.2.2.1.size)
      have hsize2 := hB2.size
      have hal := (show w2.ownsRow w.heap.size 9 1 (.slice p k cap) k ((List.range k).map (fun j => str (grp x j))) from hown2).alloc (.cells #[.string s] 9)
      have hlt := fun z hz => (World.ownsRow.lt hown2 z hz).1
      have hfin : Hid (s = ⟨(fin x k k).toArray⟩) := hid (by
        rw [Hs.out, fin, if_pos rfl, HQ.out.1, ← HH.out.1]
        have h1 : a < 1000000000 := by
          have := HQ.out.2
          omega
        rw [Nat.mod_eq_of_lt h1])
      have HX := hid (And.intro hal (And.intro hB2 hlt))
      subst h0
      clear hown2 hB2 hal hlt
      go_upto_region 8 with (first
        | (at_builtin; refine wpList_append_own _ rfl _ _ 102 rfl w.heap.size 9 i0 (.string ⟨#[]⟩) 1 16 Tryz.underlying102 hi hz0 hz1 hz2 rfl (by decide) _ _ _ rfl HX.out.1 ⟨w2.heap.size, 0, none⟩ 1 1 [.string s] rfl rfl (cell_one_new _ _ _) (fun x hx => by simp at hx; subst hx; rfl) (by unfold maxLen; omega) (by omega) (by simp; omega) ?_; intro v' w3 hown' hgrow3 hnil3))
      have hown3 : OwnS w3 w.heap.size v' (k + 1) (fin x k) := by
        unfold OwnS
        rw [List.range_succ, List.map_append, List.map_singleton, show (List.range k).map (fun j => str (fin x k j)) = (List.range k).map (fun j => str (grp x j)) from List.map_congr_left fun j hj => by rw [fin, if_neg (by have := List.mem_range.1 hj; omega)]]
        rw [hfin.out] at hown'
        exact hown'
      have hB3 : Below w.heap.size w w3 := (HX.out.2.1.alloc hsize2 _).grown (show (w2.alloc _).grownBy w3 _ from hgrow3) (by rw [World.size_alloc]; omega) HX.out.2.2
      obtain ⟨p3, c3, rfl, hc3, _⟩ := hown3.slc
      have HF := hid (And.intro hown3 (And.intro hB3 HH.out.2.2.1))
      have HL := hid (And.intro (Nat.lt_of_lt_of_le HA.out.2.1 (Nat.le_refl _)) (groups_le HA.out.2.1 (Nat.le_refl _) HH.out.2.2.1))
      clear hown3 hB3 hown' hgrow3 hnil3 HX hsize2 HH H1 HB2 HQ Hs hfin
      go_wp2_with fail
      go_loopw [8] (fun i wr => ∃ j : Nat, j ≤ k + 1 ∧ i = .int .i64 ((j : Int) - 1) ∧ Bld w3.heap.size w3.heap.size (txt x k j) wr ∧ Below w3.heap.size w3 wr) (fun i _ => (intOf i + 1).toNat)
      case atStart =>
        refine ⟨k + 1, Nat.le_refl _, by go_num, ?_, ?_⟩
        · rw [txt, if_pos rfl]
          exact Lib.IsBuilderF.of (Lib.fresh_isBuilder 110 5 w3)
        · exact (Below.refl _ _).alloc (Nat.le_refl _) _
      case round =>
        obtain ⟨j, hj, rfl, hbl, hB⟩ := hrel
        rcases Nat.eq_zero_or_pos j with h0 | h0
        · subst h0
          have hstr := String_c _ _ _ wr hbl hB.size
          have HE := hid (And.intro hB (show txt x k 0 = Lib.decDigits x from by unfold txt; rw [if_neg (by omega)]; simp))
          clear hbl hB
          go_wp2_with fail
          refine hstr.mono ?_
          rintro e w4 ⟨rfl, hB4⟩
          go_wp2_with fail
          go_ret
          exact ⟨by rw [HE.out.2]; rfl, HF.out.2.1.trans ((HE.out.1.trans hB4).mono HF.out.2.1.size)⟩
        · obtain ⟨t, rfl⟩ : ∃ t, j = t + 1 := ⟨j - 1, by omega⟩
          obtain ⟨p4, c4, e4, _, hs4⟩ := (HF.out.1.below hB).slc
          injection e4 with e5 _ e6
          subst e5 e6
          obtain ⟨b4, o4, rfl, hc4⟩ := hs4 (by omega)
          have hcell := hc4 t (by omega)
          have hlen : (txt x k (t + 1)).length + (fin x k t).length ≤ 140737488355328 := by
            rw [← List.length_append, txt_step x k t (by omega) HF.out.2.2]
            exact Nat.le_trans (txt_len HA.out.2.1 (by decide)) (by decide)
          have hwr := Write_c _ _ _ (fin x k t) wr hbl hlen hB.size
          rw [txt_step x k t (by omega) HF.out.2.2] at hwr
          have HB := hid hB
          have e1 : ((t + 1 : Nat) : Int) - 1 = t := by omega
          clear hs4 hc4 hlen hbl hB
          go_wp2_with fail
          refine hwr.mono ?_
          rintro e w4 ⟨rfl, hbl4, hB4, _⟩
          have HB4 := hid (And.intro hbl4 hB4)
          clear hbl4 hB4
          go_wp2_with fail
          go_roundw
          case rel => exact ⟨t, by omega, by go_num, HB4.out.1, HB.out.trans HB4.out.2⟩
          case measure => simp [intOf]
    · have hown2 : OwnS w2 w.heap.size (.slice p k cap) k (grp x) := (HH.out.2.2.2.1.below H1.out.2).below HB2.out
      have hB2 := HH.out.2.2.2.2.1.trans ((H1.out.2.trans (HB2.out.mono H1.out.2.size)).mono HH.out.2.2.2.2.1.size)
      have hq2 := H1.out.1.below HB2.out
      have hsl : s.size = Lib.nDigits r := by rw [Hs.out, str_size, Lib.decDigits_length]
      have hnd := nDigits_le (r := r) (k := 9) (by omega) (by decide)
      have hs9 : s.size ≤ 9 := by omega
      have hT2 := (HH.out.2.2.2.2.2.below H1.out.2).below HB2.out
      have HZ := hid (And.intro hsl (And.intro hown2 (And.intro hB2 (And.intro hq2 hT2))))
      clear hown2 hB2 hq2 hsl hnd hT2
      go_wp2_with (first
        | (go_at_call 76; refine (Repeat_z _ _ (by omega) (by omega)).mono ?_; rintro e w4 ⟨t, rfl, ht9, Ht, hB4⟩)
        | (at_builtin; refine wpList_append_own _ rfl _ _ 102 rfl w.heap.size 9 i0 (.string ⟨#[]⟩) 1 16 Tryz.underlying102 hi hz0 hz1 hz2 rfl (by decide) _ _ _ rfl ((show w4.ownsRow w.heap.size 9 1 (.slice p k cap) k ((List.range k).map (fun j => str (grp x j))) from HZ.out.2.1.below hB4).alloc (.cells #[.string (t ++ s)] 9)) ⟨w4.heap.size, 0, none⟩ 1 1 [.string (t ++ s)] rfl rfl (cell_one_new _ _ _) (fun x hx => by simp at hx; subst hx; rfl) (by unfold maxLen; omega) (by omega) (by rw [World.size_alloc]; exact Nat.le_succ_of_le (Nat.le_trans HZ.out.2.2.1.size hB4.size)) ?_; intro v' w5 hown' hgrow5 hnil5))
      have hg : t ++ s = ⟨(grp x k).toArray⟩ := by
        rw [Ht.out, HZ.out.1, Hs.out, str_append, show (9 - (Lib.nDigits r : Int)).toNat = 9 - Lib.nDigits r by omega, dec_pad 9 r (by omega) (by decide), grp, ← HH.out.1, HQ.out.1]
        rw [show a % 1000000000 = a % 10 ^ 9 from rfl, pad_mod]
      have h9 : 1000000000 ≤ a := by
        have := HQ.out.2
        omega
      have h10 : 10 ^ (9 * (k + 1)) ≤ x := by
        rw [pow9, Nat.mul_comm]
        rw [HH.out.1] at h9
        exact (Nat.le_div_iff_mul_le (Nat.pow_pos (by decide))).1 h9
      have hkx := Nat.lt_of_lt_of_le (lt_pow9 (k + 1)) h10
      have hqe : q = x / 10 ^ (9 * (k + 1)) := by rw [HQ.out.2, HH.out.1, pow9, Nat.div_div_eq_div_mul]
      rw [hg] at hown'
      have hown5 : OwnS w5 w.heap.size v' (k + 1) (grp x) := OwnS.push hown' rfl
      have hlt := fun z hz => (World.ownsRow.lt (HZ.out.2.1.below hB4) z hz).1
      have hB4w := HZ.out.2.2.1.trans (hB4.mono HZ.out.2.2.1.size)
      have hB5 : Below w.heap.size w w5 := (hB4w.alloc hB4w.size _).grown (show (w4.alloc _).grownBy w5 (Value.slice p k cap).ownBlock from hgrow5) (by rw [World.size_alloc]; have := hB4w.size; omega) hlt
      have hne : (Value.slice p k cap).ownBlock ≠ some wr.heap.size := fun hh => absurd (World.ownsRow.lt HH.out.2.2.2.1 _ hh).2 (Nat.lt_irrefl _)
      have hw1 : wr.heap.size < w1.heap.size := by
        obtain ⟨v0, hv0⟩ := H1.out.1.cell0 h0
        exact World.block_lt_of_cell? _ _ hv0
      have hq5 : Rep W32 w5 (.slice (some ⟨wr.heap.size, 0, none⟩) nq cq) q := ((HZ.out.2.2.2.1.below hB4).alloc _).grown (show (w4.alloc _).grownBy w5 (Value.slice p k cap).ownBlock from hgrow5) (by rw [World.size_alloc]; have := hB4.size; have := HB2.out.size; omega) hne
      obtain ⟨p5, c5, rfl, _, _⟩ := hown5.slc
      refine ⟨⟨k + 1, by omega, .inr h10, by rw [← hqe]; exact hq5, hown5, hB5, HA.out.2.2.below hB5⟩, ?_⟩
      show x + 1 - (k + 1) < x + 1 - k
      omega
end Go.Proofs.YtjnfnngobkjneaaGreatDoor
