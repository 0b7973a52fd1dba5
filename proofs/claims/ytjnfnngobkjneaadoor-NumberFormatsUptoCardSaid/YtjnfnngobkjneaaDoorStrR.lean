/- Texts of natural numbers of the specification: natText. -/
import Derived.Test.YtjnfnngobkjneaaDoorRefK
import Derived.Test.YtjnfnngobkjneaaDoorStrD
namespace Go.Proofs.YtjnfnngobkjneaaDoor
open Go.RowKit Dg Dc

/-- The block b holds words. -/
def Tag (w : World) (b : Nat) : Prop := ∃ cs fr, w.heap[b]? = some (.cells cs 59 fr)
theorem Tag.ofRow {w : World} {b n : Nat} {f : Nat → Value} (h : w.rowIs b 59 n f) : Tag w b := by
  obtain ⟨c, h, _⟩ := h
  exact ⟨c, _, h⟩
theorem Tag.lt {w : World} {b : Nat} (h : Tag w b) : b < w.heap.size := by
  obtain ⟨c, fr, h⟩ := h
  exact (Array.getElem?_eq_some_iff.1 h).1
theorem Tag.alloc {w : World} {b : Nat} (h : Tag w b) (o : Obj) : Tag (w.alloc o) b := by
  have hl := h.lt
  obtain ⟨c, fr, h⟩ := h
  exact ⟨c, fr, by rw [Below.heap_alloc w o b hl]; exact h⟩
theorem Tag.grown {w w' : World} {row : Option Nat} {b : Nat} (h : Tag w b) (hg : w.grownBy w' row) (hne : row ≠ some b) : Tag w' b := by
  have hl := h.lt
  obtain ⟨c, fr, h⟩ := h
  exact ⟨c, fr, by rw [hg.block b hl hne.symm]; exact h⟩

theorem Tryd.infoU8 : (Tryd.prog.info? 5).map (fun i => (i.zero, i.size, i.bytes)) = some (some (.int .u8 0), 1, 1) := by kernel_rfl

/-- A row of the call's own that holds the bytes l. -/
def OwnB (w : World) (base : Nat) (v : Value) (l : List UInt8) : Prop := w.ownsRow base 5 1 v l.length (Lib.byteCells l)
theorem OwnB.nil (w : World) (base : Nat) : OwnB w base (.slice none 0 0) [] := World.ownsRow_nil w base _ 1
theorem OwnB.slc {w : World} {base : Nat} {v : Value} {l : List UInt8} (h : OwnB w base v l) : ∃ p cap, v = .slice p l.length cap ∧ l.length ≤ cap ∧ (0 < l.length → ∃ b off, p = some ⟨b, off, none⟩ ∧ ∀ j (hj : j < l.length), w.cell? ⟨b, off + j, none⟩ = some (.int .u8 (l[j].toNat : Int))) := by
  rcases h.2 with ⟨hv, h0⟩ | ⟨g, cap, cur, hv, hb, hg, hn, _, hsz, htk⟩
  · obtain rfl : l = [] := List.eq_nil_of_length_eq_zero h0
    exact ⟨none, 0, hv, Nat.le_refl _, fun h => absurd h (by simp)⟩
  · refine ⟨_, cap, hv, hn, fun _ => ⟨g, 0, rfl, fun j hj => ?_⟩⟩
    rw [Nat.zero_add, cell_of_row w g j cur _ _ hg]
    have h1 : (cur.toList.take (l.length * 1))[j]? = (Lib.byteCells l)[j]? := by rw [htk]
    rw [List.getElem?_take_of_lt (by omega)] at h1
    simpa [Lib.byteCells, List.getElem?_map, List.getElem?_eq_getElem hj] using h1
theorem OwnB.below {w w' : World} {base : Nat} {v : Value} {l : List UInt8} (h : OwnB w base v l) (hb : Below w.heap.size w w') : OwnB w' base v l :=
  World.ownsRow.kept (row := none) h ⟨hb.os, hb.tape, hb.output, hb.size, fun k hk _ => hb.block k hk⟩ (by cases hv : v.ownBlock <;> simp)
theorem OwnB.push {w : World} {base : Nat} {v : Value} {l : List UInt8} {c : UInt8} {z : Int} (h : w.ownsRow base 5 1 v (l.length + 1) (Lib.byteCells l ++ [.int .u8 z])) (hz : z = (c.toNat : Int)) : OwnB w base v (l ++ [c]) := by
  unfold OwnB
  rw [List.length_append, Lib.byteCells_append, List.length_singleton]
  rw [hz] at h
  exact h
theorem OwnB.ne {w : World} {base b : Nat} {v : Value} {l : List UInt8} (h : OwnB w base v l) (ht : Tag w b) : v.ownBlock ≠ some b := by
  obtain ⟨c, fr, ht⟩ := ht
  exact Lib.ownBlock_ne h ht (by decide)

set_option maxHeartbeats 1000000 in
set_option maxRecDepth 100000 in
/-- small: the quotient lies in a new block of words. -/
theorem small_new (va : Value) (x d : Nat) (w : World) (ha : Rep B16 w va x) (hx : x < B16 ^ 1000000000) (hd : 0 < d) (hd2 : d < 65536) :
    Calls Tryd.prog 96 #[va, .int .u32 d] w fun e w' => ∃ m c, e = .returned (.tuple #[.slice (some ⟨w.heap.size, 0, none⟩) m c, .int .u32 (x % d : Nat)]) ∧ Rep B16 w' (.slice (some ⟨w.heap.size, 0, none⟩) m c) (x / d) ∧ Below w.heap.size w w' ∧ Tag w' w.heap.size := by
  obtain ⟨pa, na, ca, rfl, hca, hla, hsa⟩ := ha
  have hna := hla.le B16_pos hx
  clear hx
  have hmk := Tryd.mkN na (by omega)
  go_enter Tryd.func96, Tryd.ntmps96
  go_wp2_with fail
  clear hmk
  go_loopw [7, 8] (fun r i wr => ∃ k R Z : Nat, k ≤ na ∧ i = .int .i64 ((k : Int) - 1) ∧ r = .int .u32 R ∧ R < d ∧ R = (x / B16 ^ k) % d ∧ Z = B16 ^ k * ((x / B16 ^ k) / d) ∧ Mk B16 w wr na Z) (fun _ i _ => (intOf i + 1).toNat)
  case atStart => exact ⟨na, 0, 0, by omega, rfl, rfl, hd, by rw [Nat.div_eq_of_lt hla.1]; simp, by rw [Nat.div_eq_of_lt hla.1]; simp, Mk.start _ _ _⟩
  case round =>
    obtain ⟨k, R, Z, hk, rfl, rfl, hRd, hR, hZ, hM⟩ := hrel
    rcases Nat.eq_zero_or_pos k with h0 | h0
    · subst h0
      have HR : Hid (R = x % d) := by show R = x % d; simpa using hR
      have HZ : Hid (Z = x / d) := by show Z = x / d; simpa using hZ
      have hsl := hM.slc
      have hbel := hM.bel
      have HTg := hid (Tag.ofRow hM.row)
      have hZl : Z < B16 ^ na := by rw [HZ.out]; exact div_lt_pow16 hla.1
      clear hR hZ hM hsa
      go_wp2_with fail
      refine (trim_any _ _ _ Z _ (by omega) (Nat.le_refl _) hZl hsl).mono ?_
      rintro e w' ⟨m, rfl, hm, hlen, rfl⟩
      go_wp2_with fail
      go_ret2
      rw [← HZ.out, ← HR.out]
      exact ⟨_, _, rfl, ⟨_, _, _, rfl, hm, hlen, hsl.take (by omega)⟩, hbel, HTg.out⟩
    · obtain ⟨t, rfl⟩ : ∃ t, k = t + 1 := ⟨k - 1, by omega⟩
      have hsa' := hsa.below hM.bel
      obtain ⟨b1, o1, rfl, hc1⟩ := hsa' (by omega)
      have hk1 := hc1 t (by omega)
      have e1 : ((t + 1 : Nat) : Int) - 1 = t := by omega
      rw [e1]
      clear e1
      have HS : Hid (∀ q, q = (R * B16 + dg B16 x t) / d → q < B16 ∧ setd B16 Z t q = B16 ^ t * ((x / B16 ^ t) / d) ∧ (x / B16 ^ t) % d = (R * B16 + dg B16 x t) % d) := fun q hq => by
        rw [hR] at hq ⊢; rw [hZ]; exact divw_step16 hd hq
      have hdx := dg_16 x t
      have hcell := hM.cell (show t < na by omega)
      have hfrz := hM.row.frozen t
      clear hR hZ hc1 hsa
      generalize dg B16 x t = g at *
      have hb1 : R * 65536 + g < 4294967296 := by omega
      have hu1 : IntKind.u32.wrap ((R : Int) * 65536) = (R : Int) * 65536 := by simp [IntKind.wrap, IntKind.bits, IntKind.signed]; omega
      have hu2 : IntKind.u32.wrap ((R : Int) * 65536 + g) = (R : Int) * 65536 + g := by simp [IntKind.wrap, IntKind.bits, IntKind.signed]; omega
      go_wp2_with fail
      go_roundw
      case rel =>
        obtain ⟨h1, h2, h3⟩ := HS.out _ rfl
        have hs := hM.set B16_pos t _ h1
        rw [B16_val] at h3 hs
        refine ⟨t, (R * 65536 + g) % d, _, by omega, rfl, congrArg (Value.int .u32) (cast_rem16 R g d).symm, Nat.mod_lt _ hd, h3.symm, h2, ?_⟩
        rw [← cast_quo16]
        exact hs
      case measure => simp [intOf]

theorem b16_ten (m : Nat) : B16 ^ m ≤ 10 ^ (5 * m) := by
  rw [Nat.pow_mul]
  exact Nat.pow_le_pow_left (by decide) _
theorem lt_powB {x a k : Nat} (h : x < B16 ^ a) (ha : a ≤ k) : x < B16 ^ k := Nat.lt_of_lt_of_le h (Nat.pow_le_pow_right B16_pos ha)
theorem lt_big16 {x a : Nat} (h : x < B16 ^ a) (hab : a ≤ 1000000000) : x < B16 ^ 1000000000 := by
  revert hab
  generalize 1000000000 = b
  intro hab
  exact Nat.lt_of_lt_of_le h (Nat.pow_le_pow_right B16_pos hab)
theorem four_le {x k m : Nat} (hx : x < B16 ^ m) (h : 10 ^ (4 * k) ≤ x) : 4 * k < 5 * m :=
  (Nat.pow_lt_pow_iff_right (show 1 < 10 by decide)).1 (Nat.lt_of_le_of_lt h (Nat.lt_of_lt_of_le hx (b16_ten m)))
theorem dig4 (y i : Nat) (hi : i < 4) : y % 10000 / 10 ^ i % 10 = y / 10 ^ i % 10 := by
  have h : i = 0 ∨ i = 1 ∨ i = 2 ∨ i = 3 := by omega
  rcases h with rfl | rfl | rfl | rfl <;> simp <;> omega
theorem toNat_dig (d : Nat) : (UInt8.ofNat (48 + d % 10)).toNat = 48 + d % 10 := digit_toNat (Nat.mod_lt _ (by decide))

/-- The digit of x at place j. -/
def dgt (x j : Nat) : Nat := x / 10 ^ j % 10
theorem dgt_lt (x j : Nat) : dgt x j < 10 := Nat.mod_lt _ (by decide)
theorem OwnB.revs {w : World} {base K x : Nat} {v : Value} (h : OwnB w base v (rev K x)) : ∃ p cap, v = .slice p K cap ∧ K ≤ cap ∧ (0 < K → ∃ b off, p = some ⟨b, off, none⟩ ∧ ∀ j, j < K → w.cell? ⟨b, off + j, none⟩ = some (.int .u8 ((48 + dgt x j : Nat) : Int))) := by
  obtain ⟨p, cap, hv, hc, hs⟩ := h.slc
  rw [rev_length] at hv hc
  refine ⟨p, cap, hv, hc, fun h0 => ?_⟩
  obtain ⟨b, off, hp, hj⟩ := hs (by rw [rev_length]; exact h0)
  refine ⟨b, off, hp, fun j hK => ?_⟩
  have h1 := rev_get K x j hK
  have h2 := hj j (by rw [rev_length]; exact hK)
  rw [List.getElem?_eq_getElem (by rw [rev_length]; exact hK), Option.some.injEq] at h1
  rw [h2, h1, toNat_dig]
  rfl
theorem lt_of_dgt {x n : Nat} (h : x < 10 ^ (n + 1)) (hd : dgt x n = 0) : x < 10 ^ n := by
  unfold dgt at hd
  have h1 : x / 10 ^ n < 10 := Nat.div_lt_of_lt_mul (by rwa [Nat.pow_succ] at h)
  rw [Nat.mod_eq_of_lt h1] at hd
  rcases Nat.lt_or_ge x (10 ^ n) with h2 | h2
  · exact h2
  · have := Nat.div_pos h2 (Nat.pow_pos (show 0 < 10 by decide)); omega
theorem ge_of_dgt {x n : Nat} (hd : dgt x n ≠ 0) : 10 ^ n ≤ x := by
  rcases Nat.lt_or_ge x (10 ^ n) with h | h
  · exact absurd (by unfold dgt; rw [Nat.div_eq_of_lt h]) hd
  · exact h
theorem pad_whole {x n : Nat} (h : x < 10 ^ n) (h1 : n = 1 ∨ (2 ≤ n ∧ dgt x (n - 1) ≠ 0)) : pad n x = Lib.decDigits x := by
  rcases h1 with rfl | ⟨h2, h3⟩
  · have hx : x < 10 := by simpa using h
    rw [dec_small hx, pad_one, Nat.mod_eq_of_lt hx]
  · obtain ⟨m, rfl⟩ : ∃ m, n = m + 1 := ⟨n - 1, by omega⟩
    rw [Nat.add_sub_cancel] at h3
    exact (dec_eq_pad m x (ge_of_dgt h3) h).symm
theorem pad_get (n x j t : Nat) (h : n = j + 1 + t) : (pad n x).take (j + 1) = (pad n x).take j ++ [UInt8.ofNat (48 + dgt x t)] := by
  have hl := pad_length n x
  rw [List.take_add_one]
  congr 1
  have h1 : (pad n x)[j]? = (rev n x)[t]? := by
    rw [rev, List.getElem?_reverse (by omega), hl]
    congr 1
    omega
  rw [h1, rev_get n x t (by omega)]
  rfl

theorem Tryd.mk0B (N : Nat) (hN : N ≤ 2000000000) (w : World) : (Instr.makeSlice 102 (.int .i64 0) (.int .i64 (N : Int))).run Tryd.prog w = .ok (.slice (some ⟨w.heap.size, 0, none⟩) 0 N) (w.alloc (.cells (madeCells #[.int .u8 0] N) 5)) := by
  obtain ⟨i, hi, hzz⟩ := Option.map_eq_some_iff.1 Tryd.infoU8
  simp only [Prod.mk.injEq] at hzz
  obtain ⟨hz, hs, hb⟩ := hzz
  have hr := run_make (P := Tryd.prog) w 102 5 i (.int .u8 0) Tryd.underlying102 hi hz .i64 .i64 0 N (by omega) (by omega) (by rw [hb]; omega) (by omega)
  simpa [hs, Value.cells] using hr
theorem own_madeB (w : World) (base N : Nat) (hb : base ≤ w.heap.size) (hN : N ≤ 2000000000) : OwnB (w.alloc (.cells (madeCells #[.int .u8 0] N) 5)) base (.slice (some ⟨w.heap.size, 0, none⟩) 0 N) [] :=
  World.ownsRow_made w _ N hb (by unfold maxLen; omega) (by simp [madeCells])

/-- The outer loop of natText. -/
def TxtRel (w0 : World) (x : Nat) (va vb : Value) (wr : World) : Prop :=
  ∃ k, k ≤ x ∧ 4 * k ≤ 10004 ∧ Rep B16 wr va (x / 10 ^ (4 * k)) ∧ OwnB wr w0.heap.size vb (rev (4 * k) x) ∧ Below w0.heap.size w0 wr
/-- The inner loop: i digits of a part of four. -/
def InnRel (w0 : World) (x k a S m c : Nat) (vb vr vi : Value) (wi : World) : Prop :=
  ∃ i r : Nat, i ≤ 4 ∧ vi = .int .i64 i ∧ vr = .int .u32 r ∧ r = a % 10000 / 10 ^ i ∧ OwnB wi w0.heap.size vb (rev (4 * k + i) x) ∧ Below w0.heap.size w0 wi ∧ Rep B16 wi (.slice (some ⟨S, 0, none⟩) m c) (a / 10000) ∧ Tag wi S

set_option maxHeartbeats 4000000 in
set_option maxRecDepth 100000 in
theorem natText_any (va : Value) (x : Nat) (w : World) (ha : Rep B16 w va x) (hx : x < B16 ^ 2000) :
    Calls Tryd.prog 75 #[va] w fun e w' => e = .returned (str (Lib.decDigits x)) ∧ Below w.heap.size w w' := by
  obtain ⟨i0, hi, hz0, hz1, hz2⟩ := info_parts Tryd.infoU8
  have HA := hid (And.intro ha hx)
  obtain ⟨pa, na, ca, rfl, _, hl, _⟩ := ha
  clear hx
  have hzz := hl.zero_iff B16_pos
  by_cases h0 : na = 0
  · subst h0
    have hx0 : x = 0 := hzz.2 rfl
    clear hzz hl
    go_enter Tryd.func75, Tryd.ntmps75
    go_wp2_with fail
    go_ret
    exact ⟨by rw [hx0, dec_small (by decide)]; rfl, Below.refl _ _⟩
  · have hf : ((na : Int) == 0) = false := by simpa using h0
    have hx0 := hid (fun h : x = 0 => h0 (hzz.1 h))
    clear hzz hl
    go_enter Tryd.func75, Tryd.ntmps75
    go_wp2_with fail
    go_loopw [0, 3] (fun a v wr => TxtRel w x a v wr) (fun _ v _ => 4 * x + 4 - lenV v)
    case atStart => exact ⟨0, Nat.zero_le _, by omega, by simpa using HA.out.1, OwnB.nil _ _, Below.refl _ _⟩
    case round =>
      rename World => wo
      obtain ⟨k, hkx, hk4, hr, hown, hB⟩ := hrel
      obtain ⟨a, ha⟩ : ∃ a, a = x / 10 ^ (4 * k) := ⟨_, rfl⟩
      rw [← ha] at hr
      obtain ⟨p1, n1, c1, rfl, _, hl1, _⟩ := id hr
      obtain ⟨pb, cb, rfl, hcb, _⟩ := hown.revs
      have hz1' := hl1.zero_iff B16_pos
      have HH := hid (And.intro ha (And.intro hkx (And.intro hr (And.intro hown hB))))
      by_cases hn1 : n1 = 0
      · subst hn1
        have ha0 : a = 0 := hz1'.2 rfl
        have hlt : x < 10 ^ (4 * k) := by
          rcases Nat.lt_or_ge x (10 ^ (4 * k)) with h | h
          · exact h
          · have := Nat.div_pos h (Nat.pow_pos (show 0 < 10 by decide)); omega
        have hk1 : 1 ≤ 4 * k := by
          rcases Nat.eq_zero_or_pos k with h | h
          · subst h; exact absurd (by simpa using hlt) hx0.out
          · omega
        obtain ⟨K, hK⟩ : ∃ K, K = 4 * k := ⟨_, rfl⟩
        rw [← hK] at hlt hk1 hk4 hown
        obtain ⟨p2, c2, e2, _, hs2⟩ := hown.revs
        rw [← hK] at hcb
        injection e2 with e3 _ e4
        subst e3 e4
        obtain ⟨bb, ob, rfl, hcell⟩ := hs2 (by omega)
        have HC := hid hcell
        have HLT := hid hlt
        clear hs2 hcell hkx ha hr hown hl1 hz1' ha0 HH hlt
        have HB := hid hB
        clear hB
        go_upto_region 12 with fail
        rw [← hK]
        clear hK
        go_wp2_with fail
        go_loop [6] (fun nv => ∃ n : Nat, 1 ≤ n ∧ n ≤ K ∧ nv = .int .i64 n ∧ x < 10 ^ n) (fun nv => (intOf nv).toNat)
        case atStart => exact ⟨K, hk1, Nat.le_refl _, rfl, HLT.out⟩
        case round =>
          obtain ⟨n, hn1', hnK, rfl, hxn⟩ := hrel
          have hcl := HC.out (n - 1) (by omega)
          have hdl := dgt_lt x (n - 1)
          have HXN := hid hxn
          clear hxn
          by_cases hc : 2 ≤ n ∧ dgt x (n - 1) = 0
          · obtain ⟨hc2, hcd⟩ := hc
            obtain ⟨m, rfl⟩ : ∃ m, n = m + 1 := ⟨n - 1, by omega⟩
            rw [Nat.add_sub_cancel] at hcl hcd
            have e1 : ((m + 1 : Nat) : Int) - 1 = m := by omega
            have HN := hid (lt_of_dgt HXN.out hcd)
            rw [hcd] at hcl
            clear hcd hdl
            go_wp2_with fail
            go_round
            case rel => exact ⟨m, by omega, by omega, by go_num, HN.out⟩
            case measure => simp [intOf]
          · have hex : n = 1 ∨ (2 ≤ n ∧ dgt x (n - 1) ≠ 0) := by
              rcases Nat.lt_or_ge n 2 with h | h
              · exact .inl (by omega)
              · exact .inr ⟨h, fun h2 => hc ⟨h, h2⟩⟩
            have HP := hid (pad_whole HXN.out hex)
            clear hc HXN
            rcases hex with h1 | ⟨h2, h3⟩
            all_goals
              have hmk := Tryd.mk0B n (by omega)
              first
                | (have hg : decide ((n : Int) > 1) = false := by simp; omega
                   clear h1
                   go_wp2_with fail)
                | (have hg : decide ((n : Int) > 1) = true := by simp; omega
                   have hne : ((((48 + dgt x (n - 1) : Nat)) : Int) == 48) = false := by simp; omega
                   have e1 : ((n : Int) - 1) = ((n - 1 : Nat) : Int) := by omega
                   generalize dgt x (n - 1) = d at *
                   go_wp2_with fail)
              clear hmk
              go_loopw [7, 8] (fun v iv wr => ∃ j : Nat, j ≤ n ∧ iv = .int .i64 ((n : Int) - 1 - j) ∧ OwnB wr wo.heap.size v ((pad n x).take j) ∧ Below wo.heap.size wo wr) (fun _ iv _ => (intOf iv + 1).toNat)
              case atStart =>
                refine ⟨0, Nat.zero_le _, by first | go_num | (congr 1; omega), own_madeB wo _ n (Nat.le_refl _) (by omega), (Below.refl _ _).alloc (Nat.le_refl _) _⟩
              case round =>
                obtain ⟨j, hj, rfl, hown, hBr⟩ := hrel
                have hsize := hBr.size
                by_cases hlt : j < n
                · obtain ⟨t, ht⟩ : ∃ t, n = j + 1 + t := ⟨n - 1 - j, by omega⟩
                  have hct : wr.cell? ⟨bb, ob + t, none⟩ = some (.int .u8 ((48 + dgt x t : Nat) : Int)) := by
                    have h1 := HC.out t (by omega)
                    rw [hBr.cell (World.block_lt_of_cell? _ _ h1)]
                    exact h1
                  have hdt := dgt_lt x t
                  have hpg := hid (pad_get n x j t ht)
                  have e2 : ((n : Int) - 1 - j) = (t : Int) := by omega
                  have hl := pad_length n x
                  have hlj : ((pad n x).take j).length = j := by rw [List.length_take, hl]; omega
                  have hal := (show wr.ownsRow wo.heap.size 5 1 _ ((pad n x).take j).length (Lib.byteCells ((pad n x).take j)) from hown).alloc (.cells #[.int .u8 ((48 + dgt x t : Nat) : Int)] 5)
                  rw [hlj] at hal
                  have hown1 := fun z hz => (World.ownsRow.lt hown z hz).1
                  have HX := hid (And.intro hal (And.intro hBr (And.intro hown1 (And.intro hlj (toNat_dig (x / 10 ^ t))))))
                  have HT := hid ht
                  clear hal hown hBr hown1 hlj hl ht
                  rw [e2]
                  have e3 : (t : Int) < (K : Int) := by have := HT.out; omega
                  clear e2
                  go_wp2_with (first
                    | (at_builtin; refine wpList_append_own _ rfl _ _ 102 rfl wo.heap.size 5 i0 (.int .u8 0) 1 1 Tryd.underlying102 hi hz0 hz1 hz2 rfl (by decide) _ _ _ rfl HX.out.1 ⟨wr.heap.size, 0, none⟩ 1 1 [.int .u8 ((48 + dgt x t : Nat) : Int)] rfl rfl (cell_one_new _ _ _) (fun x hx => by simp at hx; subst hx; rfl) (by unfold maxLen; omega) (by omega) (by simp; omega) ?_; intro v' w3 hown' hgrow3 hnil3))
                  refine ⟨⟨j + 1, hlt, congrArg (Value.int .i64) (by have := HT.out; omega), ?_, ?_⟩, ?_⟩
                  · rw [hpg.out]
                    refine OwnB.push ?_ (congrArg (fun z : Nat => (z : Int)) HX.out.2.2.2.2.symm)
                    rw [HX.out.2.2.2.1]
                    exact hown'
                  · exact (HX.out.2.1.alloc hsize _).grown (show (wr.alloc _).grownBy w3 _ from hgrow3) (by rw [World.size_alloc]; omega) HX.out.2.2.1
                  · simp [intOf]
                · obtain rfl : j = n := by omega
                  have hl := pad_length j x
                  rw [List.take_of_length_le (by omega)] at hown
                  obtain ⟨p5, c5, rfl, _, hs5⟩ := hown.slc
                  obtain ⟨b5, o5, rfl, hc5⟩ := hs5 (by omega)
                  have hcv := run_convert_bytes_back (P := Tryd.prog) wr 102 9 5 ⟨b5, o5, none⟩ c5 (pad j x) Tryd.underlying102 Tryd.underlying5 Tryd.underlying9 (fun q hq => by
                    rw [Lib.add_plain]
                    exact hc5 q hq)
                  have e2 : ((j : Int) - 1 - j) = -1 := by omega
                  have HF := hid (And.intro hBr hl)
                  clear hown hs5 hc5 hBr
                  rw [e2]
                  rw [hl] at hcv ⊢
                  clear e2 hl
                  go_wp2_with fail
                  go_ret
                  exact ⟨by rw [← HP.out]; rfl, HB.out.trans (HF.out.1.mono HB.out.size)⟩
      · have hf1 : decide ((n1 : Int) > 0) = true := by simp; omega
        have ha0 := hid (fun h : a = 0 => hn1 (hz1'.1 h))
        have hax : a < B16 ^ 1000000000 := by
          rw [ha]
          exact Nat.lt_of_le_of_lt (Nat.div_le_self _ _) (lt_big16 HA.out.2 (by omega))
        have hle : 10 ^ (4 * k) ≤ x := by
          rcases Nat.lt_or_ge x (10 ^ (4 * k)) with h | h
          · exact absurd (ha.trans (Nat.div_eq_of_lt h)) ha0.out
          · exact h
        have hk5 := four_le HA.out.2 hle
        have hkx1 : k + 1 ≤ x := by
          have h1 := Nat.lt_pow_self (n := 4 * k) (a := 10) (by decide)
          omega
        have hsm := small_new _ a 10000 wo hr hax (by decide) (by decide)
        obtain ⟨r, hr0⟩ : ∃ r, r = a % 10000 := ⟨_, rfl⟩
        have hr4 : r < 10000 := by rw [hr0]; exact Nat.mod_lt _ (by decide)
        rw [← hr0] at hsm
        have HR := hid hr0
        clear hkx ha hr hown hB hl1 hz1' hax hle hr0
        go_wp2_with fail
        refine hsm.mono ?_
        clear hsm
        rintro e w1 ⟨m, c, rfl, hq, hB1, hT1⟩
        have HK := hid (And.intro hq (And.intro hB1 hT1))
        clear hq hB1 hT1
        go_wp2_with fail
        go_loopw [3, 5, 20] (fun b rv iv wi => InnRel w x k a wo.heap.size m c b rv iv wi) (fun _ _ iv _ => 4 - (intOf iv).toNat)
        case atStart => exact ⟨0, r, by omega, rfl, rfl, by rw [HR.out]; simp, HH.out.2.2.2.1.below HK.out.2.1, HH.out.2.2.2.2.trans (HK.out.2.1.mono HH.out.2.2.2.2.size), HK.out.1, HK.out.2.2⟩
        case round =>
          obtain ⟨i, t, hi4, rfl, rfl, ht, hown, hB, hq, hT⟩ := hrel
          by_cases hlt : i < 4
          · have ht4 : t < 10000 := by
              rw [ht]
              exact Nat.lt_of_le_of_lt (Nat.div_le_self _ _) (Nat.mod_lt _ (by decide))
            have hal := (show wr.ownsRow w.heap.size 5 1 _ (rev (4 * k + i) x).length (Lib.byteCells (rev (4 * k + i) x)) from hown).alloc (.cells #[.int .u8 (48 + (t : Int) % 10)] 5)
            rw [rev_length] at hal
            have hown1 := fun z hz => (World.ownsRow.lt hown z hz).1
            have hsz := hB.size
            have HX := hid (And.intro hal (And.intro hown (And.intro hB (And.intro hq (And.intro hT (And.intro ht hown1))))))
            clear hal hown hB hq hT ht hown1
            go_wp2_with (first
              | (at_builtin; refine wpList_append_own _ rfl _ _ 102 rfl w.heap.size 5 i0 (.int .u8 0) 1 1 Tryd.underlying102 hi hz0 hz1 hz2 rfl (by decide) _ _ _ rfl HX.out.1 ⟨wr.heap.size, 0, none⟩ 1 1 [.int .u8 (48 + (t : Int) % 10)] rfl rfl (cell_one_new _ _ _) (fun x hx => by simp at hx; subst hx; rfl) (by unfold maxLen; omega) (by omega) (by simp; omega) ?_; intro v' w3 hown' hgrow3 hnil3))
            have hd : (48 + (t : Int) % 10) = ((UInt8.ofNat (48 + x / 10 ^ (4 * k + i) % 10)).toNat : Int) := by
              have e1 : t % 10 = x / 10 ^ (4 * k + i) % 10 := by
                rw [HX.out.2.2.2.2.2.1, dig4 _ _ hlt, HH.out.1, Nat.div_div_eq_div_mul, Nat.pow_add]
              rw [toNat_dig, ← e1]
              omega
            have hne := OwnB.ne (HX.out.2.1.below ((Below.refl _ _).alloc (Nat.le_refl _) _)) (HX.out.2.2.2.2.1.alloc (.cells #[.int .u8 (48 + (t : Int) % 10)] 5))
            refine ⟨⟨i + 1, t / 10, by omega, by go_num, congrArg (Value.int .u32) (by omega), by rw [HX.out.2.2.2.2.2.1, Nat.div_div_eq_div_mul, Nat.pow_succ], ?_, ?_, ?_, ?_⟩, ?_⟩
            · rw [← Nat.add_assoc, rev_snoc]
              refine OwnB.push ?_ hd
              rw [rev_length]
              exact hown'
            · exact (HX.out.2.2.1.alloc hsz _).grown (show (wr.alloc _).grownBy w3 _ from hgrow3) (by rw [World.size_alloc]; omega) HX.out.2.2.2.2.2.2
            · exact (HX.out.2.2.2.1.alloc _).grown (show (wr.alloc _).grownBy w3 _ from hgrow3) (HX.out.2.2.2.2.1.alloc _).lt hne
            · exact (HX.out.2.2.2.2.1.alloc _).grown (show (wr.alloc _).grownBy w3 _ from hgrow3) hne
            · simp [intOf]; omega
          · obtain rfl : i = 4 := by omega
            have HX := hid (And.intro hown (And.intro hB hq))
            obtain ⟨p4, c4, rfl, _, _⟩ := hown.slc
            clear hown hB hq hT ht
            go_wp2_with fail
            refine ⟨⟨k + 1, hkx1, by omega, ?_, HX.out.1, HX.out.2.1⟩, ?_⟩
            · rw [Nat.mul_add, Nat.pow_add, ← Nat.div_div_eq_div_mul, ← HH.out.1]
              exact HX.out.2.2
            · simp only [lenV, rev_length]
              omega
end Go.Proofs.YtjnfnngobkjneaaDoor
