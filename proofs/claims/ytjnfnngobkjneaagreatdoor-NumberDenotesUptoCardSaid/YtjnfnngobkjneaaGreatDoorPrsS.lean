/- Texts of numbers of the program: Parse. -/
import Derived.Test.YtjnfnngobkjneaaGreatDoorPrsR
import Derived.Test.YtjnfnngobkjneaaGreatDoorLawC
namespace Go.Proofs.YtjnfnngobkjneaaGreatDoor
open Go.RowKit Dg Dc

/-- The fraction of a text, and the error. -/
def ttrip (l : List UInt8) : Bool × Nat × Nat := match rat (body l) with
  | some (n, d) => frac (neg? l) n d
  | none => (false, 0, 1)
def tcode (l : List UInt8) : Int := if 1240 < l.length then 4 else match rat (body l) with
  | none => 3
  | some (n, d) => if d = 0 then 10 else if big (frac (neg? l) n d).2.1 (frac (neg? l) n d).2.2 then 1 else 0
theorem tcode_long {l : List UInt8} (h : 1240 < l.length) : tcode l = 4 := if_pos h
theorem tcode_none {l : List UInt8} (h : ¬ 1240 < l.length) (hr : rat (body l) = none) : tcode l = 3 := by
  unfold tcode; rw [if_neg h, hr]
theorem tcode_zero {l : List UInt8} {n : Nat} (h : ¬ 1240 < l.length) (hr : rat (body l) = some (n, 0)) : tcode l = 10 := by
  unfold tcode; rw [if_neg h, hr]; rfl
theorem tcode_some {l : List UInt8} {n d : Nat} (h : ¬ 1240 < l.length) (hr : rat (body l) = some (n, d)) (hd : d ≠ 0) : tcode l = (if big (ttrip l).2.1 (ttrip l).2.2 then 1 else 0) ∧ ttrip l = frac (neg? l) n d := by
  have e : ttrip l = frac (neg? l) n d := by unfold ttrip; rw [hr]
  refine ⟨?_, e⟩
  rw [e]
  unfold tcode; rw [if_neg h, hr]
  exact if_neg hd

theorem nParse_ret {W : World} {B : Nat} {x y z ev : Value} {tm : Array Value} {R : Ending → World → Prop} (h2 : tm[2]?.getD undef = .pointer (some ⟨B, 0, none⟩)) (h3 : tm[3]?.getD undef = ev) (hV : Var3 W B x y z)
    (hR : R (.returned (.tuple #[.agg #[x, y, z], ev])) W) : bodyPost Tryz.prog Tryz.f12 R .ret { tmps := tm, defers := [] } W := by
  obtain ⟨c0, c1, c2, _, _, _⟩ := hV.cells
  exact bodyPost_ret (v := .tuple #[.agg #[x, y, z], ev]) (by simp [results, Tryz.results12, go_sem, h2, h3, c0, c1, c2]) rfl hR

theorem CutPrefix_s (l : List UInt8) (w : World) (hl : l.length ≤ 1000000) :
    Calls Tryz.prog 37 #[str l, .string ⟨#[45]⟩] w fun e w' => ∃ S : ByteArray, e = .returned (.tuple #[.string S, .bool (neg? l)]) ∧ Hid (S = ⟨(body l).toArray⟩) ∧ w = w' :=
  (CutPrefix_any l w hl).mono fun _ _ h => ⟨_, h.1, hid rfl, h.2⟩
theorem ten_w20 {x k : Nat} (h : x < 10 ^ k) (hk : k ≤ 20000000) : x < W32 ^ 20000000 := by
  have h2 : x < W32 ^ k := Nat.lt_of_lt_of_le h (Nat.pow_le_pow_left (by decide) k)
  revert hk
  generalize 20000000 = b
  intro hk
  exact Nat.lt_of_lt_of_le h2 (Nat.pow_le_pow_right W32_pos hk)
theorem URF_err {w : World} {c : Int} {t : Bool × Nat × Nat} (hc : c ≠ 0) : URF w (.returned (.tuple #[.agg #[.bool false, .slice none 0 0, .slice none 0 0], .int .i64 c])) c (resT c t) := by
  refine ⟨_, _, _, _, _, _, _, rfl, hid ?_⟩
  rw [resT, if_neg hc]
  exact ⟨_, _, rfl, Rep.nil, Rep.nil⟩

set_option maxHeartbeats 8000000 in
set_option maxRecDepth 100000 in
theorem nParse_any (l : List UInt8) (w : World) (ht : TabOk w) :
    Calls Tryz.prog 12 #[str l] w fun e w' => Below w.heap.size w w' ∧ URF w' e (tcode l) (resT (tcode l) (ttrip l)) := by
  have hS := str_size l
  have HCut := hid (fun (hh : ¬ 1240 < l.length) (W : World) => CutPrefix_s l W (by omega))
  unfold str at *
  obtain ⟨S, hSe⟩ : ∃ S : ByteArray, S = ⟨l.toArray⟩ := ⟨_, rfl⟩
  rw [← hSe] at hS HCut ⊢
  clear hSe
  have HV := hid (Var3.alloc w (x := .bool false) (y := .slice none 0 0) (z := .slice none 0 0) 24 trivial trivial trivial)
  have hal := (Below.refl w.heap.size w).alloc (Nat.le_refl _) (.cells #[.bool false, .slice none 0 0, .slice none 0 0] 24)
  have HT := hid (ht.below hal)
  have HB := hid hal
  clear ht hal
  obtain ⟨pc, hpc⟩ : ∃ c, c = tcode l := ⟨_, rfl⟩
  obtain ⟨pt, hpt⟩ : ∃ c, c = ttrip l := ⟨_, rfl⟩
  rw [← hpc, ← hpt]
  by_cases hlong : 1240 < l.length
  · have h4 := hpc.trans (tcode_long hlong)
    subst h4
    have hg : decide ((S.size : Int) > 1240) = true := by simp; omega
    clear hpc hpt hS hlong
    go_enter Tryz.func12, Tryz.ntmps12
    go_upto_region 1 with fail
    generalize w.alloc (.cells #[.bool false, .slice none 0 0, .slice none 0 0] 24) = W0 at *
    obtain ⟨x0, x1, x2, y0, y1, y2⟩ := HV.out.cells
    go_wp2_with fail
    exact nParse_ret rfl rfl (HV.out.store trivial trivial trivial) ⟨below_set3 HB.out (Nat.le_refl _), URF_err (by decide)⟩
  · have hg : decide ((S.size : Int) > 1240) = false := by simp; omega
    have hbl := body_le l
    have HRa := hid (fun (W : World) => ratio_any (body l) W (by omega))
    unfold str at HRa
    obtain ⟨nb, hnb⟩ : ∃ b, b = neg? l := ⟨_, rfl⟩
    rw [← hnb] at HCut
    go_enter Tryz.func12, Tryz.ntmps12
    go_upto_region 1 with fail
    generalize w.alloc (.cells #[.bool false, .slice none 0 0, .slice none 0 0] 24) = W0 at *
    have HP := hid (And.intro hpc (And.intro hpt (And.intro hlong hnb)))
    clear hpc hpt hlong hbl hS hnb
    go_wp2_with fail
    refine (HCut.out HP.out.2.2.1 W0).mono ?_
    rintro e w1 ⟨S1, rfl, HS1, rfl⟩
    rw [← HS1.out] at HRa
    go_wp2_with fail
    refine (HRa.out W0).mono ?_
    rintro e w1 ⟨hB1, ⟨hr, rfl⟩ | ⟨n, d, vn, vd, hr, rfl, hvn, hvd⟩⟩
    · have h3 := HP.out.1.trans (tcode_none HP.out.2.2.1 hr)
      subst h3
      replace HB := hid (HB.out.trans (hB1.mono HB.out.size))
      replace HV := hid (HV.out.below hB1)
      clear hB1 hr
      obtain ⟨x0, x1, x2, y0, y1, y2⟩ := HV.out.cells
      go_wp2_with fail
      exact nParse_ret rfl rfl (HV.out.store trivial trivial trivial) ⟨below_set3 HB.out (Nat.le_refl _), URF_err (by decide)⟩
    · replace HB := hid (HB.out.trans (hB1.mono HB.out.size))
      replace HV := hid (HV.out.below hB1)
      replace HT := hid (HT.out.below hB1)
      have hz := IsZero_any _ d w1 hvd
      have HN := hid (And.intro hvn (And.intro hvd hr))
      clear hB1 hr hvn hvd
      go_wp2_with fail
      refine hz.mono ?_
      clear hz
      rintro e w2 ⟨rfl, rfl⟩
      by_cases h0 : d = 0
      · subst h0
        have h10 := HP.out.1.trans (tcode_zero HP.out.2.2.1 HN.out.2.2)
        subst h10
        obtain ⟨x0, x1, x2, y0, y1, y2⟩ := HV.out.cells
        go_wp2_with fail
        exact nParse_ret rfl rfl (HV.out.store trivial trivial trivial) ⟨below_set3 HB.out (Nat.le_refl _), URF_err (by decide)⟩
      · have hps := tcode_some HP.out.2.2.1 HN.out.2.2 h0
        have hlt := rat_lt HN.out.2.2
        have hbl := body_le l
        have hll := HP.out.2.2.1
        have hn1 : n < W32 ^ 20000000 := ten_w20 hlt.1 (by omega)
        have hd1 : d < W32 ^ 20000000 := ten_w20 hlt.2 (by omega)
        have hn2 : n < W32 ^ 1000000000 := ten_w32 hlt.1 (by omega)
        have hd2 : d < W32 ^ 1000000000 := ten_w32 hlt.2 (by omega)
        have HNw := hid (fun (W : World) (ha : Rep W32 W vn n) (hb : Rep W32 W vd d) (hT : TabOk W) => New_any (neg? l) vn vd n d W ha hb hn1 hd1 (Nat.pos_of_ne_zero h0) hT)
        have HRt := hid (fun (W : World) (v : Value) (hF : FNorm W v (frac (neg? l) n d)) => FracRat_open v _ W hF (Nat.lt_of_le_of_lt (Nat.div_le_self _ _) hn2) (Nat.lt_of_le_of_lt (Nat.div_le_self _ _) hd2))
        have hptl : pt = frac (neg? l) n d := HP.out.2.1.trans hps.2
        have hpcl : pc = (if big pt.2.1 pt.2.2 then 1 else 0) := by rw [HP.out.1, hps.1, HP.out.2.1]
        rw [← HP.out.2.2.2] at HNw
        rw [← hptl] at HRt
        rw [← HP.out.2.2.2] at hptl
        have HQ := hid (And.intro hptl hpcl)
        have hfz : decide (d = 0) = false := decide_eq_false h0
        clear hps hlt hbl hn1 hd1 hn2 hd2 hptl hpcl h0
        go_wp2_with fail
        refine (HNw.out w1 HN.out.1 HN.out.2.1 HT.out).mono ?_
        rintro e w3 ⟨v3, rfl, hF3, hB3⟩
        replace HB := hid (HB.out.trans (hB3.mono HB.out.size))
        replace HV := hid (HV.out.below hB3)
        have hRt := HRt.out w3 v3 (by rw [HQ.out.1]; exact hF3)
        clear hB3 hF3 HNw HRt
        go_wp2_with fail
        refine hRt.mono ?_
        clear hRt
        rintro e w4 ⟨hB4, hR4⟩
        replace HB := hid (HB.out.trans (hB4.mono HB.out.size))
        replace HV := hid (HV.out.below hB4)
        rw [← HQ.out.2] at hR4
        have hU := hR4.uniF
        clear hB4 hR4
        obtain ⟨sg, pa, ka, ca, pb, kb, cb, rfl, hF⟩ := hU
        obtain ⟨x0, x1, x2, y0, y1, y2⟩ := HV.out.cells
        go_wp2_with fail
        exact nParse_ret rfl rfl (HV.out.store trivial trivial trivial) ⟨below_set3 HB.out (Nat.le_refl _), _, _, _, _, _, _, _, rfl, hid (hF.out.store3 HV.out _ _ _)⟩
end Go.Proofs.YtjnfnngobkjneaaGreatDoor
