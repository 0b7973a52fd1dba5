/- The law NumberBits. -/
import Derived.Test.YtdinpeglclkjhaaDoorLawD
namespace Go.Proofs.YtdinpeglclkjhaaDoor
open Go.RowKit Dg

theorem exists_len2 (x : Nat) : ∃ b, Len 2 x b := by
  induction x using Nat.strongRecOn with
  | _ x ih =>
    by_cases h : x = 0
    · exact ⟨0, by subst h; exact Len.zero⟩
    · obtain ⟨b, hb⟩ := ih (x / 2) (by omega)
      refine ⟨b + 1, ?_, fun _ => ?_⟩
      · have h1 := hb.1
        rw [Nat.pow_succ]
        omega
      · rw [Nat.add_sub_cancel]
        rcases Nat.eq_zero_or_pos b with h0 | h0
        · subst h0; rw [Nat.pow_zero]; omega
        · have h2 := hb.2 h0
          obtain ⟨c, rfl⟩ : ∃ c, b = c + 1 := ⟨b - 1, by omega⟩
          rw [Nat.add_sub_cancel] at h2
          rw [Nat.pow_succ]
          omega
theorem B16_pow2 (j : Nat) : B16 ^ j = 2 ^ (16 * j) := by rw [Nat.pow_mul]; rfl
theorem bits_top {x k c : Nat} (hl : Len B16 x (k + 1)) (hc : Len 2 (dg B16 x k) c) : Len 2 x (16 * k + c) := by
  have e : dg B16 x k = x / B16 ^ k := dg_top hl.1
  rw [e] at hc
  have hP : 0 < B16 ^ k := Nat.pow_pos B16_pos
  have hx : x / B16 ^ k ≠ 0 := by rw [← e]; exact hl.top B16_pos (by omega)
  have hc0 : 0 < c := by
    rcases Nat.eq_zero_or_pos c with h | h
    · subst h; have := hc.eq_zero; omega
    · exact h
  constructor
  · have h1 : x < B16 ^ k * 2 ^ c := by
      have h2 := Nat.lt_div_mul_add (a := x) hP
      have h3 : (x / B16 ^ k + 1) * B16 ^ k ≤ 2 ^ c * B16 ^ k := Nat.mul_le_mul_right _ hc.1
      rw [Nat.add_mul, Nat.one_mul] at h3
      rw [Nat.mul_comm (B16 ^ k)]
      omega
    rw [Nat.pow_add, ← B16_pow2]
    exact h1
  · intro _
    have h2 := hc.2 hc0
    have h3 : B16 ^ k * 2 ^ (c - 1) ≤ x := Nat.le_trans (Nat.mul_le_mul_left _ h2) (Nat.mul_div_le x _)
    rw [show 16 * k + c - 1 = 16 * k + (c - 1) by omega, Nat.pow_add, ← B16_pow2]
    exact h3

set_option maxHeartbeats 2000000 in
set_option maxRecDepth 100000 in
theorem NatBits_any (v : Value) (x b : Nat) (w : World) (h : Rep B16 w v x) (hx : x < B16 ^ 1000000000) (hb : Len 2 x b) :
    Calls Tryd.prog 93 #[v] w fun e w' => e = .returned (.int .i64 b) ∧ w = w' := by
  obtain ⟨p, n, cap, rfl, hnc, hl, hs⟩ := h
  have hn := hl.le B16_pos hx
  by_cases h0 : n = 0
  · subst h0
    have hx0 := hl.eq_zero
    subst hx0
    obtain rfl : b = 0 := Len.unique (by decide) hb Len.zero
    clear hb hl hs hx
    go_enter Tryd.func93, Tryd.ntmps93
    go_wp2_with fail
    go_ret
    exact ⟨rfl, rfl⟩
  · obtain ⟨k, rfl⟩ : ∃ k, n = k + 1 := ⟨n - 1, by omega⟩
    obtain ⟨b0, o0, rfl, hc⟩ := hs (by omega)
    have hc0 := hc k (by omega)
    have hd := dg_16 x k
    have HB := hid (fun c (h : Len 2 (dg B16 x k) c) => Len.unique (B := 2) (by decide) hb (bits_top hl h))
    have e1 : (((k + 1 : Nat)) : Int) - 1 = (k : Int) := by omega
    have hf : (((k + 1 : Nat) : Int) == 0) = false := by simp; omega
    clear hb hl hs hc hx
    generalize dg B16 x k = d at *
    obtain ⟨N, hN⟩ : ∃ N, N = k + 1 := ⟨_, rfl⟩
    rw [← hN] at e1 hf hn hnc h0 ⊢
    clear hN
    go_enter Tryd.func93, Tryd.ntmps93
    go_wp2_with fail
    go_loopw [3, 4] (fun nv xv wr => ∃ c : Nat, nv = .int .i64 ((16 * k + c : Nat) : Int) ∧ xv = .int .u32 ((d / 2 ^ c : Nat) : Int) ∧ (0 < c → 2 ^ (c - 1) ≤ d) ∧ c ≤ 16 ∧ wr = w) (fun _ xv _ => (intOf xv).toNat)
    case atStart => exact ⟨0, by go_num, by rw [Nat.pow_zero, Nat.div_one], fun h => absurd h (by omega), by omega, rfl⟩
    case round =>
      obtain ⟨c, rfl, rfl, h1, h2, rfl⟩ := hrel
      by_cases hz : d / 2 ^ c = 0
      · have hdl : d < 2 ^ c := (Nat.div_eq_zero_iff_lt (Nat.pow_pos (by decide))).1 hz
        have hbe := HB.out c ⟨hdl, h1⟩
        rw [hz]
        subst hbe
        clear hdl hz h1 hd HB
        go_wp2_with fail
        go_ret
        exact ⟨rfl, rfl⟩
      · have hge : 2 ^ c ≤ d := by
          rcases Nat.lt_or_ge d (2 ^ c) with h | h
          · exact absurd (Nat.div_eq_of_lt h) hz
          · exact h
        have hc16 : c < 16 := by
          rcases Nat.lt_or_ge c 16 with h | h
          · exact h
          · have h5 : 2 ^ 16 ≤ 2 ^ c := Nat.pow_le_pow_right (by decide) h
            have h6 : (2 : Nat) ^ 16 = 65536 := by decide
            omega
        have hnx : d / 2 ^ c / 2 = d / 2 ^ (c + 1) := by rw [Nat.div_div_eq_div_mul, Nat.pow_succ]
        have hqd : d / 2 ^ c < 65536 := Nat.lt_of_le_of_lt (Nat.div_le_self _ _) hd
        have HN := hid (And.intro hnx (And.intro hge hc16))
        clear hnx hge h1
        generalize d / 2 ^ c = q at *
        have hgt : decide ((0 : Int) < (q : Int)) = true := decide_eq_true (by omega)
        have hu : IntKind.i64.wrap (((16 * k + c : Nat) : Int) + 1) = ((16 * k + (c + 1) : Nat) : Int) := by rw [IntKind.wrap_i64]; omega
        have hq2 : IntKind.u32.wrap ((q : Int) / 2) = ((q / 2 : Nat) : Int) := by rw [IntKind.wrap_u32]; omega
        go_wp2_with fail
        refine ⟨⟨c + 1, by go_num, ?_, fun _ => HN.out.2.1, by omega, trivial⟩, ?_⟩
        · rw [← HN.out.1]; exact congrArg (Value.int .u32) (by omega)
        · simp [intOf]; omega

theorem den1_self2 {d : Nat} (hd : 0 < d) : den1 d = d := by unfold den1; rw [if_neg (by omega)]

set_option maxHeartbeats 4000000 in
set_option maxRecDepth 100000 in
theorem fBits_any (v : Value) (t : Bool × Nat × Nat) (bn bd : Nat) (w : World) (h : FNorm w v t) (hn : t.2.1 < W32 ^ 1000000000) (hd : t.2.2 < W32 ^ 1000000000) (hbn : Len 2 t.2.1 bn) (hbd : Len 2 t.2.2 bd) :
    Calls Tryd.prog 92 #[v] w fun e w' => e = .returned (.int .i64 (max (bn : Int) bd)) ∧ Below w.heap.size w w' := by
  obtain ⟨vn1, vd1, rfl, hrn, hrd⟩ := h
  have HNn := hid (fun (W : World) (hW : Below w.heap.size w W) => (Bits_any vn1 t.2.1 W (hrn.below hW) hn).mono (R' := fun e w' => e = .returned (.int .i64 bn) ∧ W = w') fun _ _ hR => by obtain ⟨b, rfl, hb, hw⟩ := hR; exact ⟨by rw [Len.unique (by decide) hb hbn], hw⟩)
  have HNd := hid (fun (W : World) (hW : Below w.heap.size w W) => (Bits_any vd1 t.2.2 W (hrd.below hW) hd).mono (R' := fun e w' => e = .returned (.int .i64 bd) ∧ W = w') fun _ _ hR => by obtain ⟨b, rfl, hb, hw⟩ := hR; exact ⟨by rw [Len.unique (by decide) hb hbd], hw⟩)
  clear hn hd hbn hbd
  obtain ⟨p1, k1, c1, rfl, _⟩ := hrn
  obtain ⟨p2, k2, c2, rfl, _⟩ := hrd
  obtain ⟨s1, hs1⟩ : ∃ s, s = t.1 := ⟨_, rfl⟩
  rw [← hs1]
  clear hs1
  have hal := (Below.refl w.heap.size w).alloc (Nat.le_refl _) (.cells #[.bool s1, .slice p1 k1 c1, .slice p2 k2 c2] 54)
  have hV := Var3.alloc w (x := .bool s1) (y := .slice p1 k1 c1) (z := .slice p2 k2 c2) 54 trivial trivial trivial
  go_enter Tryd.func92, Tryd.ntmps92
  go_upto_region 1 with fail
  generalize w.alloc (.cells #[.bool s1, .slice p1 k1 c1, .slice p2 k2 c2] 54) = W0 at *
  have HB := hid hal
  have HS : Hid (∀ w', Below W0.heap.size W0 w' → (w'.cell? ⟨w.heap.size, 0, none⟩ = some (.bool s1) ∧ w'.cell? ⟨w.heap.size, 1, none⟩ = some (.slice p1 k1 c1) ∧ w'.cell? ⟨w.heap.size, 2, none⟩ = some (.slice p2 k2 c2) ∧ Hid (Below W0.heap.size W0 w'))) := hid fun w' hb => ⟨(hV.below hb).cells.1, (hV.below hb).cells.2.1, (hV.below hb).cells.2.2.1, hid hb⟩
  clear hal hV
  go_region_held3 (fun w' => w'.cell? ⟨w.heap.size, 0, none⟩ = some (.bool s1) ∧ w'.cell? ⟨w.heap.size, 1, none⟩ = some (.slice p1 k1 c1) ∧ w'.cell? ⟨w.heap.size, 2, none⟩ = some (.slice p2 k2 c2) ∧ Hid (Below W0.heap.size W0 w'))
    (first | exact HS.out _ (Below.refl _ _).drew | (exact HS.out _ (by assumption)))
    (first
      | (go_at_call_of 122 k1; refine (HNn.out _ (HB.out.trans ((held3' (N := W0.heap.size) (W0 := W0) (by assumption)).mono HB.out.size))).mono ?_; rintro e wa ⟨rfl, rfl⟩)
      | (go_at_call_of 122 k2; refine (HNd.out _ (HB.out.trans ((held3' (N := W0.heap.size) (W0 := W0) (by assumption)).mono HB.out.size))).mono ?_; rintro e wb ⟨rfl, rfl⟩))
  rename_i hHeld
  clear hHeld
  go_wp2_with fail
  go_ret
  exact ⟨rfl, HB.out.drew⟩

set_option maxHeartbeats 4000000 in
set_option maxRecDepth 100000 in
theorem rDigits_any (v : Value) (t : Bool × Nat × Nat) (bn bd : Nat) (w : World) (h : QNorm w v t) (hn : t.2.1 < B16 ^ 1000000000) (hd : t.2.2 < B16 ^ 1000000000) (hp : 0 < t.2.2) (hbn : Len 2 t.2.1 bn) (hbd : Len 2 t.2.2 bd) :
    Calls Tryd.prog 52 #[v] w fun e w' => e = .returned (.int .i64 (max (bn : Int) bd)) ∧ Below w.heap.size w w' := by
  have HDa := hid (fun (W : World) (hW : Below w.heap.size w W) => den_any v t.1 t.2.1 t.2.2 W (h.below hW))
  rw [den1_self2 hp] at HDa
  obtain ⟨vn1, vd1, rfl, hrn, hrd⟩ := h
  have HNn := hid (fun (W : World) (hW : Below w.heap.size w W) => NatBits_any vn1 t.2.1 bn W (hrn.below hW) hn hbn)
  have HNd := hid (fun (W : World) (v : Value) (hv : Rep B16 W v t.2.2) => NatBits_any v t.2.2 bd W hv hd hbd)
  clear hn hd hbn hbd hp
  obtain ⟨p1, k1, c1, rfl, _⟩ := hrn
  obtain ⟨p2, k2, c2, rfl, _⟩ := hrd
  obtain ⟨s1, hs1⟩ : ∃ s, s = t.1 := ⟨_, rfl⟩
  rw [← hs1] at HDa ⊢
  clear hs1
  have hal := (Below.refl w.heap.size w).alloc (Nat.le_refl _) (.cells #[.bool s1, .slice p1 k1 c1, .slice p2 k2 c2] 34)
  have hV := Var3.alloc w (x := .bool s1) (y := .slice p1 k1 c1) (z := .slice p2 k2 c2) 34 trivial trivial trivial
  go_enter Tryd.func52, Tryd.ntmps52
  go_upto_region 1 with fail
  generalize w.alloc (.cells #[.bool s1, .slice p1 k1 c1, .slice p2 k2 c2] 34) = W0 at *
  have HB := hid hal
  have HS : Hid (∀ w', Below W0.heap.size W0 w' → (w'.cell? ⟨w.heap.size, 0, none⟩ = some (.bool s1) ∧ w'.cell? ⟨w.heap.size, 1, none⟩ = some (.slice p1 k1 c1) ∧ w'.cell? ⟨w.heap.size, 2, none⟩ = some (.slice p2 k2 c2) ∧ Hid (Below W0.heap.size W0 w'))) := hid fun w' hb => ⟨(hV.below hb).cells.1, (hV.below hb).cells.2.1, (hV.below hb).cells.2.2.1, hid hb⟩
  clear hal hV
  go_region_held3 (fun w' => w'.cell? ⟨w.heap.size, 0, none⟩ = some (.bool s1) ∧ w'.cell? ⟨w.heap.size, 1, none⟩ = some (.slice p1 k1 c1) ∧ w'.cell? ⟨w.heap.size, 2, none⟩ = some (.slice p2 k2 c2) ∧ Hid (Below W0.heap.size W0 w'))
    (first | exact HS.out _ (Below.refl _ _).drew | (exact HS.out _ (by assumption)))
    (first
      | (go_at_call_of 93 k1; refine (HNn.out _ (HB.out.trans ((held3' (N := W0.heap.size) (W0 := W0) (by assumption)).mono HB.out.size))).mono ?_; rintro e wa ⟨rfl, rfl⟩)
      | (go_at_call 63; refine (HDa.out _ (HB.out.trans ((held3' (N := W0.heap.size) (W0 := W0) (by assumption)).mono HB.out.size))).mono ?_; rintro e wb ⟨v6, rfl, hRb, hBb⟩; have hKb := held_any (by first | assumption | exact (Below.refl _ _).drew) hBb; obtain ⟨p6, k6, c6, rfl, hx6⟩ := id hRb; clear hx6)
      | (go_at_call_of 93 k6; refine (HNd.out _ _ hRb).mono ?_; rintro e wc ⟨rfl, rfl⟩))
  all_goals
    rename_i hHeld
    clear hHeld
    have HZ := hid (HB.out.trans (hKb.mono HB.out.size))
    go_wp2_with fail
    go_ret
    exact ⟨rfl, HZ.out⟩

theorem nBits_ret {W : World} {x y : Value} {tm : Array Value} {R : Ending → World → Prop} (h2 : tm[2]?.getD undef = x) (h3 : tm[3]?.getD undef = y) (hR : R (.returned (.tuple #[x, y])) W) :
    bodyPost Tryd.prog Tryd.f51 R .ret { tmps := tm, defers := [] } W :=
  bodyPost_ret (v := .tuple #[x, y]) (by simp [results, Tryd.results51, go_sem, h2, h3]) rfl hR

set_option maxHeartbeats 2000000 in
set_option maxRecDepth 100000 in
theorem nBits_any (v : Value) (a : Bool × Nat × Nat) (w : World) (G : Int) (HG : ∀ (W : World) (v' : Value), FNorm W v' (fr a) → large a.2.1 a.2.2 = false → Calls Tryd.prog 92 #[v'] W fun e w' => e = .returned (.int .i64 G) ∧ Below W.heap.size W w') (h : NRep w v a) (ht : TabOk w) :
    Calls Tryd.prog 51 #[v] w fun e w' => e = .returned (.tuple #[.int .i64 (if large a.2.1 a.2.2 then 0 else G), .int .i64 (sgc a)]) ∧ Below w.heap.size w w' := by
  have HA := hid h
  have HT := hid ht
  replace HG := hid HG
  clear ht
  obtain ⟨vn, vd, rfl, ⟨p1, k1, c1, rfl, _⟩, ⟨p2, k2, c2, rfl, _⟩⟩ := h
  obtain ⟨s1, hs1⟩ : ∃ s1, s1 = a.1 := ⟨_, rfl⟩
  rw [← hs1] at HA ⊢
  clear hs1
  have hal := (Below.refl w.heap.size w).alloc (Nat.le_refl _) (.cells #[.bool s1, .slice p1 k1 c1, .slice p2 k2 c2] 24)
  have hV := Var3.alloc w (x := .bool s1) (y := .slice p1 k1 c1) (z := .slice p2 k2 c2) 24 trivial trivial trivial
  cases hL : large a.2.1 a.2.2
  · have hO := hid (Of_small _ a _ (HA.out.below hal) (HT.out.below hal) hL)
    rw [show sgc a = 0 by unfold sgc; rw [hL]; rfl, if_neg (by decide)]
    have HS := hid (fun W v' (hF : FNorm W v' (fr a)) => HG.out W v' hF hL)
    clear hL HG
    go_enter Tryd.func51, Tryd.ntmps51
    go_upto_region 1 with fail
    generalize w.alloc (.cells #[.bool s1, .slice p1 k1 c1, .slice p2 k2 c2] 24) = W0 at *
    obtain ⟨a0, a1, a2, _⟩ := hV.cells
    go_wp2_with fail
    refine hO.out.mono ?_
    rintro e w1 ⟨hB1, sg, pa, ka, ca, pb, kb, cb, rfl, hF⟩
    clear hO hV a0 a1 a2
    have hal1 := (Below.refl w1.heap.size w1).alloc (Nat.le_refl _) (.cells #[.bool sg, .slice pa ka ca, .slice pb kb cb] 54)
    have hV1 := Var3.alloc w1 (x := .bool sg) (y := .slice pa ka ca) (z := .slice pb kb cb) 54 trivial trivial trivial
    have hF1 := hid (HS.out _ _ (hF.out.below hal1))
    go_upto_region 2 with fail
    have HB := hid (hal.trans ((held_any hB1 hal1).mono hal.size))
    clear hB1 hal1 hF HS
    generalize w1.alloc (.cells #[.bool sg, .slice pa ka ca, .slice pb kb cb] 54) = W2 at *
    generalize w1.heap.size = X at *
    obtain ⟨a0, a1, a2, _⟩ := hV1.cells
    clear hV1 hal
    go_wp2_with fail
    refine hF1.out.mono ?_
    rintro e w3 ⟨rfl, hB3⟩
    clear a0 a1 a2 hF1
    go_wp2_with fail
    exact nBits_ret rfl rfl ⟨rfl, HB.out.trans (hB3.mono HB.out.size)⟩
  · have hO := hid (Of_large _ a _ (HA.out.below hal) (HT.out.below hal) hL)
    rw [show sgc a = 1 by unfold sgc; rw [hL]; rfl, if_pos rfl]
    clear hL
    go_enter Tryd.func51, Tryd.ntmps51
    go_upto_region 1 with fail
    generalize w.alloc (.cells #[.bool s1, .slice p1 k1 c1, .slice p2 k2 c2] 24) = W0 at *
    obtain ⟨a0, a1, a2, _⟩ := hV.cells
    go_wp2_with fail
    refine hO.out.mono ?_
    rintro e w1 ⟨rfl, hB1⟩
    have HB := hid (hal.trans (hB1.mono hal.size))
    clear hO hV a0 a1 a2 hB1 hal
    go_wp2_with fail
    exact nBits_ret rfl rfl ⟨rfl, HB.out.alloc HB.out.size _⟩

set_option maxHeartbeats 8000000 in
set_option maxRecDepth 100000 in
theorem NumberBits_any (vx : Value) (x : Bool × Nat × Nat) (w : World) (hx : NRep w vx x) (ht : TabOk w) :
    Calls Tryd.prog 12 #[vx] w fun e w' => e = .returned (.bool true) ∧ Below w.heap.size w w' := by
  have HX := hid hx
  obtain ⟨_, _, rfl, ⟨pa, ka, ca, rfl, _⟩, ⟨pb, kb, cb, rfl, _⟩⟩ := hx
  obtain ⟨sx, hsx⟩ : ∃ s, s = x.1 := ⟨_, rfl⟩
  have hal := (Below.refl w.heap.size w).alloc (Nat.le_refl _) (.cells #[.bool sx, .slice pa ka ca, .slice pb kb cb] 24)
  have hV := Var3.alloc w (x := .bool sx) (y := .slice pa ka ca) (z := .slice pb kb cb) 24 trivial trivial trivial
  rw [← hsx] at HX ⊢
  clear hsx
  have HX0 := hid (HX.out.below hal)
  have HT0 := hid (ht.below hal)
  have HB := hid hal
  have HVx := hid hV
  clear HX ht hal hV
  obtain ⟨bn, hbn⟩ := exists_len2 (fr x).2.1
  obtain ⟨bd, hbd⟩ := exists_len2 (fr x).2.2
  obtain ⟨G, hG⟩ : ∃ G : Int, G = max (bn : Int) bd := ⟨_, rfl⟩
  have HP := hid (fun (W : World) (hW : NRep W (.agg #[.bool sx, .slice pa ka ca, .slice pb kb cb]) x) (hT : TabOk W) => nBits_any _ x W G (fun W' v' hF hL => by rw [hG]; exact fBits_any v' (fr x) bn bd W' hF (lt_big (fr_bd hL).1 (by omega)) (lt_big (fr_bd hL).2 (by omega)) hbn hbd) hW hT)
  have HDg := hid (fun (hL : large x.2.1 x.2.2 = false) (W : World) (v : Value) (hq : QNorm W v (fr x)) => rDigits_any v (fr x) bn bd W hq (b16_64 (fr_bd hL).1) (b16_64 (fr_bd hL).2) (frac_pos (den1_pos _)) hbn hbd)
  rw [← hG] at HDg
  clear hbn hbd hG
  obtain ⟨g, hg⟩ : ∃ g : Int, g = if large x.2.1 x.2.2 then 0 else G := ⟨_, rfl⟩
  obtain ⟨c, hc⟩ : ∃ c, c = sgc x := ⟨_, rfl⟩
  rw [← hg, ← hc] at HP
  have HG := hid (And.intro hg hc)
  clear hg hc
  go_enter Tryd.func12, Tryd.ntmps12
  go_upto_region 1 with fail
  generalize w.alloc (.cells #[.bool sx, .slice pa ka ca, .slice pb kb cb] 24) = W0 at *
  obtain ⟨a0, a1, a2, _⟩ := HVx.out.cells
  go_wp2_with fail
  refine (HP.out _ HX0.out HT0.out).mono ?_
  rintro e w1 ⟨rfl, hst⟩
  clear HP a0 a1 a2
  replace HVx := hid (HVx.out.below hst)
  replace HX0 := hid (HX0.out.below hst)
  replace HT0 := hid (HT0.out.below hst)
  replace HB := hid (HB.out.trans (hst.mono HB.out.size))
  clear hst
  go_upto_region 2 with fail
  have HL1 := hid (Large_any _ x w1 HX0.out)
  obtain ⟨a0, a1, a2, _⟩ := HVx.out.cells
  go_wp2_with fail
  refine HL1.out.mono ?_
  rintro e w2 ⟨rfl, hst⟩
  clear HL1 a0 a1 a2
  replace HVx := hid (HVx.out.below hst)
  replace HX0 := hid (HX0.out.below hst)
  replace HT0 := hid (HT0.out.below hst)
  replace HB := hid (HB.out.trans (hst.mono HB.out.size))
  clear hst
  have HAw := hid (fun (W : World) (hW : Below w2.heap.size w2 W) => awake_any W (HT0.out.below hW))
  cases hL : large x.2.1 x.2.2
  case true =>
    have hg := HG.out.1
    have hc := HG.out.2
    unfold sgc at hc
    rw [hL] at hg hc
    have hg2 : g = 0 := hg
    have hc2 : c = 1 := hc
    subst hg2
    subst hc2
    clear hg hc HG hL HDg
    go_wp2_with fail
    refine (HAw.out _ (Below.refl _ _)).mono ?_
    rintro e w3 ⟨rfl, hst⟩
    have HZ := hid (HB.out.trans (hst.mono HB.out.size))
    clear hst
    go_wp2_with fail
    go_ret
    exact ⟨rfl, HZ.out⟩
  case false =>
    have hg := HG.out.1
    have hc := HG.out.2
    unfold sgc at hc
    rw [hL] at hg hc
    have hg2 : g = G := hg
    have hc2 : c = 0 := hc
    subst hg2
    subst hc2
    have HO := hid (rOfF_any _ x w2 HX0.out hL)
    have HD2 := hid (HDg.out hL)
    clear hg hc HG hL HDg
    obtain ⟨a0, a1, a2, _⟩ := HVx.out.cells
    go_wp2_with fail
    refine HO.out.mono ?_
    rintro e w3 ⟨sg, pe, ke, ce, pf, kf, cf, rfl, hQ, hst⟩
    clear a0 a1 a2
    have hst3 := hst
    go_wp2_with fail
    refine (HD2.out _ _ hQ.out).mono ?_
    rintro e w4 ⟨rfl, hst⟩
    have HK := hid (held_any hst3 hst)
    clear hst hst3
    go_wp2_with fail
    refine (HAw.out _ HK.out).mono ?_
    rintro e w5 ⟨rfl, hst⟩
    have HZ := hid (HB.out.trans ((held_any HK.out hst).mono HB.out.size))
    clear hst
    go_wp2_with fail
    go_ret
    exact ⟨rfl, HZ.out⟩
end Go.Proofs.YtdinpeglclkjhaaDoor
