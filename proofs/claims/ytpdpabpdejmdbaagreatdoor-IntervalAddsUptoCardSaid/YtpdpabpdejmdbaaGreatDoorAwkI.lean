/- Operations on two intervals that round, by their value; Add and Sub of the program. The sanity check of the interval laws, by the operations' values. -/
import Derived.Test.YtpdpabpdejmdbaaGreatDoorBthI
import Derived.Test.YtpdpabpdejmdbaaGreatDoorRndJ
import Derived.Test.YtpdpabpdejmdbaaGreatDoorNegI
set_option maxHeartbeats 4000000
set_option maxRecDepth 100000
namespace Go.Proofs.YtpdpabpdejmdbaaGreatDoor
open Go.RowKit Dg
theorem faddI_le (a b : Bool × Nat × Nat) : (fadd a b).2.1 ≤ a.2.1 * b.2.2 + b.2.1 * a.2.2 ∧ (fadd a b).2.2 ≤ a.2.2 * b.2.2 := by
 by_cases h : a.1 = b.1
 ·have e : fadd a b = _ := if_pos h
  rw [e]
  exact ⟨Nat.div_le_self _ _, Nat.div_le_self _ _⟩
 ·by_cases h2 : a.2.1 * b.2.2 < b.2.1 * a.2.2
  ·have e : fadd a b = _ := (if_neg h).trans (if_pos h2)
   rw [e]
   exact ⟨Nat.le_trans (Nat.div_le_self _ _) (Nat.le_trans (Nat.sub_le _ _) (Nat.le_add_left _ _)), Nat.div_le_self _ _⟩
  ·have e : fadd a b = _ := (if_neg h).trans (if_neg h2)
   rw [e]
   exact ⟨Nat.le_trans (Nat.div_le_self _ _) (Nat.le_trans (Nat.sub_le _ _) (Nat.le_add_right _ _)), Nat.div_le_self _ _⟩
theorem faddI_b {a b : Bool × Nat × Nat} (h1 : a.2.1 < W32 ^ 64) (h2 : a.2.2 < W32 ^ 64) (h3 : b.2.1 < W32 ^ 64) (h4 : b.2.2 < W32 ^ 64) : (fadd a b).2.1 < W32 ^ 130 ∧ (fadd a b).2.2 < W32 ^ 130 :=
 ⟨Nat.lt_of_le_of_lt (faddI_le a b).1 (lt_add (lt_mul (c := 128) h1 h4 (by omega)) (lt_mul (c := 128) h3 h2 (by omega)) (by omega)), Nat.lt_of_le_of_lt (faddI_le a b).2 (lt_mul h2 h4 (by omega))⟩
theorem EOk.plus {x y : Int × Bool × Nat × Nat} (hx : EOk 64 x) (hy : EOk 64 y) : EOk 1000 (eplus x y) := by
 unfold eplus
 split
 ·exact hx.le (by omega)
 ·split
  ·exact hy.le (by omega)
  case isFalse h1 h2 =>
   have h1' : x.1 = 0 := Decidable.not_not.1 h1
   have h2' : y.1 = 0 := Decidable.not_not.1 h2
   have hb := faddI_b hx.bn hx.bd hy.bn hy.bd
   have h3 : EOk 130 (0, fadd x.2 y.2) := ⟨fun _ => IsFr.add (hx.fin h1').pos (hy.fin h2').pos, fun h => absurd rfl h, hb.1, hb.2⟩
   exact h3.le (by omega)
theorem enter_splus (args : Array Value) (w : World) : (callFunc 118 args).run Tryz.prog w = .ok (.enter 118 args) w := call_enter Tryz.func118 (by kernel_rfl) rfl args w
theorem iAdd_ret {W : World} {B : Nat} {a0 a1 a2 a3 a4 a5 a6 a7 ev : Value} {tm : Array Value} {R : Ending → World → Prop} (h2 : tm[6]?.getD undef = .pointer (some ⟨B, 0, none⟩)) (h3 : tm[7]?.getD undef = ev) (hV : Box W B #[a0, a1, a2, a3, a4, a5, a6, a7]) (hR : R (.returned (.tuple #[.agg #[a0, a1, a2, a3, a4, a5, a6, a7], ev])) W) :
  bodyPost Tryz.prog Tryz.f53 R .ret { tmps := tm, defers := [] } W := by
 obtain ⟨g0, g1, g2, g3, g4, g5, g6, g7, _⟩ := hV.cells8
 exact bodyPost_ret (v := .tuple #[.agg #[a0, a1, a2, a3, a4, a5, a6, a7], ev]) (by simp [results, Tryz.results53, go_sem, h2, h3, g0, g1, g2, g3, g4, g5, g6, g7]) rfl hR
def rcode (p : Int) (f : (Int × Bool × Nat × Nat) × (Int × Bool × Nat × Nat) × Bool → (Int × Bool × Nat × Nat) × (Int × Bool × Nat × Nat) × Bool → (Int × Bool × Nat × Nat) × (Int × Bool × Nat × Nat) × Bool) := b2code (prec p) (fun x y => srnd p (f x y))
def rval (p : Int) (f : (Int × Bool × Nat × Nat) × (Int × Bool × Nat × Nat) × Bool → (Int × Bool × Nat × Nat) × (Int × Bool × Nat × Nat) × Bool → (Int × Bool × Nat × Nat) × (Int × Bool × Nat × Nat) × Bool) := b2val (prec p) (fun x y => srnd p (f x y))
theorem rounded_gen (s1 : Bool) (p1 : Option Addr) (k1 c1 : Nat) (q1 : Option Addr) (l1 d1 : Nat) (sz1 : Bool) (pz1 : Option Addr) (kz1 cz1 : Nat) (qz1 : Option Addr) (lz1 dz1 : Nat) (x1 : Bool) (y1 : Bool) (s2 : Bool) (p2 : Option Addr) (k2 c2 : Nat) (q2 : Option Addr) (l2 d2 : Nat) (sz2 : Bool) (pz2 : Option Addr) (kz2 cz2 : Nat) (qz2 : Option Addr) (lz2 dz2 : Nat) (x2 : Bool) (y2 : Bool) (p : Int) (g : FuncId) (cap : Array Value) (f : (Int × Bool × Nat × Nat) × (Int × Bool × Nat × Nat) × Bool → (Int × Bool × Nat × Nat) × (Int × Bool × Nat × Nat) × Bool → (Int × Bool × Nat × Nat) × (Int × Bool × Nat × Nat) × Bool) (a b a' b' : Bool × Nat × Nat) (w : World) (ha : NRep w (.agg #[.bool s1, .slice p1 k1 c1, .slice q1 l1 d1]) a) (hb : NRep w (.agg #[.bool sz1, .slice pz1 kz1 cz1, .slice qz1 lz1 dz1]) b) (ha' : NRep w (.agg #[.bool s2, .slice p2 k2 c2, .slice q2 l2 d2]) a') (hb' : NRep w (.agg #[.bool sz2, .slice pz2 kz2 cz2, .slice qz2 lz2 dz2]) b') (ht : TabOk w)
  (hfn : ∀ args W, (callFunc g args).run Tryz.prog W = .ok (.enter g args) W)
  (hr : large a.2.1 a.2.2 = false → large b.2.1 b.2.2 = false → large a'.2.1 a'.2.2 = false → large b'.2.1 b'.2.2 = false → (srd (a, b, x1, y1)).2.2 = false → (srd (a', b', x2, y2)).2.2 = false → EOk 1000 (f (srd (a, b, x1, y1)) (srd (a', b', x2, y2))).1 ∧ EOk 1000 (f (srd (a, b, x1, y1)) (srd (a', b', x2, y2))).2.1)
  (hop : large a.2.1 a.2.2 = false → large b.2.1 b.2.2 = false → large a'.2.1 a'.2.2 = false → large b'.2.1 b'.2.2 = false → (srd (a, b, x1, y1)).2.2 = false → (srd (a', b', x2, y2)).2.2 = false → ∀ W (i1 : Int) (s1 : Bool) (p1 : Option Addr) (k1 c1 : Nat) (q1 : Option Addr) (l1 d1 : Nat) (j1 : Int) (sz1 : Bool) (pz1 : Option Addr) (kz1 cz1 : Nat) (qz1 : Option Addr) (lz1 dz1 : Nat) (e1 : Bool) (i2 : Int) (s2 : Bool) (p2 : Option Addr) (k2 c2 : Nat) (q2 : Option Addr) (l2 d2 : Nat) (j2 : Int) (sz2 : Bool) (pz2 : Option Addr) (kz2 cz2 : Nat) (qz2 : Option Addr) (lz2 dz2 : Nat) (e2 : Bool), Below w.heap.size w W → SRep W (.agg #[.int .i64 i1, .bool s1, .slice p1 k1 c1, .slice q1 l1 d1, .int .i64 j1, .bool sz1, .slice pz1 kz1 cz1, .slice qz1 lz1 dz1, .bool e1]) (srd (a, b, x1, y1)) → SRep W (.agg #[.int .i64 i2, .bool s2, .slice p2 k2 c2, .slice q2 l2 d2, .int .i64 j2, .bool sz2, .slice pz2 kz2 cz2, .slice qz2 lz2 dz2, .bool e2]) (srd (a', b', x2, y2)) → Calls Tryz.prog g (#[.agg #[.int .i64 i1, .bool s1, .slice p1 k1 c1, .slice q1 l1 d1, .int .i64 j1, .bool sz1, .slice pz1 kz1 cz1, .slice qz1 lz1 dz1, .bool e1], .agg #[.int .i64 i2, .bool s2, .slice p2 k2 c2, .slice q2 l2 d2, .int .i64 j2, .bool sz2, .slice pz2 kz2 cz2, .slice qz2 lz2 dz2, .bool e2]] ++ cap) W fun e w' => ∃ i3 s3 p3 k3 c3 q3 l3 d3 j3 sz3 pz3 kz3 cz3 qz3 lz3 dz3 e3, e = .returned (.agg #[.int .i64 i3, .bool s3, .slice p3 k3 c3, .slice q3 l3 d3, .int .i64 j3, .bool sz3, .slice pz3 kz3 cz3, .slice qz3 lz3 dz3, .bool e3]) ∧ Hid (SRep w' (.agg #[.int .i64 i3, .bool s3, .slice p3 k3 c3, .slice q3 l3 d3, .int .i64 j3, .bool sz3, .slice pz3 kz3 cz3, .slice qz3 lz3 dz3, .bool e3]) (f (srd (a, b, x1, y1)) (srd (a', b', x2, y2)))) ∧ Below W.heap.size W w') :
  Calls Tryz.prog 117 #[.agg #[.bool s1, .slice p1 k1 c1, .slice q1 l1 d1, .bool sz1, .slice pz1 kz1 cz1, .slice qz1 lz1 dz1, .bool x1, .bool y1], .agg #[.bool s2, .slice p2 k2 c2, .slice q2 l2 d2, .bool sz2, .slice pz2 kz2 cz2, .slice qz2 lz2 dz2, .bool x2, .bool y2], .int .i64 p, .func (.func g) #[] cap] w fun e w' => ∃ s5 p5 k5 c5 q5 l5 d5 sz5 pz5 kz5 cz5 qz5 lz5 dz5 x5 y5, e = .returned (.tuple #[.agg #[.bool s5, .slice p5 k5 c5, .slice q5 l5 d5, .bool sz5, .slice pz5 kz5 cz5, .slice qz5 lz5 dz5, .bool x5, .bool y5], .int .i64 (rcode p f (a, b, x1, y1) (a', b', x2, y2))]) ∧ Hid (GRep w' (.agg #[.bool s5, .slice p5 k5 c5, .slice q5 l5 d5, .bool sz5, .slice pz5 kz5 cz5, .slice qz5 lz5 dz5, .bool x5, .bool y5]) (rval p f (a, b, x1, y1) (a', b', x2, y2))) ∧ Below w.heap.size w w' := by
 unfold rcode rval
 have hmf := makeFunc_run
 have HC := hid (fun (W : World) (hW : Below w.heap.size w W) (b3 : Box W (w.heap.size + 1 + 1) #[.int .i64 p]) (b4 : Box W (w.heap.size + 1 + 1 + 1) #[.func (.func g) #[] cap]) =>
  both_gen s1 p1 k1 c1 q1 l1 d1 sz1 pz1 kz1 cz1 qz1 lz1 dz1 x1 y1 s2 p2 k2 c2 q2 l2 d2 sz2 pz2 kz2 cz2 qz2 lz2 dz2 x2 y2 (prec p) 177 #[.pointer (some ⟨w.heap.size + 1 + 1 + 1, 0, none⟩), .pointer (some ⟨w.heap.size + 1 + 1, 0, none⟩)] (fun x y => srnd p (f x y)) a b a' b' W
   (ha.below hW) (hb.below hW) (ha'.below hW) (hb'.below hW) (ht.below hW) enter_rounded1
   (fun hv h1 h2 h3 h4 h5 h6 => by
    unfold prec at hv
    rw [Bool.and_eq_true, decide_eq_true_eq, decide_eq_true_eq] at hv
    have hh := hr h1 h2 h3 h4 h5 h6
    exact ⟨⟨hh.1.dn (by omega), hh.2.up (by omega)⟩, rfl⟩)
   (fun hv h1 h2 h3 h4 h5 h6 W' i3 s3 p3 k3 c3 q3 l3 d3 j3 sz3 pz3 kz3 cz3 qz3 lz3 dz3 e3 i4 s4 p4 k4 c4 q4 l4 d4 j4 sz4 pz4 kz4 cz4 qz4 lz4 dz4 e4 hW' hS1 hS2 => by
    unfold prec at hv
    rw [Bool.and_eq_true, decide_eq_true_eq, decide_eq_true_eq] at hv
    obtain ⟨pr, rfl⟩ := Int.eq_ofNat_of_zero_le hv.1
    exact rounded1_ok i3 s3 p3 k3 c3 q3 l3 d3 j3 sz3 pz3 kz3 cz3 qz3 lz3 dz3 e3 i4 s4 p4 k4 c4 q4 l4 d4 j4 sz4 pz4 kz4 cz4 qz4 lz4 dz4 e4 (w.heap.size + 1 + 1 + 1) (w.heap.size + 1 + 1) g cap pr (srd (a, b, x1, y1)) (srd (a', b', x2, y2)) _ W' (b4.below hW') (b3.below hW') hS1 hS2 (hr h1 h2 h3 h4 h5 h6) (by omega) ((ht.below hW).below hW') hfn
     (fun W2 h7 hS5 hS6 => hop h1 h2 h3 h4 h5 h6 W2 i3 s3 p3 k3 c3 q3 l3 d3 j3 sz3 pz3 kz3 cz3 qz3 lz3 dz3 e3 i4 s4 p4 k4 c4 q4 l4 d4 j4 sz4 pz4 kz4 cz4 qz4 lz4 dz4 e4 (hW.trans ((hW'.trans (h7.mono hW'.size)).mono hW.size)) hS5 hS6)))
 have HPr := hid (isPrecision_any p)
 obtain ⟨v, hv⟩ : ∃ r, r = prec p := ⟨_, rfl⟩
 rw [← hv] at HC HPr ⊢
 obtain ⟨D, hD⟩ : ∃ D, D = b2val v (fun x y => srnd p (f x y)) (a, b, x1, y1) (a', b', x2, y2) := ⟨_, rfl⟩
 obtain ⟨c, hc⟩ : ∃ D, D = b2code v (fun x y => srnd p (f x y)) (a, b, x1, y1) (a', b', x2, y2) := ⟨_, rfl⟩
 rw [← hD, ← hc] at HC ⊢
 clear ha hb ha' hb' ht hr hop hfn hD hc hv
 obtain ⟨pi, hpi⟩ : ∃ pi : Int, pi = p := ⟨_, rfl⟩
 rw [← hpi] at HC HPr ⊢
 clear hpi
 go_enter Tryz.func117, Tryz.ntmps117
 go_wp2_with fail
 have HV := hid (pre5 w [.bool s1, .slice p1 k1 c1, .slice q1 l1 d1, .bool sz1, .slice pz1 kz1 cz1, .slice qz1 lz1 dz1, .bool x1, .bool y1] [.bool s2, .slice p2 k2 c2, .slice q2 l2 d2, .bool sz2, .slice pz2 kz2 cz2, .slice qz2 lz2 dz2, .bool x2, .bool y2] [.int .i64 pi] [.func (.func g) #[] cap] [.bool false, .slice none 0 0, .slice none 0 0, .bool false, .slice none 0 0, .slice none 0 0, .bool false, .bool false] 26 26 3 101 26 nd8 nd8 nd1 nd1 nd8)
 generalize ((((w.alloc (.cells #[.bool s1, .slice p1 k1 c1, .slice q1 l1 d1, .bool sz1, .slice pz1 kz1 cz1, .slice qz1 lz1 dz1, .bool x1, .bool y1] 26)).alloc (.cells #[.bool s2, .slice p2 k2 c2, .slice q2 l2 d2, .bool sz2, .slice pz2 kz2 cz2, .slice qz2 lz2 dz2, .bool x2, .bool y2] 26)).alloc (.cells #[.int .i64 pi] 3)).alloc (.cells #[.func (.func g) #[] cap] 101)).alloc (.cells #[.bool false, .slice none 0 0, .slice none 0 0, .bool false, .slice none 0 0, .slice none 0 0, .bool false, .bool false] 26) = W0 at *
 have HQ := hid (QQ.i3 (cs := [.bool s1, .slice p1 k1 c1, .slice q1 l1 d1, .bool sz1, .slice pz1 kz1 cz1, .slice qz1 lz1 dz1, .bool x1, .bool y1]) (cs' := [.bool s2, .slice p2 k2 c2, .slice q2 l2 d2, .bool sz2, .slice pz2 kz2 cz2, .slice qz2 lz2 dz2, .bool x2, .bool y2]) (c2 := [.int .i64 pi]) HV.out.1 HV.out.2.1 HV.out.2.2.1 HV.out.2.2.2.2.2)
 have HS := hid (fun (w' : World) (hb : QQ w [(w.heap.size, [.bool s1, .slice p1 k1 c1, .slice q1 l1 d1, .bool sz1, .slice pz1 kz1 cz1, .slice qz1 lz1 dz1, .bool x1, .bool y1]), (w.heap.size + 1, [.bool s2, .slice p2 k2 c2, .slice q2 l2 d2, .bool sz2, .slice pz2 kz2 cz2, .slice qz2 lz2 dz2, .bool x2, .bool y2]), (w.heap.size + 1 + 1, [.int .i64 pi])] w') => hb.s_8_8_1)
 have HN : Hid (Apart [(w.heap.size, [.bool s1, .slice p1 k1 c1, .slice q1 l1 d1, .bool sz1, .slice pz1 kz1 cz1, .slice qz1 lz1 dz1, .bool x1, .bool y1]), (w.heap.size + 1, [.bool s2, .slice p2 k2 c2, .slice q2 l2 d2, .bool sz2, .slice pz2 kz2 cz2, .slice qz2 lz2 dz2, .bool x2, .bool y2]), (w.heap.size + 1 + 1, [.int .i64 pi])] (w.heap.size + 1 + 1 + 1 + 1)) := hid (ne3 (by omega) (by omega) (by omega))
 have HI : Hid (w.heap.size ≤ w.heap.size + 1 + 1 + 1 + 1) := hid (by omega)
 go_region_held3 (fun w' => w'.cell? ⟨w.heap.size, 0, none⟩ = some (.bool s1) ∧ w'.cell? ⟨w.heap.size, 1, none⟩ = some (.slice p1 k1 c1) ∧ w'.cell? ⟨w.heap.size, 2, none⟩ = some (.slice q1 l1 d1) ∧ w'.cell? ⟨w.heap.size, 3, none⟩ = some (.bool sz1) ∧ w'.cell? ⟨w.heap.size, 4, none⟩ = some (.slice pz1 kz1 cz1) ∧ w'.cell? ⟨w.heap.size, 5, none⟩ = some (.slice qz1 lz1 dz1) ∧ w'.cell? ⟨w.heap.size, 6, none⟩ = some (.bool x1) ∧ w'.cell? ⟨w.heap.size, 7, none⟩ = some (.bool y1) ∧ w'.cell? ⟨w.heap.size + 1, 0, none⟩ = some (.bool s2) ∧ w'.cell? ⟨w.heap.size + 1, 1, none⟩ = some (.slice p2 k2 c2) ∧ w'.cell? ⟨w.heap.size + 1, 2, none⟩ = some (.slice q2 l2 d2) ∧ w'.cell? ⟨w.heap.size + 1, 3, none⟩ = some (.bool sz2) ∧ w'.cell? ⟨w.heap.size + 1, 4, none⟩ = some (.slice pz2 kz2 cz2) ∧ w'.cell? ⟨w.heap.size + 1, 5, none⟩ = some (.slice qz2 lz2 dz2) ∧ w'.cell? ⟨w.heap.size + 1, 6, none⟩ = some (.bool x2) ∧ w'.cell? ⟨w.heap.size + 1, 7, none⟩ = some (.bool y2) ∧ w'.cell? ⟨w.heap.size + 1 + 1, 0, none⟩ = some (.int .i64 pi) ∧ Hid (QQ w [(w.heap.size, [.bool s1, .slice p1 k1 c1, .slice q1 l1 d1, .bool sz1, .slice pz1 kz1 cz1, .slice qz1 lz1 dz1, .bool x1, .bool y1]), (w.heap.size + 1, [.bool s2, .slice p2 k2 c2, .slice q2 l2 d2, .bool sz2, .slice pz2 kz2 cz2, .slice qz2 lz2 dz2, .bool x2, .bool y2]), (w.heap.size + 1 + 1, [.int .i64 pi])] w'))
  (first | (refine HS.out _ ?_; first | (with_reducible exact HQ.out.drew) | (with_reducible assumption) | (with_reducible refine QQ.st8 ?_ HN.out HI.out; assumption)))
  (first
   | (go_at_call 112; refine (HPr.out _).mono ?_; rintro e wa ⟨rfl, rfl⟩)
   | (go_at_call 94; refine (HC.out _ HQ.out.drew.bel (HV.out.2.2.1.drew) (HV.out.2.2.2.1.drew)).mono ?_; rintro e wb ⟨s5, p5, k5, c5, q5, l5, d5, sz5, pz5, kz5, cz5, qz5, lz5, dz5, x5, y5, rfl, hG, hB2⟩; have hQ2 := HQ.out.drew.call hB2; have hV2 := (HV.out.2.2.2.2.1.drew).below hB2; obtain ⟨g0, g1, g2, g3, g4, g5, g6, g7, f0, f1, f2, f3, f4, f5, f6, f7⟩ := hV2.cells8))
 all_goals
  have HE := hid (And.intro hV2 (And.intro hG.out hQ2.bel))
  clear hQ2 hV2 hB2 hG
  go_wp2_with fail
  exact rounded_ret rfl rfl (HE.out.1.stores [.bool s5, .slice p5 k5 c5, .slice q5 l5 d5, .bool sz5, .slice pz5 kz5 cz5, .slice qz5 lz5 dz5, .bool x5, .bool y5] rfl nd8) ⟨s5, p5, k5, c5, q5, l5, d5, sz5, pz5, kz5, cz5, qz5, lz5, dz5, x5, y5, rfl, hid (GRep.stores (k := 0) (l := [.bool s5, .slice p5 k5 c5, .slice q5 l5 d5, .bool sz5, .slice pz5 kz5 cz5, .slice qz5 lz5 dz5, .bool x5, .bool y5]) HE.out.2.1 HE.out.1 nd8), Below.stores (k := 0) (l := [.bool s5, .slice p5 k5 c5, .slice q5 l5 d5, .bool sz5, .slice pz5 kz5 cz5, .slice qz5 lz5 dz5, .bool x5, .bool y5]) HE.out.2.2 HI.out⟩
theorem iAdd_any (s1 : Bool) (p1 : Option Addr) (k1 c1 : Nat) (q1 : Option Addr) (l1 d1 : Nat) (sz1 : Bool) (pz1 : Option Addr) (kz1 cz1 : Nat) (qz1 : Option Addr) (lz1 dz1 : Nat) (x1 : Bool) (y1 : Bool) (s2 : Bool) (p2 : Option Addr) (k2 c2 : Nat) (q2 : Option Addr) (l2 d2 : Nat) (sz2 : Bool) (pz2 : Option Addr) (kz2 cz2 : Nat) (qz2 : Option Addr) (lz2 dz2 : Nat) (x2 : Bool) (y2 : Bool) (p : Int) (a b a' b' : Bool × Nat × Nat) (w : World) (ha : NRep w (.agg #[.bool s1, .slice p1 k1 c1, .slice q1 l1 d1]) a) (hb : NRep w (.agg #[.bool sz1, .slice pz1 kz1 cz1, .slice qz1 lz1 dz1]) b) (ha' : NRep w (.agg #[.bool s2, .slice p2 k2 c2, .slice q2 l2 d2]) a') (hb' : NRep w (.agg #[.bool sz2, .slice pz2 kz2 cz2, .slice qz2 lz2 dz2]) b') (ht : TabOk w) :
  Calls Tryz.prog 53 #[.agg #[.bool s1, .slice p1 k1 c1, .slice q1 l1 d1, .bool sz1, .slice pz1 kz1 cz1, .slice qz1 lz1 dz1, .bool x1, .bool y1], .agg #[.bool s2, .slice p2 k2 c2, .slice q2 l2 d2, .bool sz2, .slice pz2 kz2 cz2, .slice qz2 lz2 dz2, .bool x2, .bool y2], .int .i64 p] w fun e w' => ∃ s5 p5 k5 c5 q5 l5 d5 sz5 pz5 kz5 cz5 qz5 lz5 dz5 x5 y5, e = .returned (.tuple #[.agg #[.bool s5, .slice p5 k5 c5, .slice q5 l5 d5, .bool sz5, .slice pz5 kz5 cz5, .slice qz5 lz5 dz5, .bool x5, .bool y5], .int .i64 (rcode p splus (a, b, x1, y1) (a', b', x2, y2))]) ∧ Hid (GRep w' (.agg #[.bool s5, .slice p5 k5 c5, .slice q5 l5 d5, .bool sz5, .slice pz5 kz5 cz5, .slice qz5 lz5 dz5, .bool x5, .bool y5]) (rval p splus (a, b, x1, y1) (a', b', x2, y2))) ∧ Below w.heap.size w w' := by
 have HC := hid (fun (W : World) (hW : Below w.heap.size w W) =>
  rounded_gen s1 p1 k1 c1 q1 l1 d1 sz1 pz1 kz1 cz1 qz1 lz1 dz1 x1 y1 s2 p2 k2 c2 q2 l2 d2 sz2 pz2 kz2 cz2 qz2 lz2 dz2 x2 y2 p 118 #[] splus a b a' b' W (ha.below hW) (hb.below hW) (ha'.below hW) (hb'.below hW) (ht.below hW) enter_splus
   (fun h1 h2 h3 h4 _ _ => ⟨(rdE_ok (.inr rfl) h1).plus (rdE_ok (.inr rfl) h3), (rdE_ok (.inl rfl) h2).plus (rdE_ok (.inl rfl) h4)⟩)
   (fun h1 h2 h3 h4 _ _ W' i3 s3 p3 k3 c3 q3 l3 d3 j3 sz3 pz3 kz3 cz3 qz3 lz3 dz3 e3 i4 s4 p4 k4 c4 q4 l4 d4 j4 sz4 pz4 kz4 cz4 qz4 lz4 dz4 e4 hW' hS1 hS2 => splus_any i3 s3 p3 k3 c3 q3 l3 d3 j3 sz3 pz3 kz3 cz3 qz3 lz3 dz3 e3 i4 s4 p4 k4 c4 q4 l4 d4 j4 sz4 pz4 kz4 cz4 qz4 lz4 dz4 e4 (srd (a, b, x1, y1)) (srd (a', b', x2, y2)) W' hS1 hS2
    ⟨(rdE_ok (.inr rfl) h1).le (by omega), (rdE_ok (.inl rfl) h2).le (by omega)⟩ ⟨(rdE_ok (.inr rfl) h3).le (by omega), (rdE_ok (.inl rfl) h4).le (by omega)⟩ ((ht.below hW).below hW')))
 obtain ⟨D, hD⟩ : ∃ D, D = rval p splus (a, b, x1, y1) (a', b', x2, y2) := ⟨_, rfl⟩
 obtain ⟨c, hc⟩ : ∃ D, D = rcode p splus (a, b, x1, y1) (a', b', x2, y2) := ⟨_, rfl⟩
 rw [← hD, ← hc] at HC ⊢
 clear ha hb ha' hb' ht hD hc
 obtain ⟨pi, hpi⟩ : ∃ pi : Int, pi = p := ⟨_, rfl⟩
 rw [← hpi] at HC ⊢
 clear hpi
 go_enter Tryz.func53, Tryz.ntmps53
 go_wp2_with fail
 have HV := hid (pre3 w [.bool s1, .slice p1 k1 c1, .slice q1 l1 d1, .bool sz1, .slice pz1 kz1 cz1, .slice qz1 lz1 dz1, .bool x1, .bool y1] [.bool s2, .slice p2 k2 c2, .slice q2 l2 d2, .bool sz2, .slice pz2 kz2 cz2, .slice qz2 lz2 dz2, .bool x2, .bool y2] [.bool false, .slice none 0 0, .slice none 0 0, .bool false, .slice none 0 0, .slice none 0 0, .bool false, .bool false] 26 26 26 nd8 nd8 nd8)
 generalize ((w.alloc (.cells #[.bool s1, .slice p1 k1 c1, .slice q1 l1 d1, .bool sz1, .slice pz1 kz1 cz1, .slice qz1 lz1 dz1, .bool x1, .bool y1] 26)).alloc (.cells #[.bool s2, .slice p2 k2 c2, .slice q2 l2 d2, .bool sz2, .slice pz2 kz2 cz2, .slice qz2 lz2 dz2, .bool x2, .bool y2] 26)).alloc (.cells #[.bool false, .slice none 0 0, .slice none 0 0, .bool false, .slice none 0 0, .slice none 0 0, .bool false, .bool false] 26) = W0 at *
 refine (HC.out _ HV.out.2.2.2).mono ?_
 rintro e w1 ⟨s5, p5, k5, c5, q5, l5, d5, sz5, pz5, kz5, cz5, qz5, lz5, dz5, x5, y5, rfl, hG, hB1⟩
 have HE := hid (And.intro (HV.out.2.2.1.below hB1) (HV.out.2.2.2.trans (hB1.mono HV.out.2.2.2.size)))
 clear hB1
 obtain ⟨g0, g1, g2, g3, g4, g5, g6, g7, f0, f1, f2, f3, f4, f5, f6, f7⟩ := HE.out.1.cells8
 go_wp2_with fail
 exact iAdd_ret rfl rfl (HE.out.1.stores [.bool s5, .slice p5 k5 c5, .slice q5 l5 d5, .bool sz5, .slice pz5 kz5 cz5, .slice qz5 lz5 dz5, .bool x5, .bool y5] rfl nd8) ⟨s5, p5, k5, c5, q5, l5, d5, sz5, pz5, kz5, cz5, qz5, lz5, dz5, x5, y5, rfl, hid (GRep.stores (k := 0) (l := [.bool s5, .slice p5 k5 c5, .slice q5 l5 d5, .bool sz5, .slice pz5 kz5 cz5, .slice qz5 lz5 dz5, .bool x5, .bool y5]) hG.out HE.out.1 nd8), Below.stores (k := 0) (l := [.bool s5, .slice p5 k5 c5, .slice q5 l5 d5, .bool sz5, .slice pz5 kz5 cz5, .slice qz5 lz5 dz5, .bool x5, .bool y5]) HE.out.2 (by omega)⟩
def sminus (x y : (Int × Bool × Nat × Nat) × (Int × Bool × Nat × Nat) × Bool) : (Int × Bool × Nat × Nat) × (Int × Bool × Nat × Nat) × Bool := splus x (sneg y)
theorem EOk.nega {A : Nat} {x : Int × Bool × Nat × Nat} (h : EOk A x) : EOk A (eneg x) := by
 unfold eneg
 split
 case isTrue h0 =>
  refine ⟨fun _ => ?_, fun h1 => absurd rfl h1, h.bn, h.bd⟩
  obtain ⟨s, n, d, hd, e⟩ := h.fin h0
  exact ⟨!s, n, d, hd, by show fneg x.2 = _; rw [e, fneg_frac hd]⟩
 case isFalse h0 =>
  refine ⟨fun h1 => ?_, fun _ => ⟨?_, rfl⟩, Nat.pow_pos W32_pos, Nat.pow_pos W32_pos⟩
  ·have h1' : -x.1 = 0 := h1
   omega
  ·show -x.1 = 1 ∨ -x.1 = -1
   rcases (h.inf h0).1 with e | e <;> rw [e] <;> simp
theorem sminus_ret {W : World} {B : Nat} {a0 a1 a2 a3 a4 a5 a6 a7 a8 : Value} {tm : Array Value} {R : Ending → World → Prop} (h2 : tm[4]?.getD undef = .pointer (some ⟨B, 0, none⟩)) (hV : Box W B #[a0, a1, a2, a3, a4, a5, a6, a7, a8]) (hR : R (.returned (.agg #[a0, a1, a2, a3, a4, a5, a6, a7, a8])) W) :
  bodyPost Tryz.prog Tryz.f120 R .ret { tmps := tm, defers := [] } W := by
 obtain ⟨g0, g1, g2, g3, g4, g5, g6, g7, g8, _⟩ := hV.cells9
 exact bodyPost_ret (v := .agg #[a0, a1, a2, a3, a4, a5, a6, a7, a8]) (by simp [results, Tryz.results120, go_sem, h2, g0, g1, g2, g3, g4, g5, g6, g7, g8]) rfl hR
theorem sminus_any (i1 : Int) (s1 : Bool) (p1 : Option Addr) (k1 c1 : Nat) (q1 : Option Addr) (l1 d1 : Nat) (j1 : Int) (sz1 : Bool) (pz1 : Option Addr) (kz1 cz1 : Nat) (qz1 : Option Addr) (lz1 dz1 : Nat) (e1 : Bool) (i2 : Int) (s2 : Bool) (p2 : Option Addr) (k2 c2 : Nat) (q2 : Option Addr) (l2 d2 : Nat) (j2 : Int) (sz2 : Bool) (pz2 : Option Addr) (kz2 cz2 : Nat) (qz2 : Option Addr) (lz2 dz2 : Nat) (e2 : Bool) (x y : (Int × Bool × Nat × Nat) × (Int × Bool × Nat × Nat) × Bool) (w : World) (h : SRep w (.agg #[.int .i64 i1, .bool s1, .slice p1 k1 c1, .slice q1 l1 d1, .int .i64 j1, .bool sz1, .slice pz1 kz1 cz1, .slice qz1 lz1 dz1, .bool e1]) x) (h' : SRep w (.agg #[.int .i64 i2, .bool s2, .slice p2 k2 c2, .slice q2 l2 d2, .int .i64 j2, .bool sz2, .slice pz2 kz2 cz2, .slice qz2 lz2 dz2, .bool e2]) y) (hx : EOk 1000 x.1 ∧ EOk 1000 x.2.1) (hy : EOk 1000 y.1 ∧ EOk 1000 y.2.1) (ht : TabOk w) :
  Calls Tryz.prog 120 #[.agg #[.int .i64 i1, .bool s1, .slice p1 k1 c1, .slice q1 l1 d1, .int .i64 j1, .bool sz1, .slice pz1 kz1 cz1, .slice qz1 lz1 dz1, .bool e1], .agg #[.int .i64 i2, .bool s2, .slice p2 k2 c2, .slice q2 l2 d2, .int .i64 j2, .bool sz2, .slice pz2 kz2 cz2, .slice qz2 lz2 dz2, .bool e2]] w fun e w' => ∃ i3 s3 p3 k3 c3 q3 l3 d3 j3 sz3 pz3 kz3 cz3 qz3 lz3 dz3 e3, e = .returned (.agg #[.int .i64 i3, .bool s3, .slice p3 k3 c3, .slice q3 l3 d3, .int .i64 j3, .bool sz3, .slice pz3 kz3 cz3, .slice qz3 lz3 dz3, .bool e3]) ∧ Hid (SRep w' (.agg #[.int .i64 i3, .bool s3, .slice p3 k3 c3, .slice q3 l3 d3, .int .i64 j3, .bool sz3, .slice pz3 kz3 cz3, .slice qz3 lz3 dz3, .bool e3]) (sminus x y)) ∧ Below w.heap.size w w' := by
 have HN := hid (fun (W : World) (hW : Below w.heap.size w W) => sneg_any i2 s2 p2 k2 c2 q2 l2 d2 j2 sz2 pz2 kz2 cz2 qz2 lz2 dz2 e2 y 1000 W (h'.below hW) hy)
 have HP := hid (fun (W : World) (i3 : Int) (s3 : Bool) (p3 : Option Addr) (k3 c3 : Nat) (q3 : Option Addr) (l3 d3 : Nat) (j3 : Int) (sz3 : Bool) (pz3 : Option Addr) (kz3 cz3 : Nat) (qz3 : Option Addr) (lz3 dz3 : Nat) (e3 : Bool) (hW : Below w.heap.size w W) (hs : SRep W (.agg #[.int .i64 i3, .bool s3, .slice p3 k3 c3, .slice q3 l3 d3, .int .i64 j3, .bool sz3, .slice pz3 kz3 cz3, .slice qz3 lz3 dz3, .bool e3]) (sneg y)) => splus_any i1 s1 p1 k1 c1 q1 l1 d1 j1 sz1 pz1 kz1 cz1 qz1 lz1 dz1 e1 i3 s3 p3 k3 c3 q3 l3 d3 j3 sz3 pz3 kz3 cz3 qz3 lz3 dz3 e3 x (sneg y) W (h.below hW) hs hx ⟨hy.2.nega, hy.1.nega⟩ (ht.below hW))
 obtain ⟨r, hr⟩ : ∃ r, r = sminus x y := ⟨_, rfl⟩
 rw [← hr]
 change Hid (∀ (W : World) (i3 : Int) (s3 : Bool) (p3 : Option Addr) (k3 c3 : Nat) (q3 : Option Addr) (l3 d3 : Nat) (j3 : Int) (sz3 : Bool) (pz3 : Option Addr) (kz3 cz3 : Nat) (qz3 : Option Addr) (lz3 dz3 : Nat) (e3 : Bool), Below w.heap.size w W → SRep W (.agg #[.int .i64 i3, .bool s3, .slice p3 k3 c3, .slice q3 l3 d3, .int .i64 j3, .bool sz3, .slice pz3 kz3 cz3, .slice qz3 lz3 dz3, .bool e3]) (sneg y) → Calls _ _ _ W fun e w' => ∃ i5 s5 p5 k5 c5 q5 l5 d5 j5 sz5 pz5 kz5 cz5 qz5 lz5 dz5 e5, e = .returned (.agg #[.int .i64 i5, .bool s5, .slice p5 k5 c5, .slice q5 l5 d5, .int .i64 j5, .bool sz5, .slice pz5 kz5 cz5, .slice qz5 lz5 dz5, .bool e5]) ∧ Hid (SRep w' (.agg #[.int .i64 i5, .bool s5, .slice p5 k5 c5, .slice q5 l5 d5, .int .i64 j5, .bool sz5, .slice pz5 kz5 cz5, .slice qz5 lz5 dz5, .bool e5]) (sminus x y)) ∧ Below W.heap.size W w') at HP
 rw [← hr] at HP
 obtain ⟨n, hn⟩ : ∃ r, r = sneg y := ⟨_, rfl⟩
 rw [← hn] at HN HP
 clear h h' hx hy ht hr hn
 go_enter Tryz.func120, Tryz.ntmps120
 go_wp2_with fail
 have HV := hid (pre3 w [.int .i64 i1, .bool s1, .slice p1 k1 c1, .slice q1 l1 d1, .int .i64 j1, .bool sz1, .slice pz1 kz1 cz1, .slice qz1 lz1 dz1, .bool e1] [.int .i64 i2, .bool s2, .slice p2 k2 c2, .slice q2 l2 d2, .int .i64 j2, .bool sz2, .slice pz2 kz2 cz2, .slice qz2 lz2 dz2, .bool e2] [.int .i64 0, .bool false, .slice none 0 0, .slice none 0 0, .int .i64 0, .bool false, .slice none 0 0, .slice none 0 0, .bool false] 65 65 65 nd_S nd_S nd_S)
 generalize ((w.alloc (.cells #[.int .i64 i1, .bool s1, .slice p1 k1 c1, .slice q1 l1 d1, .int .i64 j1, .bool sz1, .slice pz1 kz1 cz1, .slice qz1 lz1 dz1, .bool e1] 65)).alloc (.cells #[.int .i64 i2, .bool s2, .slice p2 k2 c2, .slice q2 l2 d2, .int .i64 j2, .bool sz2, .slice pz2 kz2 cz2, .slice qz2 lz2 dz2, .bool e2] 65)).alloc (.cells #[.int .i64 0, .bool false, .slice none 0 0, .slice none 0 0, .int .i64 0, .bool false, .slice none 0 0, .slice none 0 0, .bool false] 65) = W0 at *
 have HQ := hid (QQ.i2 (cs := [.int .i64 i1, .bool s1, .slice p1 k1 c1, .slice q1 l1 d1, .int .i64 j1, .bool sz1, .slice pz1 kz1 cz1, .slice qz1 lz1 dz1, .bool e1]) (cs' := [.int .i64 i2, .bool s2, .slice p2 k2 c2, .slice q2 l2 d2, .int .i64 j2, .bool sz2, .slice pz2 kz2 cz2, .slice qz2 lz2 dz2, .bool e2]) HV.out.1 HV.out.2.1 HV.out.2.2.2)
 have HS := hid (fun (w' : World) (hb : QQ w [(w.heap.size, [.int .i64 i1, .bool s1, .slice p1 k1 c1, .slice q1 l1 d1, .int .i64 j1, .bool sz1, .slice pz1 kz1 cz1, .slice qz1 lz1 dz1, .bool e1]), (w.heap.size + 1, [.int .i64 i2, .bool s2, .slice p2 k2 c2, .slice q2 l2 d2, .int .i64 j2, .bool sz2, .slice pz2 kz2 cz2, .slice qz2 lz2 dz2, .bool e2])] w') => hb.s_9_9)
 have HA : Hid (Apart [(w.heap.size, [.int .i64 i1, .bool s1, .slice p1 k1 c1, .slice q1 l1 d1, .int .i64 j1, .bool sz1, .slice pz1 kz1 cz1, .slice qz1 lz1 dz1, .bool e1]), (w.heap.size + 1, [.int .i64 i2, .bool s2, .slice p2 k2 c2, .slice q2 l2 d2, .int .i64 j2, .bool sz2, .slice pz2 kz2 cz2, .slice qz2 lz2 dz2, .bool e2])] (w.heap.size + 1 + 1)) := hid (ne2 (by omega) (by omega))
 have HI : Hid (w.heap.size ≤ w.heap.size + 1 + 1) := hid (by omega)
 go_region_held3 (fun w' => w'.cell? ⟨w.heap.size, 0, none⟩ = some (.int .i64 i1) ∧ w'.cell? ⟨w.heap.size, 1, none⟩ = some (.bool s1) ∧ w'.cell? ⟨w.heap.size, 2, none⟩ = some (.slice p1 k1 c1) ∧ w'.cell? ⟨w.heap.size, 3, none⟩ = some (.slice q1 l1 d1) ∧ w'.cell? ⟨w.heap.size, 4, none⟩ = some (.int .i64 j1) ∧ w'.cell? ⟨w.heap.size, 5, none⟩ = some (.bool sz1) ∧ w'.cell? ⟨w.heap.size, 6, none⟩ = some (.slice pz1 kz1 cz1) ∧ w'.cell? ⟨w.heap.size, 7, none⟩ = some (.slice qz1 lz1 dz1) ∧ w'.cell? ⟨w.heap.size, 8, none⟩ = some (.bool e1) ∧ w'.cell? ⟨w.heap.size + 1, 0, none⟩ = some (.int .i64 i2) ∧ w'.cell? ⟨w.heap.size + 1, 1, none⟩ = some (.bool s2) ∧ w'.cell? ⟨w.heap.size + 1, 2, none⟩ = some (.slice p2 k2 c2) ∧ w'.cell? ⟨w.heap.size + 1, 3, none⟩ = some (.slice q2 l2 d2) ∧ w'.cell? ⟨w.heap.size + 1, 4, none⟩ = some (.int .i64 j2) ∧ w'.cell? ⟨w.heap.size + 1, 5, none⟩ = some (.bool sz2) ∧ w'.cell? ⟨w.heap.size + 1, 6, none⟩ = some (.slice pz2 kz2 cz2) ∧ w'.cell? ⟨w.heap.size + 1, 7, none⟩ = some (.slice qz2 lz2 dz2) ∧ w'.cell? ⟨w.heap.size + 1, 8, none⟩ = some (.bool e2) ∧ Hid (QQ w [(w.heap.size, [.int .i64 i1, .bool s1, .slice p1 k1 c1, .slice q1 l1 d1, .int .i64 j1, .bool sz1, .slice pz1 kz1 cz1, .slice qz1 lz1 dz1, .bool e1]), (w.heap.size + 1, [.int .i64 i2, .bool s2, .slice p2 k2 c2, .slice q2 l2 d2, .int .i64 j2, .bool sz2, .slice pz2 kz2 cz2, .slice qz2 lz2 dz2, .bool e2])] w'))
  (first | (refine HS.out _ ?_; first | (with_reducible exact HQ.out.drew) | (with_reducible assumption) | (with_reducible refine QQ.st9 ?_ HA.out HI.out; assumption)))
  (first
   | (go_at_call 78; refine (HN.out _ HQ.out.drew.bel).mono ?_; rintro e wa ⟨i3, s3, p3, k3, c3, q3, l3, d3, j3, sz3, pz3, kz3, cz3, qz3, lz3, dz3, e3, rfl, hE1, hB1⟩; have hQ1 := HQ.out.drew.call hB1; have hV1 := (HV.out.2.2.1.drew).below hB1)
   | (go_at_call 118; refine (HP.out _ i3 s3 p3 k3 c3 q3 l3 d3 j3 sz3 pz3 kz3 cz3 qz3 lz3 dz3 e3 hQ1.bel hE1.out).mono ?_; rintro e wb ⟨i5, s5, p5, k5, c5, q5, l5, d5, j5, sz5, pz5, kz5, cz5, qz5, lz5, dz5, e5, rfl, hE2, hB2⟩; have hQ2 := hQ1.call hB2; have hV2 := hV1.below hB2; obtain ⟨g0, g1, g2, g3, g4, g5, g6, g7, g8, f0, f1, f2, f3, f4, f5, f6, f7, f8⟩ := hV2.cells9))
 rename_i hHeld
 clear hHeld
 have HE := hid (And.intro hV2 (And.intro hE2.out hQ2.bel))
 clear hQ1 hQ2 hV1 hV2 hB1 hB2 hE1 hE2
 go_wp2_with fail
 exact sminus_ret rfl (HE.out.1.stores [.int .i64 i5, .bool s5, .slice p5 k5 c5, .slice q5 l5 d5, .int .i64 j5, .bool sz5, .slice pz5 kz5 cz5, .slice qz5 lz5 dz5, .bool e5] rfl nd_S) ⟨i5, s5, p5, k5, c5, q5, l5, d5, j5, sz5, pz5, kz5, cz5, qz5, lz5, dz5, e5, rfl, hid (SRep.stores (k := 0) (l := [.int .i64 i5, .bool s5, .slice p5 k5 c5, .slice q5 l5 d5, .int .i64 j5, .bool sz5, .slice pz5 kz5 cz5, .slice qz5 lz5 dz5, .bool e5]) HE.out.2.1 HE.out.1 nd_S), Below.stores (k := 0) (l := [.int .i64 i5, .bool s5, .slice p5 k5 c5, .slice q5 l5 d5, .int .i64 j5, .bool sz5, .slice pz5 kz5 cz5, .slice qz5 lz5 dz5, .bool e5]) HE.out.2.2 (by omega)⟩
theorem enter_sminus (args : Array Value) (w : World) : (callFunc 120 args).run Tryz.prog w = .ok (.enter 120 args) w := call_enter Tryz.func120 (by kernel_rfl) rfl args w
theorem iSub_ret {W : World} {B : Nat} {a0 a1 a2 a3 a4 a5 a6 a7 ev : Value} {tm : Array Value} {R : Ending → World → Prop} (h2 : tm[6]?.getD undef = .pointer (some ⟨B, 0, none⟩)) (h3 : tm[7]?.getD undef = ev) (hV : Box W B #[a0, a1, a2, a3, a4, a5, a6, a7]) (hR : R (.returned (.tuple #[.agg #[a0, a1, a2, a3, a4, a5, a6, a7], ev])) W) :
  bodyPost Tryz.prog Tryz.f55 R .ret { tmps := tm, defers := [] } W := by
 obtain ⟨g0, g1, g2, g3, g4, g5, g6, g7, _⟩ := hV.cells8
 exact bodyPost_ret (v := .tuple #[.agg #[a0, a1, a2, a3, a4, a5, a6, a7], ev]) (by simp [results, Tryz.results55, go_sem, h2, h3, g0, g1, g2, g3, g4, g5, g6, g7]) rfl hR
theorem iSub_any (s1 : Bool) (p1 : Option Addr) (k1 c1 : Nat) (q1 : Option Addr) (l1 d1 : Nat) (sz1 : Bool) (pz1 : Option Addr) (kz1 cz1 : Nat) (qz1 : Option Addr) (lz1 dz1 : Nat) (x1 : Bool) (y1 : Bool) (s2 : Bool) (p2 : Option Addr) (k2 c2 : Nat) (q2 : Option Addr) (l2 d2 : Nat) (sz2 : Bool) (pz2 : Option Addr) (kz2 cz2 : Nat) (qz2 : Option Addr) (lz2 dz2 : Nat) (x2 : Bool) (y2 : Bool) (p : Int) (a b a' b' : Bool × Nat × Nat) (w : World) (ha : NRep w (.agg #[.bool s1, .slice p1 k1 c1, .slice q1 l1 d1]) a) (hb : NRep w (.agg #[.bool sz1, .slice pz1 kz1 cz1, .slice qz1 lz1 dz1]) b) (ha' : NRep w (.agg #[.bool s2, .slice p2 k2 c2, .slice q2 l2 d2]) a') (hb' : NRep w (.agg #[.bool sz2, .slice pz2 kz2 cz2, .slice qz2 lz2 dz2]) b') (ht : TabOk w) :
  Calls Tryz.prog 55 #[.agg #[.bool s1, .slice p1 k1 c1, .slice q1 l1 d1, .bool sz1, .slice pz1 kz1 cz1, .slice qz1 lz1 dz1, .bool x1, .bool y1], .agg #[.bool s2, .slice p2 k2 c2, .slice q2 l2 d2, .bool sz2, .slice pz2 kz2 cz2, .slice qz2 lz2 dz2, .bool x2, .bool y2], .int .i64 p] w fun e w' => ∃ s5 p5 k5 c5 q5 l5 d5 sz5 pz5 kz5 cz5 qz5 lz5 dz5 x5 y5, e = .returned (.tuple #[.agg #[.bool s5, .slice p5 k5 c5, .slice q5 l5 d5, .bool sz5, .slice pz5 kz5 cz5, .slice qz5 lz5 dz5, .bool x5, .bool y5], .int .i64 (rcode p sminus (a, b, x1, y1) (a', b', x2, y2))]) ∧ Hid (GRep w' (.agg #[.bool s5, .slice p5 k5 c5, .slice q5 l5 d5, .bool sz5, .slice pz5 kz5 cz5, .slice qz5 lz5 dz5, .bool x5, .bool y5]) (rval p sminus (a, b, x1, y1) (a', b', x2, y2))) ∧ Below w.heap.size w w' := by
 have HC := hid (fun (W : World) (hW : Below w.heap.size w W) =>
  rounded_gen s1 p1 k1 c1 q1 l1 d1 sz1 pz1 kz1 cz1 qz1 lz1 dz1 x1 y1 s2 p2 k2 c2 q2 l2 d2 sz2 pz2 kz2 cz2 qz2 lz2 dz2 x2 y2 p 120 #[] sminus a b a' b' W (ha.below hW) (hb.below hW) (ha'.below hW) (hb'.below hW) (ht.below hW) enter_sminus
   (fun h1 h2 h3 h4 _ _ => ⟨(rdE_ok (.inr rfl) h1).plus (rdE_ok (.inl rfl) h4).nega, (rdE_ok (.inl rfl) h2).plus (rdE_ok (.inr rfl) h3).nega⟩)
   (fun h1 h2 h3 h4 _ _ W' i3 s3 p3 k3 c3 q3 l3 d3 j3 sz3 pz3 kz3 cz3 qz3 lz3 dz3 e3 i4 s4 p4 k4 c4 q4 l4 d4 j4 sz4 pz4 kz4 cz4 qz4 lz4 dz4 e4 hW' hS1 hS2 => sminus_any i3 s3 p3 k3 c3 q3 l3 d3 j3 sz3 pz3 kz3 cz3 qz3 lz3 dz3 e3 i4 s4 p4 k4 c4 q4 l4 d4 j4 sz4 pz4 kz4 cz4 qz4 lz4 dz4 e4 (srd (a, b, x1, y1)) (srd (a', b', x2, y2)) W' hS1 hS2
    ⟨(rdE_ok (.inr rfl) h1).le (by omega), (rdE_ok (.inl rfl) h2).le (by omega)⟩ ⟨(rdE_ok (.inr rfl) h3).le (by omega), (rdE_ok (.inl rfl) h4).le (by omega)⟩ ((ht.below hW).below hW')))
 obtain ⟨D, hD⟩ : ∃ D, D = rval p sminus (a, b, x1, y1) (a', b', x2, y2) := ⟨_, rfl⟩
 obtain ⟨c, hc⟩ : ∃ D, D = rcode p sminus (a, b, x1, y1) (a', b', x2, y2) := ⟨_, rfl⟩
 rw [← hD, ← hc] at HC ⊢
 clear ha hb ha' hb' ht hD hc
 obtain ⟨pi, hpi⟩ : ∃ pi : Int, pi = p := ⟨_, rfl⟩
 rw [← hpi] at HC ⊢
 clear hpi
 go_enter Tryz.func55, Tryz.ntmps55
 go_wp2_with fail
 have HV := hid (pre3 w [.bool s1, .slice p1 k1 c1, .slice q1 l1 d1, .bool sz1, .slice pz1 kz1 cz1, .slice qz1 lz1 dz1, .bool x1, .bool y1] [.bool s2, .slice p2 k2 c2, .slice q2 l2 d2, .bool sz2, .slice pz2 kz2 cz2, .slice qz2 lz2 dz2, .bool x2, .bool y2] [.bool false, .slice none 0 0, .slice none 0 0, .bool false, .slice none 0 0, .slice none 0 0, .bool false, .bool false] 26 26 26 nd8 nd8 nd8)
 generalize ((w.alloc (.cells #[.bool s1, .slice p1 k1 c1, .slice q1 l1 d1, .bool sz1, .slice pz1 kz1 cz1, .slice qz1 lz1 dz1, .bool x1, .bool y1] 26)).alloc (.cells #[.bool s2, .slice p2 k2 c2, .slice q2 l2 d2, .bool sz2, .slice pz2 kz2 cz2, .slice qz2 lz2 dz2, .bool x2, .bool y2] 26)).alloc (.cells #[.bool false, .slice none 0 0, .slice none 0 0, .bool false, .slice none 0 0, .slice none 0 0, .bool false, .bool false] 26) = W0 at *
 refine (HC.out _ HV.out.2.2.2).mono ?_
 rintro e w1 ⟨s5, p5, k5, c5, q5, l5, d5, sz5, pz5, kz5, cz5, qz5, lz5, dz5, x5, y5, rfl, hG, hB1⟩
 have HE := hid (And.intro (HV.out.2.2.1.below hB1) (HV.out.2.2.2.trans (hB1.mono HV.out.2.2.2.size)))
 clear hB1
 obtain ⟨g0, g1, g2, g3, g4, g5, g6, g7, f0, f1, f2, f3, f4, f5, f6, f7⟩ := HE.out.1.cells8
 go_wp2_with fail
 exact iSub_ret rfl rfl (HE.out.1.stores [.bool s5, .slice p5 k5 c5, .slice q5 l5 d5, .bool sz5, .slice pz5 kz5 cz5, .slice qz5 lz5 dz5, .bool x5, .bool y5] rfl nd8) ⟨s5, p5, k5, c5, q5, l5, d5, sz5, pz5, kz5, cz5, qz5, lz5, dz5, x5, y5, rfl, hid (GRep.stores (k := 0) (l := [.bool s5, .slice p5 k5 c5, .slice q5 l5 d5, .bool sz5, .slice pz5 kz5 cz5, .slice qz5 lz5 dz5, .bool x5, .bool y5]) hG.out HE.out.1 nd8), Below.stores (k := 0) (l := [.bool s5, .slice p5 k5 c5, .slice q5 l5 d5, .bool sz5, .slice pz5 kz5 cz5, .slice qz5 lz5 dz5, .bool x5, .bool y5]) HE.out.2 (by omega)⟩
end Go.Proofs.YtpdpabpdejmdbaaGreatDoor
namespace Go.Proofs.YtpdpabpdejmdbaaGreatDoor
open Go.RowKit Dg
theorem small_low (n : Nat) (h : n < 10) : n < W32 ^ 1000000000 := lt_big (a := 1) (by rw [Nat.pow_one]; unfold W32; omega) (by omega)
theorem lt_b16 {x : Nat} (h : x < 10) : x < B16 ^ 1000000000 := lt_16 (a := 1) (by rw [Nat.pow_one]; unfold B16; omega) (by omega)
theorem ratInt (v : Value) (n : Nat) (hn : n < 10) (w : World) (h : QNorm w v (false, n, 1)) :
  Calls Tryz.prog 71 #[v] w fun e w' => ∃ s1 p1 k1 c1 q1 l1 d1, e = .returned (.agg #[.bool s1, .slice p1 k1 c1, .slice q1 l1 d1]) ∧ Hid (FNorm w' (.agg #[.bool s1, .slice p1 k1 c1, .slice q1 l1 d1]) (false, n, 0)) ∧ Below w.heap.size w w' :=
 fopen (t := (false, n, 0)) ((rRat_any v false n 1 w h (lt_b16 (by omega)) (lt_b16 (by omega))).mono fun _ _ ⟨v', he, hF, hB⟩ => ⟨v', he, hF, hB⟩)
theorem intInt (n : Nat) (hn : n < 10) (hn0 : n ≠ 0) (w : World) :
  Calls Tryz.prog 72 #[.int .i64 (n : Int)] w fun e w' => ∃ v', e = .returned v' ∧ QNorm w' v' (false, n, 1) ∧ Below w.heap.size w w' := by
 refine (rInt_any (n : Int) w (by omega) (by omega)).mono ?_
 rintro e w' ⟨v', he, hF, hB⟩
 refine ⟨v', he, ?_, hB⟩
 have e1 : mkq (decide ((n : Int) < 0)) (n : Int).natAbs 1 = (false, n, 1) := by
  rw [decide_eq_false (by omega), Int.natAbs_natCast, mkq_one hn0]
 rwa [e1] at hF
theorem rep_one {w : World} {p : Option Addr} {k c n : Nat} (h : Rep W32 w (.slice p k c) n) (h0 : 0 < n) (h1 : n < W32) : k = 1 ∧ k ≤ c ∧ ∃ b off, p = some ⟨b, off, none⟩ ∧ w.cell? ⟨b, off, none⟩ = some (.int .u32 (n : Nat)) := by
 obtain ⟨p', k', c', hv, hk, hl, hs⟩ := h
 obtain ⟨rfl, rfl, rfl⟩ := Value.slice.inj hv
 have hk1 : k = 1 := hl.unique W32_one ⟨by rw [Nat.pow_one]; exact h1, fun _ => by rw [Nat.sub_self, Nat.pow_zero]; omega⟩
 subst hk1
 obtain ⟨b, off, hp, hc⟩ := hs (by omega)
 refine ⟨rfl, hk, b, off, hp, ?_⟩
 have h2 := hc 0 (by omega)
 have e : dg W32 n 0 = n := by unfold dg; rw [Nat.pow_zero, Nat.div_one, Nat.mod_eq_of_lt h1]
 rwa [e] at h2
theorem rep_zero {w : World} {p : Option Addr} {k c : Nat} (h : Rep W32 w (.slice p k c) 0) : k = 0 := by
 obtain ⟨p', k', c', hv, hk, hl, hs⟩ := h
 obtain ⟨rfl, rfl, rfl⟩ := Value.slice.inj hv
 exact (hl.zero_iff W32_pos).1 rfl
theorem FNorm.parts {w : World} {s : Bool} {vn vd : Value} {t : Bool × Nat × Nat} (h : FNorm w (.agg #[.bool s, vn, vd]) t) : s = t.1 ∧ Rep W32 w vn t.2.1 ∧ Rep W32 w vd t.2.2 := by
 obtain ⟨vn', vd', hv, h1, h2⟩ := h
 have e := Value.agg.inj hv
 simp at e
 obtain ⟨rfl, rfl, rfl⟩ := e
 exact ⟨rfl, h1, h2⟩
theorem nrep_small {w : World} {v : Value} {n : Nat} (h : FNorm w v (false, n, 0)) (hn : n < 10) : NRep w v (false, n, 0) := FRep.arep h (small_low n hn) (small_low 0 (by omega))
theorem rc46 : rcode 0 splus ((false, 1, 0), (false, 2, 0), false, false) ((false, 3, 0), (false, 4, 0), false, false) = 0 := by decide +kernel
theorem rv46 : rval 0 splus ((false, 1, 0), (false, 2, 0), false, false) ((false, 3, 0), (false, 4, 0), false, false) = ((false, 4, 0), (false, 6, 0), false, false) := by decide +kernel
theorem awake3_any (w : World) (ht : TabOk w) :
  Calls Tryz.prog 18 #[] w fun e w' => e = .returned (.bool true) ∧ Below w.heap.size w w' := by
 have HT := hid ht
 have HI := hid (fun (n : Nat) (h : n < 10) (h0 : n ≠ 0) (W : World) => intInt n h h0 W)
 clear ht
 go_enter Tryz.func18, Tryz.ntmps18
 go_wp2_with fail
 refine (HI.out 1 (by omega) (by omega) w).mono ?_
 rintro e w1 ⟨v1, rfl, hq1, hb1⟩
 go_wp2_with fail
 refine (ratInt v1 1 (by omega) w1 hq1).mono ?_
 rintro e w2 ⟨s1, p1, k1, c1, q1, l1, d1, rfl, hF1, hb2⟩
 have HB2 := hid (hb1.trans (hb2.mono hb1.size))
 clear hb1 hb2 hq1
 go_wp2_with fail
 refine (HI.out 2 (by omega) (by omega) w2).mono ?_
 rintro e w3 ⟨v3, rfl, hq3, hb3⟩
 go_wp2_with fail
 refine (ratInt v3 2 (by omega) w3 hq3).mono ?_
 rintro e w4 ⟨s2, p2, k2, c2, q2, l2, d2, rfl, hF2, hb4⟩
 have HB4 := hid (held_any HB2.out (hb3.trans (hb4.mono hb3.size)))
 have HF1 := hid (hF1.out.below (hb3.trans (hb4.mono hb3.size)))
 clear hb3 hb4 hq3 hF1
 go_wp2_with fail
 refine (HI.out 3 (by omega) (by omega) w4).mono ?_
 rintro e w5 ⟨v5, rfl, hq5, hb5⟩
 go_wp2_with fail
 refine (ratInt v5 3 (by omega) w5 hq5).mono ?_
 rintro e w6 ⟨s3, p3, k3, c3, q3, l3, d3, rfl, hF3, hb6⟩
 have hb56 := hb5.trans (hb6.mono hb5.size)
 have HB6 := hid (held_any HB4.out hb56)
 have HG1 := hid (HF1.out.below hb56)
 have HG2 := hid (hF2.out.below hb56)
 clear hb5 hb6 hq5 HF1 hF2 hb56
 go_wp2_with fail
 refine (HI.out 4 (by omega) (by omega) w6).mono ?_
 rintro e w7 ⟨v7, rfl, hq7, hb7⟩
 go_wp2_with fail
 refine (ratInt v7 4 (by omega) w7 hq7).mono ?_
 rintro e w8 ⟨s4, p4, k4, c4, q4, l4, d4, rfl, hF4, hb8⟩
 have hb78 := hb7.trans (hb8.mono hb7.size)
 have HB8 := hid (held_any HB6.out hb78)
 have HH := hid (And.intro (HG1.out.below hb78) (And.intro (HG2.out.below hb78) (And.intro (hF3.out.below hb78) hF4.out)))
 clear hb7 hb8 hq7 HG1 HG2 hF3 hF4 hb78
 have HA := hid (fun (W : World) (hW : Below w8.heap.size w8 W) => iAdd_any s1 p1 k1 c1 q1 l1 d1 s2 p2 k2 c2 q2 l2 d2 false false s3 p3 k3 c3 q3 l3 d3 s4 p4 k4 c4 q4 l4 d4 false false 0 (false, 1, 0) (false, 2, 0) (false, 3, 0) (false, 4, 0) W
  (NRep.below (nrep_small HH.out.1 (by omega)) hW) (NRep.below (nrep_small HH.out.2.1 (by omega)) hW) (NRep.below (nrep_small HH.out.2.2.1 (by omega)) hW) (NRep.below (nrep_small HH.out.2.2.2 (by omega)) hW) ((HT.out.below HB8.out).below hW))
 obtain ⟨D, hD⟩ : ∃ D, D = rval 0 splus ((false, 1, 0), (false, 2, 0), false, false) ((false, 3, 0), (false, 4, 0), false, false) := ⟨_, rfl⟩
 rw [rc46, ← hD] at HA
 rw [rv46] at hD
 have HD := hid hD
 clear hD HI HH
 go_upto_region 2 with fail
 have HV := hid (pre4 w8 [.bool s1, .slice p1 k1 c1, .slice q1 l1 d1] [.bool s2, .slice p2 k2 c2, .slice q2 l2 d2] [.bool s3, .slice p3 k3 c3, .slice q3 l3 d3] [.bool s4, .slice p4 k4 c4, .slice q4 l4 d4] 24 24 24 24 nd3 nd3 nd3 nd3)
 generalize (((w8.alloc (.cells #[.bool s1, .slice p1 k1 c1, .slice q1 l1 d1] 24)).alloc (.cells #[.bool s2, .slice p2 k2 c2, .slice q2 l2 d2] 24)).alloc (.cells #[.bool s3, .slice p3 k3 c3, .slice q3 l3 d3] 24)).alloc (.cells #[.bool s4, .slice p4 k4 c4, .slice q4 l4 d4] 24) = W0 at *
 obtain ⟨m0, m1, m2, _⟩ := HV.out.1.cells3
 obtain ⟨n0, n1, n2, _⟩ := HV.out.2.1.cells3
 obtain ⟨o0, o1, o2, _⟩ := HV.out.2.2.1.cells3
 obtain ⟨u0, u1, u2, _⟩ := HV.out.2.2.2.1.cells3
 go_wp2_with fail
 refine (HA.out _ HV.out.2.2.2.2).mono ?_
 rintro e w9 ⟨s5, p5, k5, c5, q5, l5, d5, sz5, pz5, kz5, cz5, qz5, lz5, dz5, x5, y5, rfl, hG, hB9⟩
 clear m0 m1 m2 n0 n1 n2 o0 o1 o2 u0 u1 u2 HA
 have HB9 := hid (HB8.out.trans ((HV.out.2.2.2.2.trans (hB9.mono HV.out.2.2.2.2.size)).mono HB8.out.size))
 clear hB9
 go_upto_region 3 with fail
 have HX := hid (pre1 w9 [.bool s5, .slice p5 k5 c5, .slice q5 l5 d5, .bool sz5, .slice pz5 kz5 cz5, .slice qz5 lz5 dz5, .bool x5, .bool y5] 26 nd8)
 generalize w9.alloc (.cells #[.bool s5, .slice p5 k5 c5, .slice q5 l5 d5, .bool sz5, .slice pz5 kz5 cz5, .slice qz5 lz5 dz5, .bool x5, .bool y5] 26) = w10 at *
 have hP := GRep.parts _ _ _ _ _ _ _ _ _ _ _ _ _ _ _ _ (hG.out.below HX.out.2)
 rw [HD.out] at hP
 obtain ⟨hf1, hf2, hx5, hy5⟩ := hP
 have hx5' : x5 = false := hx5
 have hy5' : y5 = false := hy5
 subst hx5' hy5'
 clear hx5 hy5 hG
 obtain ⟨_, ha, _⟩ := hf1.parts
 obtain ⟨_, hb, hc⟩ := hf2.parts
 have ha' : Rep W32 w10 (.slice p5 k5 c5) 4 := ha
 have hb' : Rep W32 w10 (.slice pz5 kz5 cz5) 6 := hb
 have hc' : Rep W32 w10 (.slice qz5 lz5 dz5) 0 := hc
 clear ha hb hc
 obtain ⟨rfl, hk1, ba, oa, rfl, hca⟩ := rep_one ha' (by omega) (by decide)
 obtain ⟨rfl, hk2, bb, ob, rfl, hcb⟩ := rep_one hb' (by omega) (by decide)
 obtain rfl := rep_zero hc'
 clear ha' hb' hc' hf1 hf2
 obtain ⟨m0, m1, m2, m3, m4, m5, m6, m7, _⟩ := HX.out.1.cells8
 go_wp2_with fail
 go_ret
 exact ⟨rfl, HB9.out.trans (HX.out.2.mono HB9.out.size)⟩
end Go.Proofs.YtpdpabpdejmdbaaGreatDoor
