/- The road of an operation on two intervals that rounds: both, rounded. -/
import Derived.Test.YtgjjcmclikiojaaGreatDoorRoadB
namespace Go.Proofs.YtgjjcmclikiojaaGreatDoor
open Go.RowKit Dg

theorem both_ret {W : World} {B : Nat} {a0 a1 a2 a3 a4 a5 a6 a7 ev : Value} {tm : Array Value} {R : Ending → World → Prop} (h2 : tm[8]?.getD undef = .pointer (some ⟨B, 0, none⟩)) (h3 : tm[9]?.getD undef = ev) (hV : Box W B #[a0, a1, a2, a3, a4, a5, a6, a7]) (hR : R (.returned (.tuple #[.agg #[a0, a1, a2, a3, a4, a5, a6, a7], ev])) W) :
    bodyPost Tryz.prog Tryz.f86 R .ret { tmps := tm, defers := [] } W := by
  obtain ⟨g0, g1, g2, g3, g4, g5, g6, g7, _⟩ := hV.cells8
  exact bodyPost_ret (v := .tuple #[.agg #[a0, a1, a2, a3, a4, a5, a6, a7], ev]) (by simp [results, Tryz.results86, go_sem, h2, h3, g0, g1, g2, g3, g4, g5, g6, g7]) rfl hR
set_option maxHeartbeats 2000000 in
set_option maxRecDepth 100000 in
theorem both_ok (s1 : Bool) (p1 : Option Addr) (k1 c1 : Nat) (q1 : Option Addr) (l1 d1 : Nat) (sz1 : Bool) (pz1 : Option Addr) (kz1 cz1 : Nat) (qz1 : Option Addr) (lz1 dz1 : Nat) (x1 : Bool) (y1 : Bool) (s2 : Bool) (p2 : Option Addr) (k2 c2 : Nat) (q2 : Option Addr) (l2 d2 : Nat) (sz2 : Bool) (pz2 : Option Addr) (kz2 cz2 : Nat) (qz2 : Option Addr) (lz2 dz2 : Nat) (x2 : Bool) (y2 : Bool) (g : FuncId) (cap : Array Value) (a b a' b' : Bool × Nat × Nat) (r : (Int × Bool × Nat × Nat) × (Int × Bool × Nat × Nat) × Bool) (w : World)
    (ha : NRep w (.agg #[.bool s1, .slice p1 k1 c1, .slice q1 l1 d1]) a) (hb : NRep w (.agg #[.bool sz1, .slice pz1 kz1 cz1, .slice qz1 lz1 dz1]) b) (ha' : NRep w (.agg #[.bool s2, .slice p2 k2 c2, .slice q2 l2 d2]) a') (hb' : NRep w (.agg #[.bool sz2, .slice pz2 kz2 cz2, .slice qz2 lz2 dz2]) b')
    (h1 : large a.2.1 a.2.2 = false) (h2 : large b.2.1 b.2.2 = false) (h3 : large a'.2.1 a'.2.2 = false) (h4 : large b'.2.1 b'.2.2 = false) (ht : TabOk w)
    (hx : (srd (a, b, x1, y1)).2.2 = false) (hy : (srd (a', b', x2, y2)).2.2 = false)
    (hr : EOk 100000 r.1 ∧ EOk 100000 r.2.1) (hbg : ebig r.1 = false ∧ ebig r.2.1 = false) (he : r.2.2 = false)
    (hfn : ∀ args W, (callFunc g args).run Tryz.prog W = .ok (.enter g args) W)
    (hop : ∀ W (i3 : Int) (s3 : Bool) (p3 : Option Addr) (k3 c3 : Nat) (q3 : Option Addr) (l3 d3 : Nat) (j3 : Int) (sz3 : Bool) (pz3 : Option Addr) (kz3 cz3 : Nat) (qz3 : Option Addr) (lz3 dz3 : Nat) (e3 : Bool) (i4 : Int) (s4 : Bool) (p4 : Option Addr) (k4 c4 : Nat) (q4 : Option Addr) (l4 d4 : Nat) (j4 : Int) (sz4 : Bool) (pz4 : Option Addr) (kz4 cz4 : Nat) (qz4 : Option Addr) (lz4 dz4 : Nat) (e4 : Bool), Below w.heap.size w W → SRep W (.agg #[.int .i64 i3, .bool s3, .slice p3 k3 c3, .slice q3 l3 d3, .int .i64 j3, .bool sz3, .slice pz3 kz3 cz3, .slice qz3 lz3 dz3, .bool e3]) (srd (a, b, x1, y1)) → SRep W (.agg #[.int .i64 i4, .bool s4, .slice p4 k4 c4, .slice q4 l4 d4, .int .i64 j4, .bool sz4, .slice pz4 kz4 cz4, .slice qz4 lz4 dz4, .bool e4]) (srd (a', b', x2, y2)) → Calls Tryz.prog g (#[.agg #[.int .i64 i3, .bool s3, .slice p3 k3 c3, .slice q3 l3 d3, .int .i64 j3, .bool sz3, .slice pz3 kz3 cz3, .slice qz3 lz3 dz3, .bool e3], .agg #[.int .i64 i4, .bool s4, .slice p4 k4 c4, .slice q4 l4 d4, .int .i64 j4, .bool sz4, .slice pz4 kz4 cz4, .slice qz4 lz4 dz4, .bool e4]] ++ cap) W fun e w' => ∃ i5 s5 p5 k5 c5 q5 l5 d5 j5 sz5 pz5 kz5 cz5 qz5 lz5 dz5 e5, e = .returned (.agg #[.int .i64 i5, .bool s5, .slice p5 k5 c5, .slice q5 l5 d5, .int .i64 j5, .bool sz5, .slice pz5 kz5 cz5, .slice qz5 lz5 dz5, .bool e5]) ∧ Hid (SRep w' (.agg #[.int .i64 i5, .bool s5, .slice p5 k5 c5, .slice q5 l5 d5, .int .i64 j5, .bool sz5, .slice pz5 kz5 cz5, .slice qz5 lz5 dz5, .bool e5]) r) ∧ Below W.heap.size W w') :
    Calls Tryz.prog 86 #[.agg #[.bool s1, .slice p1 k1 c1, .slice q1 l1 d1, .bool sz1, .slice pz1 kz1 cz1, .slice qz1 lz1 dz1, .bool x1, .bool y1], .agg #[.bool s2, .slice p2 k2 c2, .slice q2 l2 d2, .bool sz2, .slice pz2 kz2 cz2, .slice qz2 lz2 dz2, .bool x2, .bool y2], .bool true, .func (.func g) #[] cap] w fun e w' => ∃ s5 p5 k5 c5 q5 l5 d5 sz5 pz5 kz5 cz5 qz5 lz5 dz5 x5 y5, e = .returned (.tuple #[.agg #[.bool s5, .slice p5 k5 c5, .slice q5 l5 d5, .bool sz5, .slice pz5 kz5 cz5, .slice qz5 lz5 dz5, .bool x5, .bool y5], .int .i64 0]) ∧ Hid (GRep w' (.agg #[.bool s5, .slice p5 k5 c5, .slice q5 l5 d5, .bool sz5, .slice pz5 kz5 cz5, .slice qz5 lz5 dz5, .bool x5, .bool y5]) (giv r)) ∧ Below w.heap.size w w' := by
  have hmf := makeFunc_run
  have HC := hid (fun (W : World) (hW : Below w.heap.size w W) (b3 : Box W (w.heap.size + 1 + 1) #[.bool true]) (b4 : Box W (w.heap.size + 1 + 1 + 1) #[.func (.func g) #[] cap]) =>
    askBothI_ok s1 p1 k1 c1 q1 l1 d1 sz1 pz1 kz1 cz1 qz1 lz1 dz1 x1 y1 s2 p2 k2 c2 q2 l2 d2 sz2 pz2 kz2 cz2 qz2 lz2 dz2 x2 y2 147 #[.pointer (some ⟨w.heap.size + 1 + 1, 0, none⟩), .pointer (some ⟨w.heap.size + 1 + 1 + 1, 0, none⟩)] a b a' b' (giv r) W
      (ha.below hW) (hb.below hW) (ha'.below hW) (hb'.below hW) h1 h2 h3 h4 (ht.below hW) enter_both1
      (fun W' i3 s3 p3 k3 c3 q3 l3 d3 j3 sz3 pz3 kz3 cz3 qz3 lz3 dz3 e3 i4 s4 p4 k4 c4 q4 l4 d4 j4 sz4 pz4 kz4 cz4 qz4 lz4 dz4 e4 hW' hS1 hS2 => both1_ok i3 s3 p3 k3 c3 q3 l3 d3 j3 sz3 pz3 kz3 cz3 qz3 lz3 dz3 e3 i4 s4 p4 k4 c4 q4 l4 d4 j4 sz4 pz4 kz4 cz4 qz4 lz4 dz4 e4 (w.heap.size + 1 + 1) (w.heap.size + 1 + 1 + 1) g cap (srd (a, b, x1, y1)) (srd (a', b', x2, y2)) r W' (b3.below hW') (b4.below hW') hS1 hS2 hx hy hr hbg he hfn
        (fun W2 h5 => hop W2 i3 s3 p3 k3 c3 q3 l3 d3 j3 sz3 pz3 kz3 cz3 qz3 lz3 dz3 e3 i4 s4 p4 k4 c4 q4 l4 d4 j4 sz4 pz4 kz4 cz4 qz4 lz4 dz4 e4 (hW.trans ((hW'.trans (h5.mono hW'.size)).mono hW.size)))))
  obtain ⟨D, hD⟩ : ∃ D, D = giv r := ⟨_, rfl⟩
  rw [← hD] at HC ⊢
  clear ha hb ha' hb' h1 h2 h3 h4 ht hx hy hr hbg he hop hfn hD
  go_enter Tryz.func86, Tryz.ntmps86
  go_wp2_with fail
  have HV := hid (pre5 w [.bool s1, .slice p1 k1 c1, .slice q1 l1 d1, .bool sz1, .slice pz1 kz1 cz1, .slice qz1 lz1 dz1, .bool x1, .bool y1] [.bool s2, .slice p2 k2 c2, .slice q2 l2 d2, .bool sz2, .slice pz2 kz2 cz2, .slice qz2 lz2 dz2, .bool x2, .bool y2] [.bool true] [.func (.func g) #[] cap] [.bool false, .slice none 0 0, .slice none 0 0, .bool false, .slice none 0 0, .slice none 0 0, .bool false, .bool false] 26 26 4 97 26 ⟨trivial, trivial, trivial, trivial, trivial, trivial, trivial, trivial, trivial⟩ ⟨trivial, trivial, trivial, trivial, trivial, trivial, trivial, trivial, trivial⟩ ⟨trivial, trivial⟩ ⟨trivial, trivial⟩ ⟨trivial, trivial, trivial, trivial, trivial, trivial, trivial, trivial, trivial⟩)
  generalize ((((w.alloc (.cells #[.bool s1, .slice p1 k1 c1, .slice q1 l1 d1, .bool sz1, .slice pz1 kz1 cz1, .slice qz1 lz1 dz1, .bool x1, .bool y1] 26)).alloc (.cells #[.bool s2, .slice p2 k2 c2, .slice q2 l2 d2, .bool sz2, .slice pz2 kz2 cz2, .slice qz2 lz2 dz2, .bool x2, .bool y2] 26)).alloc (.cells #[.bool true] 4)).alloc (.cells #[.func (.func g) #[] cap] 97)).alloc (.cells #[.bool false, .slice none 0 0, .slice none 0 0, .bool false, .slice none 0 0, .slice none 0 0, .bool false, .bool false] 26) = W0 at *
  refine (HC.out _ HV.out.2.2.2.2.2 HV.out.2.2.1 HV.out.2.2.2.1).mono ?_
  rintro e w1 ⟨s5, p5, k5, c5, q5, l5, d5, sz5, pz5, kz5, cz5, qz5, lz5, dz5, x5, y5, rfl, hG, hB1⟩
  have HE := hid (And.intro (HV.out.2.2.2.2.1.below hB1) (HV.out.2.2.2.2.2.trans (hB1.mono HV.out.2.2.2.2.2.size)))
  clear hB1
  obtain ⟨g0, g1, g2, g3, g4, g5, g6, g7, f0, f1, f2, f3, f4, f5, f6, f7⟩ := HE.out.1.cells8
  go_wp2_with fail
  exact both_ret rfl rfl (HE.out.1.stores [.bool s5, .slice p5 k5 c5, .slice q5 l5 d5, .bool sz5, .slice pz5 kz5 cz5, .slice qz5 lz5 dz5, .bool x5, .bool y5] rfl ⟨trivial, trivial, trivial, trivial, trivial, trivial, trivial, trivial, trivial⟩) ⟨s5, p5, k5, c5, q5, l5, d5, sz5, pz5, kz5, cz5, qz5, lz5, dz5, x5, y5, rfl, hid (GRep.stores (k := 0) (l := [.bool s5, .slice p5 k5 c5, .slice q5 l5 d5, .bool sz5, .slice pz5 kz5 cz5, .slice qz5 lz5 dz5, .bool x5, .bool y5]) hG.out HE.out.1 ⟨trivial, trivial, trivial, trivial, trivial, trivial, trivial, trivial, trivial⟩), Below.stores (k := 0) (l := [.bool s5, .slice p5 k5 c5, .slice q5 l5 d5, .bool sz5, .slice pz5 kz5 cz5, .slice qz5 lz5 dz5, .bool x5, .bool y5]) HE.out.2 (by omega)⟩

theorem QQ.i3 {w w1 : World} {B B' B2 : Nat} {cs cs' c2 : List Value} (h : Box w1 B cs.toArray) (h' : Box w1 B' cs'.toArray) (h2 : Box w1 B2 c2.toArray) (hb : Below w.heap.size w w1) : QQ w [(B, cs), (B', cs'), (B2, c2)] w1 := by
  refine ⟨fun p hp => ?_, hb⟩
  rcases List.mem_cons.1 hp with rfl | hp
  · exact h
  · rcases List.mem_cons.1 hp with rfl | hp
    · exact h'
    · obtain rfl := List.mem_singleton.1 hp
      exact h2
theorem ne3 {B B' B2 C : Nat} {cs cs' c2 : List Value} (h : B ≠ C) (h' : B' ≠ C) (h2 : B2 ≠ C) : Apart [(B, cs), (B', cs'), (B2, c2)] C := by
  intro p hp
  rcases List.mem_cons.1 hp with rfl | hp
  · exact h
  · rcases List.mem_cons.1 hp with rfl | hp
    · exact h'
    · obtain rfl := List.mem_singleton.1 hp
      exact h2
theorem lt_32k {x A : Nat} (h : x < W32 ^ (A + 31251 + 1)) (hA : A ≤ 1000) : x < W32 ^ 100000 := by
  generalize hB : 100000 = B at *
  exact lt_pow h (by omega)
theorem pow2_W100k {p : Nat} (hp : p ≤ 128) : 2 ^ p < W32 ^ 100000 := by
  have h1 : 2 ^ p < W32 ^ 5 := Nat.lt_of_le_of_lt (Nat.pow_le_pow_right (by decide) hp) (by decide)
  generalize hB : 100000 = B
  exact lt_pow h1 (by omega)
theorem gdn_100a {t : Bool × Nat × Nat} {p A : Nat} (hn : t.2.1 < W32 ^ A) (hA : A ≤ 1000) (hp : p ≤ 128) : (gdn t p).2.1 < W32 ^ 100000 ∧ (gdn t p).2.2 < W32 ^ 100000 := by
  have h1 : t.2.1 * 2 ^ p < W32 ^ (A + 31251) := shg_W hn (by omega)
  have h2 : botn (t.1, t.2.1 * 2 ^ p, t.2.2) < W32 ^ (A + 31251 + 1) := Nat.lt_of_le_of_lt (botn_le _) (succ_W h1)
  exact ⟨Nat.lt_of_le_of_lt (Nat.div_le_self _ _) (lt_32k h2 hA), Nat.lt_of_le_of_lt (Nat.div_le_self _ _) (pow2_W100k hp)⟩
theorem gdn_100k {t : Bool × Nat × Nat} {p : Nat} (hn : t.2.1 < W32 ^ 1000) (hp : p ≤ 128) : (gdn t p).2.1 < W32 ^ 100000 ∧ (gdn t p).2.2 < W32 ^ 100000 := gdn_100a hn (Nat.le_refl _) hp
theorem EOk.dn {x : Int × Bool × Nat × Nat} {p : Nat} (h : EOk 1000 x) (hp : p ≤ 128) : EOk 100000 (edn x p) := by
  unfold edn
  by_cases h0 : x.1 = 0
  · rw [if_pos h0]
    exact ⟨fun _ => gdn_fr p, fun h => absurd rfl h, (gdn_100k h.bn hp).1, (gdn_100k h.bn hp).2⟩
  · rw [if_neg h0]
    exact ⟨h.fin, h.inf, lt_100k1 h.bn, lt_100k1 h.bd⟩
theorem EOk.up {x : Int × Bool × Nat × Nat} {p : Nat} (h : EOk 1000 x) (hp : p ≤ 128) : EOk 100000 (eup x p) := by
  unfold eup
  by_cases h0 : x.1 = 0
  · rw [if_pos h0]
    exact ⟨fun _ => gup_fr p, fun h => absurd rfl h, (gdn_100k (t := fneg x.2) h.bn hp).1, (gdn_100k (t := fneg x.2) h.bn hp).2⟩
  · rw [if_neg h0]
    exact ⟨h.fin, h.inf, lt_100k1 h.bn, lt_100k1 h.bd⟩

theorem rounded_ret {W : World} {B : Nat} {a0 a1 a2 a3 a4 a5 a6 a7 ev : Value} {tm : Array Value} {R : Ending → World → Prop} (h2 : tm[8]?.getD undef = .pointer (some ⟨B, 0, none⟩)) (h3 : tm[9]?.getD undef = ev) (hV : Box W B #[a0, a1, a2, a3, a4, a5, a6, a7]) (hR : R (.returned (.tuple #[.agg #[a0, a1, a2, a3, a4, a5, a6, a7], ev])) W) :
    bodyPost Tryz.prog Tryz.f109 R .ret { tmps := tm, defers := [] } W := by
  obtain ⟨g0, g1, g2, g3, g4, g5, g6, g7, _⟩ := hV.cells8
  exact bodyPost_ret (v := .tuple #[.agg #[a0, a1, a2, a3, a4, a5, a6, a7], ev]) (by simp [results, Tryz.results109, go_sem, h2, h3, g0, g1, g2, g3, g4, g5, g6, g7]) rfl hR
set_option maxHeartbeats 4000000 in
set_option maxRecDepth 100000 in
theorem rounded_ok (s1 : Bool) (p1 : Option Addr) (k1 c1 : Nat) (q1 : Option Addr) (l1 d1 : Nat) (sz1 : Bool) (pz1 : Option Addr) (kz1 cz1 : Nat) (qz1 : Option Addr) (lz1 dz1 : Nat) (x1 : Bool) (y1 : Bool) (s2 : Bool) (p2 : Option Addr) (k2 c2 : Nat) (q2 : Option Addr) (l2 d2 : Nat) (sz2 : Bool) (pz2 : Option Addr) (kz2 cz2 : Nat) (qz2 : Option Addr) (lz2 dz2 : Nat) (x2 : Bool) (y2 : Bool) (pr : Nat) (g : FuncId) (cap : Array Value) (a b a' b' : Bool × Nat × Nat) (r : (Int × Bool × Nat × Nat) × (Int × Bool × Nat × Nat) × Bool) (w : World)
    (ha : NRep w (.agg #[.bool s1, .slice p1 k1 c1, .slice q1 l1 d1]) a) (hb : NRep w (.agg #[.bool sz1, .slice pz1 kz1 cz1, .slice qz1 lz1 dz1]) b) (ha' : NRep w (.agg #[.bool s2, .slice p2 k2 c2, .slice q2 l2 d2]) a') (hb' : NRep w (.agg #[.bool sz2, .slice pz2 kz2 cz2, .slice qz2 lz2 dz2]) b')
    (h1 : large a.2.1 a.2.2 = false) (h2 : large b.2.1 b.2.2 = false) (h3 : large a'.2.1 a'.2.2 = false) (h4 : large b'.2.1 b'.2.2 = false) (ht : TabOk w)
    (hx : (srd (a, b, x1, y1)).2.2 = false) (hy : (srd (a', b', x2, y2)).2.2 = false) (hp : pr ≤ 128)
    (hr : EOk 1000 r.1 ∧ EOk 1000 r.2.1) (hbg : ebig (sround r pr).1 = false ∧ ebig (sround r pr).2.1 = false)
    (hfn : ∀ args W, (callFunc g args).run Tryz.prog W = .ok (.enter g args) W)
    (hop : ∀ W (i3 : Int) (s3 : Bool) (p3 : Option Addr) (k3 c3 : Nat) (q3 : Option Addr) (l3 d3 : Nat) (j3 : Int) (sz3 : Bool) (pz3 : Option Addr) (kz3 cz3 : Nat) (qz3 : Option Addr) (lz3 dz3 : Nat) (e3 : Bool) (i4 : Int) (s4 : Bool) (p4 : Option Addr) (k4 c4 : Nat) (q4 : Option Addr) (l4 d4 : Nat) (j4 : Int) (sz4 : Bool) (pz4 : Option Addr) (kz4 cz4 : Nat) (qz4 : Option Addr) (lz4 dz4 : Nat) (e4 : Bool), Below w.heap.size w W → SRep W (.agg #[.int .i64 i3, .bool s3, .slice p3 k3 c3, .slice q3 l3 d3, .int .i64 j3, .bool sz3, .slice pz3 kz3 cz3, .slice qz3 lz3 dz3, .bool e3]) (srd (a, b, x1, y1)) → SRep W (.agg #[.int .i64 i4, .bool s4, .slice p4 k4 c4, .slice q4 l4 d4, .int .i64 j4, .bool sz4, .slice pz4 kz4 cz4, .slice qz4 lz4 dz4, .bool e4]) (srd (a', b', x2, y2)) → Calls Tryz.prog g (#[.agg #[.int .i64 i3, .bool s3, .slice p3 k3 c3, .slice q3 l3 d3, .int .i64 j3, .bool sz3, .slice pz3 kz3 cz3, .slice qz3 lz3 dz3, .bool e3], .agg #[.int .i64 i4, .bool s4, .slice p4 k4 c4, .slice q4 l4 d4, .int .i64 j4, .bool sz4, .slice pz4 kz4 cz4, .slice qz4 lz4 dz4, .bool e4]] ++ cap) W fun e w' => ∃ i5 s5 p5 k5 c5 q5 l5 d5 j5 sz5 pz5 kz5 cz5 qz5 lz5 dz5 e5, e = .returned (.agg #[.int .i64 i5, .bool s5, .slice p5 k5 c5, .slice q5 l5 d5, .int .i64 j5, .bool sz5, .slice pz5 kz5 cz5, .slice qz5 lz5 dz5, .bool e5]) ∧ Hid (SRep w' (.agg #[.int .i64 i5, .bool s5, .slice p5 k5 c5, .slice q5 l5 d5, .int .i64 j5, .bool sz5, .slice pz5 kz5 cz5, .slice qz5 lz5 dz5, .bool e5]) r) ∧ Below W.heap.size W w') :
    Calls Tryz.prog 109 #[.agg #[.bool s1, .slice p1 k1 c1, .slice q1 l1 d1, .bool sz1, .slice pz1 kz1 cz1, .slice qz1 lz1 dz1, .bool x1, .bool y1], .agg #[.bool s2, .slice p2 k2 c2, .slice q2 l2 d2, .bool sz2, .slice pz2 kz2 cz2, .slice qz2 lz2 dz2, .bool x2, .bool y2], .int .i64 (pr : Int), .func (.func g) #[] cap] w fun e w' => ∃ s5 p5 k5 c5 q5 l5 d5 sz5 pz5 kz5 cz5 qz5 lz5 dz5 x5 y5, e = .returned (.tuple #[.agg #[.bool s5, .slice p5 k5 c5, .slice q5 l5 d5, .bool sz5, .slice pz5 kz5 cz5, .slice qz5 lz5 dz5, .bool x5, .bool y5], .int .i64 0]) ∧ Hid (GRep w' (.agg #[.bool s5, .slice p5 k5 c5, .slice q5 l5 d5, .bool sz5, .slice pz5 kz5 cz5, .slice qz5 lz5 dz5, .bool x5, .bool y5]) (giv (sround r pr))) ∧ Below w.heap.size w w' := by
  have hmf := makeFunc_run
  have HC := hid (fun (W : World) (hW : Below w.heap.size w W) (b3 : Box W (w.heap.size + 1 + 1) #[.int .i64 (pr : Int)]) (b4 : Box W (w.heap.size + 1 + 1 + 1) #[.func (.func g) #[] cap]) =>
    both_ok s1 p1 k1 c1 q1 l1 d1 sz1 pz1 kz1 cz1 qz1 lz1 dz1 x1 y1 s2 p2 k2 c2 q2 l2 d2 sz2 pz2 kz2 cz2 qz2 lz2 dz2 x2 y2 169 #[.pointer (some ⟨w.heap.size + 1 + 1 + 1, 0, none⟩), .pointer (some ⟨w.heap.size + 1 + 1, 0, none⟩)] a b a' b' (sround r pr) W
      (ha.below hW) (hb.below hW) (ha'.below hW) (hb'.below hW) h1 h2 h3 h4 (ht.below hW) hx hy ⟨hr.1.dn hp, hr.2.up hp⟩ hbg rfl enter_rounded1
      (fun W' i3 s3 p3 k3 c3 q3 l3 d3 j3 sz3 pz3 kz3 cz3 qz3 lz3 dz3 e3 i4 s4 p4 k4 c4 q4 l4 d4 j4 sz4 pz4 kz4 cz4 qz4 lz4 dz4 e4 hW' hS1 hS2 => rounded1_ok i3 s3 p3 k3 c3 q3 l3 d3 j3 sz3 pz3 kz3 cz3 qz3 lz3 dz3 e3 i4 s4 p4 k4 c4 q4 l4 d4 j4 sz4 pz4 kz4 cz4 qz4 lz4 dz4 e4 (w.heap.size + 1 + 1 + 1) (w.heap.size + 1 + 1) g cap pr (srd (a, b, x1, y1)) (srd (a', b', x2, y2)) r W' (b4.below hW') (b3.below hW') hS1 hS2 hr (by omega) ((ht.below hW).below hW') hfn
        (fun W2 h5 => hop W2 i3 s3 p3 k3 c3 q3 l3 d3 j3 sz3 pz3 kz3 cz3 qz3 lz3 dz3 e3 i4 s4 p4 k4 c4 q4 l4 d4 j4 sz4 pz4 kz4 cz4 qz4 lz4 dz4 e4 (hW.trans ((hW'.trans (h5.mono hW'.size)).mono hW.size)))))
  have HPr := hid (fun (W : World) => isPrecision_ok (pr : Int) (by omega) (by omega) W)
  obtain ⟨D, hD⟩ : ∃ D, D = giv (sround r pr) := ⟨_, rfl⟩
  rw [← hD] at HC ⊢
  clear ha hb ha' hb' h1 h2 h3 h4 ht hx hy hr hbg hop hfn hD hp
  obtain ⟨pi, hpi⟩ : ∃ pi : Int, pi = (pr : Int) := ⟨_, rfl⟩
  rw [← hpi] at HC HPr ⊢
  clear hpi
  go_enter Tryz.func109, Tryz.ntmps109
  go_wp2_with fail
  have HV := hid (pre5 w [.bool s1, .slice p1 k1 c1, .slice q1 l1 d1, .bool sz1, .slice pz1 kz1 cz1, .slice qz1 lz1 dz1, .bool x1, .bool y1] [.bool s2, .slice p2 k2 c2, .slice q2 l2 d2, .bool sz2, .slice pz2 kz2 cz2, .slice qz2 lz2 dz2, .bool x2, .bool y2] [.int .i64 pi] [.func (.func g) #[] cap] [.bool false, .slice none 0 0, .slice none 0 0, .bool false, .slice none 0 0, .slice none 0 0, .bool false, .bool false] 26 26 3 97 26 ⟨trivial, trivial, trivial, trivial, trivial, trivial, trivial, trivial, trivial⟩ ⟨trivial, trivial, trivial, trivial, trivial, trivial, trivial, trivial, trivial⟩ ⟨trivial, trivial⟩ ⟨trivial, trivial⟩ ⟨trivial, trivial, trivial, trivial, trivial, trivial, trivial, trivial, trivial⟩)
  generalize ((((w.alloc (.cells #[.bool s1, .slice p1 k1 c1, .slice q1 l1 d1, .bool sz1, .slice pz1 kz1 cz1, .slice qz1 lz1 dz1, .bool x1, .bool y1] 26)).alloc (.cells #[.bool s2, .slice p2 k2 c2, .slice q2 l2 d2, .bool sz2, .slice pz2 kz2 cz2, .slice qz2 lz2 dz2, .bool x2, .bool y2] 26)).alloc (.cells #[.int .i64 pi] 3)).alloc (.cells #[.func (.func g) #[] cap] 97)).alloc (.cells #[.bool false, .slice none 0 0, .slice none 0 0, .bool false, .slice none 0 0, .slice none 0 0, .bool false, .bool false] 26) = W0 at *
  have HQ := hid (QQ.i3 (cs := [.bool s1, .slice p1 k1 c1, .slice q1 l1 d1, .bool sz1, .slice pz1 kz1 cz1, .slice qz1 lz1 dz1, .bool x1, .bool y1]) (cs' := [.bool s2, .slice p2 k2 c2, .slice q2 l2 d2, .bool sz2, .slice pz2 kz2 cz2, .slice qz2 lz2 dz2, .bool x2, .bool y2]) (c2 := [.int .i64 pi]) HV.out.1 HV.out.2.1 HV.out.2.2.1 HV.out.2.2.2.2.2)
  have HS : Hid (∀ w', QQ w [(w.heap.size, [.bool s1, .slice p1 k1 c1, .slice q1 l1 d1, .bool sz1, .slice pz1 kz1 cz1, .slice qz1 lz1 dz1, .bool x1, .bool y1]), (w.heap.size + 1, [.bool s2, .slice p2 k2 c2, .slice q2 l2 d2, .bool sz2, .slice pz2 kz2 cz2, .slice qz2 lz2 dz2, .bool x2, .bool y2]), (w.heap.size + 1 + 1, [.int .i64 pi])] w' → (w'.cell? ⟨w.heap.size, 0, none⟩ = some (.bool s1) ∧ w'.cell? ⟨w.heap.size, 1, none⟩ = some (.slice p1 k1 c1) ∧ w'.cell? ⟨w.heap.size, 2, none⟩ = some (.slice q1 l1 d1) ∧ w'.cell? ⟨w.heap.size, 3, none⟩ = some (.bool sz1) ∧ w'.cell? ⟨w.heap.size, 4, none⟩ = some (.slice pz1 kz1 cz1) ∧ w'.cell? ⟨w.heap.size, 5, none⟩ = some (.slice qz1 lz1 dz1) ∧ w'.cell? ⟨w.heap.size, 6, none⟩ = some (.bool x1) ∧ w'.cell? ⟨w.heap.size, 7, none⟩ = some (.bool y1) ∧ w'.cell? ⟨w.heap.size + 1, 0, none⟩ = some (.bool s2) ∧ w'.cell? ⟨w.heap.size + 1, 1, none⟩ = some (.slice p2 k2 c2) ∧ w'.cell? ⟨w.heap.size + 1, 2, none⟩ = some (.slice q2 l2 d2) ∧ w'.cell? ⟨w.heap.size + 1, 3, none⟩ = some (.bool sz2) ∧ w'.cell? ⟨w.heap.size + 1, 4, none⟩ = some (.slice pz2 kz2 cz2) ∧ w'.cell? ⟨w.heap.size + 1, 5, none⟩ = some (.slice qz2 lz2 dz2) ∧ w'.cell? ⟨w.heap.size + 1, 6, none⟩ = some (.bool x2) ∧ w'.cell? ⟨w.heap.size + 1, 7, none⟩ = some (.bool y2) ∧ w'.cell? ⟨w.heap.size + 1 + 1, 0, none⟩ = some (.int .i64 pi) ∧ Hid (QQ w [(w.heap.size, [.bool s1, .slice p1 k1 c1, .slice q1 l1 d1, .bool sz1, .slice pz1 kz1 cz1, .slice qz1 lz1 dz1, .bool x1, .bool y1]), (w.heap.size + 1, [.bool s2, .slice p2 k2 c2, .slice q2 l2 d2, .bool sz2, .slice pz2 kz2 cz2, .slice qz2 lz2 dz2, .bool x2, .bool y2]), (w.heap.size + 1 + 1, [.int .i64 pi])] w'))) :=
    hid fun w' hb => ⟨(hb.b1.cells8).1, (hb.b1.cells8).2.1, (hb.b1.cells8).2.2.1, (hb.b1.cells8).2.2.2.1, (hb.b1.cells8).2.2.2.2.1, (hb.b1.cells8).2.2.2.2.2.1, (hb.b1.cells8).2.2.2.2.2.2.1, (hb.b1.cells8).2.2.2.2.2.2.2.1, (hb.b2.cells8).1, (hb.b2.cells8).2.1, (hb.b2.cells8).2.2.1, (hb.b2.cells8).2.2.2.1, (hb.b2.cells8).2.2.2.2.1, (hb.b2.cells8).2.2.2.2.2.1, (hb.b2.cells8).2.2.2.2.2.2.1, (hb.b2.cells8).2.2.2.2.2.2.2.1, hb.b3.cells1.1, hid hb⟩
  have HN : Hid (Apart [(w.heap.size, [.bool s1, .slice p1 k1 c1, .slice q1 l1 d1, .bool sz1, .slice pz1 kz1 cz1, .slice qz1 lz1 dz1, .bool x1, .bool y1]), (w.heap.size + 1, [.bool s2, .slice p2 k2 c2, .slice q2 l2 d2, .bool sz2, .slice pz2 kz2 cz2, .slice qz2 lz2 dz2, .bool x2, .bool y2]), (w.heap.size + 1 + 1, [.int .i64 pi])] (w.heap.size + 1 + 1 + 1 + 1)) := hid (ne3 (by omega) (by omega) (by omega))
  have HI : Hid (w.heap.size ≤ w.heap.size + 1 + 1 + 1 + 1) := hid (by omega)
  go_region_held3 (fun w' => w'.cell? ⟨w.heap.size, 0, none⟩ = some (.bool s1) ∧ w'.cell? ⟨w.heap.size, 1, none⟩ = some (.slice p1 k1 c1) ∧ w'.cell? ⟨w.heap.size, 2, none⟩ = some (.slice q1 l1 d1) ∧ w'.cell? ⟨w.heap.size, 3, none⟩ = some (.bool sz1) ∧ w'.cell? ⟨w.heap.size, 4, none⟩ = some (.slice pz1 kz1 cz1) ∧ w'.cell? ⟨w.heap.size, 5, none⟩ = some (.slice qz1 lz1 dz1) ∧ w'.cell? ⟨w.heap.size, 6, none⟩ = some (.bool x1) ∧ w'.cell? ⟨w.heap.size, 7, none⟩ = some (.bool y1) ∧ w'.cell? ⟨w.heap.size + 1, 0, none⟩ = some (.bool s2) ∧ w'.cell? ⟨w.heap.size + 1, 1, none⟩ = some (.slice p2 k2 c2) ∧ w'.cell? ⟨w.heap.size + 1, 2, none⟩ = some (.slice q2 l2 d2) ∧ w'.cell? ⟨w.heap.size + 1, 3, none⟩ = some (.bool sz2) ∧ w'.cell? ⟨w.heap.size + 1, 4, none⟩ = some (.slice pz2 kz2 cz2) ∧ w'.cell? ⟨w.heap.size + 1, 5, none⟩ = some (.slice qz2 lz2 dz2) ∧ w'.cell? ⟨w.heap.size + 1, 6, none⟩ = some (.bool x2) ∧ w'.cell? ⟨w.heap.size + 1, 7, none⟩ = some (.bool y2) ∧ w'.cell? ⟨w.heap.size + 1 + 1, 0, none⟩ = some (.int .i64 pi) ∧ Hid (QQ w [(w.heap.size, [.bool s1, .slice p1 k1 c1, .slice q1 l1 d1, .bool sz1, .slice pz1 kz1 cz1, .slice qz1 lz1 dz1, .bool x1, .bool y1]), (w.heap.size + 1, [.bool s2, .slice p2 k2 c2, .slice q2 l2 d2, .bool sz2, .slice pz2 kz2 cz2, .slice qz2 lz2 dz2, .bool x2, .bool y2]), (w.heap.size + 1 + 1, [.int .i64 pi])] w'))
    (first | (refine HS.out _ ?_; first | (with_reducible exact HQ.out.drew) | (with_reducible assumption) | (with_reducible refine QQ.st8 ?_ HN.out HI.out; assumption)))
    (first
      | (go_at_call 104; refine (HPr.out _).mono ?_; rintro e wa ⟨rfl, rfl⟩)
      | (go_at_call 86; refine (HC.out _ HQ.out.drew.bel (HV.out.2.2.1.drew) (HV.out.2.2.2.1.drew)).mono ?_; rintro e wb ⟨s5, p5, k5, c5, q5, l5, d5, sz5, pz5, kz5, cz5, qz5, lz5, dz5, x5, y5, rfl, hG, hB2⟩; have hQ2 := HQ.out.drew.call hB2; have hV2 := (HV.out.2.2.2.2.1.drew).below hB2; obtain ⟨g0, g1, g2, g3, g4, g5, g6, g7, f0, f1, f2, f3, f4, f5, f6, f7⟩ := hV2.cells8))
  all_goals
    have HE := hid (And.intro hV2 (And.intro hG.out hQ2.bel))
    clear hQ2 hV2 hB2 hG
    go_wp2_with fail
    exact rounded_ret rfl rfl (HE.out.1.stores [.bool s5, .slice p5 k5 c5, .slice q5 l5 d5, .bool sz5, .slice pz5 kz5 cz5, .slice qz5 lz5 dz5, .bool x5, .bool y5] rfl ⟨trivial, trivial, trivial, trivial, trivial, trivial, trivial, trivial, trivial⟩) ⟨s5, p5, k5, c5, q5, l5, d5, sz5, pz5, kz5, cz5, qz5, lz5, dz5, x5, y5, rfl, hid (GRep.stores (k := 0) (l := [.bool s5, .slice p5 k5 c5, .slice q5 l5 d5, .bool sz5, .slice pz5 kz5 cz5, .slice qz5 lz5 dz5, .bool x5, .bool y5]) HE.out.2.1 HE.out.1 ⟨trivial, trivial, trivial, trivial, trivial, trivial, trivial, trivial, trivial⟩), Below.stores (k := 0) (l := [.bool s5, .slice p5 k5 c5, .slice q5 l5 d5, .bool sz5, .slice pz5 kz5 cz5, .slice qz5 lz5 dz5, .bool x5, .bool y5]) HE.out.2.2 HI.out⟩
end Go.Proofs.YtgjjcmclikiojaaGreatDoor
