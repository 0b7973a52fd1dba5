/- Whether a number is in an interval: the program. -/
import Derived.Test.YtheojajaefjecaaGreatDoorSets
import Derived.Test.YtheojajaefjecaaGreatDoorIvC
set_option maxHeartbeats 2000000
set_option maxRecDepth 100000
namespace Go.Proofs.YtheojajaefjecaaGreatDoor
open Go.RowKit Dg
def shas (S : (Int × Bool × Nat × Nat) × (Int × Bool × Nat × Nat) × Bool) (x : Int × Bool × Nat × Nat) : Bool := decide (ecmp S.1 x ≤ 0) && decide (ecmp x S.2.1 ≤ 0)
theorem has_any (i1 : Int) (s1 : Bool) (p1 : Option Addr) (k1 c1 : Nat) (q1 : Option Addr) (l1 d1 : Nat) (j1 : Int) (sz1 : Bool) (pz1 : Option Addr) (kz1 cz1 : Nat) (qz1 : Option Addr) (lz1 dz1 : Nat) (e1 : Bool) (i2 : Int) (s2 : Bool) (p2 : Option Addr) (k2 c2 : Nat) (q2 : Option Addr) (l2 d2 : Nat) (S : (Int × Bool × Nat × Nat) × (Int × Bool × Nat × Nat) × Bool) (x : Int × Bool × Nat × Nat) (w : World) (h : SRep w (.agg #[.int .i64 i1, .bool s1, .slice p1 k1 c1, .slice q1 l1 d1, .int .i64 j1, .bool sz1, .slice pz1 kz1 cz1, .slice qz1 lz1 dz1, .bool e1]) S) (h' : ERep w (.agg #[.int .i64 i2, .bool s2, .slice p2 k2 c2, .slice q2 l2 d2]) x) (hS : EOk 1000 S.1 ∧ EOk 1000 S.2.1) (hx : EOk 1000 x) :
  Calls Tryz.prog 41 #[.agg #[.int .i64 i1, .bool s1, .slice p1 k1 c1, .slice q1 l1 d1, .int .i64 j1, .bool sz1, .slice pz1 kz1 cz1, .slice qz1 lz1 dz1, .bool e1], .agg #[.int .i64 i2, .bool s2, .slice p2 k2 c2, .slice q2 l2 d2]] w fun e w' => e = .returned (.bool (shas S x)) ∧ Below w.heap.size w w' := by
 have h1 := h.ends
 have HL := hid (fun (W : World) (hW : Below w.heap.size w W) => ecompare_any i1 s1 p1 k1 c1 q1 l1 d1 i2 s2 p2 k2 c2 q2 l2 d2 S.1 x 1000 W (h1.1.below hW) (h'.below hW) hS.1 hx (by omega))
 have HH := hid (fun (W : World) (hW : Below w.heap.size w W) => ecompare_any i2 s2 p2 k2 c2 q2 l2 d2 j1 sz1 pz1 kz1 cz1 qz1 lz1 dz1 x S.2.1 1000 W (h'.below hW) (h1.2.1.below hW) hx hS.2 (by omega))
 clear h h' hS hx h1
 unfold shas
 obtain ⟨rl, hrl⟩ : ∃ r, r = ecmp S.1 x := ⟨_, rfl⟩
 obtain ⟨rh, hrh⟩ : ∃ r, r = ecmp x S.2.1 := ⟨_, rfl⟩
 rw [← hrl] at HL ⊢
 rw [← hrh] at HH ⊢
 clear hrl hrh
 by_cases hl : rl ≤ 0
 ·rw [decide_eq_true hl, Bool.true_and]
  go_enter Tryz.func41, Tryz.ntmps41
  go_wp2_with fail
  have HV := hid (pre2 w [.int .i64 i1, .bool s1, .slice p1 k1 c1, .slice q1 l1 d1, .int .i64 j1, .bool sz1, .slice pz1 kz1 cz1, .slice qz1 lz1 dz1, .bool e1] [.int .i64 i2, .bool s2, .slice p2 k2 c2, .slice q2 l2 d2] 59 57 nd9 nd4)
  generalize (w.alloc (.cells #[.int .i64 i1, .bool s1, .slice p1 k1 c1, .slice q1 l1 d1, .int .i64 j1, .bool sz1, .slice pz1 kz1 cz1, .slice qz1 lz1 dz1, .bool e1] 59)).alloc (.cells #[.int .i64 i2, .bool s2, .slice p2 k2 c2, .slice q2 l2 d2] 57) = W0 at *
  refine (HL.out _ HV.out.2.2).mono ?_
  rintro e w1 ⟨rfl, hB1⟩
  have HE := hid (HV.out.2.2.trans (hB1.mono HV.out.2.2.size))
  obtain ⟨m0, m1, m2, m3, m4, m5, m6, m7, m8, _⟩ := (HV.out.1.below hB1).cells9
  obtain ⟨n0, n1, n2, n3, _⟩ := (HV.out.2.1.below hB1).cells4
  clear hB1
  go_wp2_with fail
  refine (HH.out _ HE.out).mono ?_
  rintro e w2 ⟨rfl, hB2⟩
  have HE2 := hid (HE.out.trans (hB2.mono HE.out.size))
  clear hB2
  go_wp2_with fail
  go_ret
  exact ⟨rfl, HE2.out⟩
 ·rw [decide_eq_false hl, Bool.false_and]
  have hl' : decide (rl ≤ 0) = false := decide_eq_false hl
  go_enter Tryz.func41, Tryz.ntmps41
  go_wp2_with fail
  have HV := hid (pre2 w [.int .i64 i1, .bool s1, .slice p1 k1 c1, .slice q1 l1 d1, .int .i64 j1, .bool sz1, .slice pz1 kz1 cz1, .slice qz1 lz1 dz1, .bool e1] [.int .i64 i2, .bool s2, .slice p2 k2 c2, .slice q2 l2 d2] 59 57 nd9 nd4)
  generalize (w.alloc (.cells #[.int .i64 i1, .bool s1, .slice p1 k1 c1, .slice q1 l1 d1, .int .i64 j1, .bool sz1, .slice pz1 kz1 cz1, .slice qz1 lz1 dz1, .bool e1] 59)).alloc (.cells #[.int .i64 i2, .bool s2, .slice p2 k2 c2, .slice q2 l2 d2] 57) = W0 at *
  refine (HL.out _ HV.out.2.2).mono ?_
  rintro e w1 ⟨rfl, hB1⟩
  have HE := hid (HV.out.2.2.trans (hB1.mono HV.out.2.2.size))
  clear hB1
  go_wp2_with fail
  go_ret
  exact ⟨rfl, HE.out⟩
theorem Has1_ok (i1 : Int) (s1 : Bool) (p1 : Option Addr) (k1 c1 : Nat) (q1 : Option Addr) (l1 d1 : Nat) (j1 : Int) (sz1 : Bool) (pz1 : Option Addr) (kz1 cz1 : Nat) (qz1 : Option Addr) (lz1 dz1 : Nat) (e1 : Bool) (s2 : Bool) (p2 : Option Addr) (k2 c2 : Nat) (q2 : Option Addr) (l2 d2 : Nat) (Bx : Nat) (S : (Int × Bool × Nat × Nat) × (Int × Bool × Nat × Nat) × Bool) (t : Bool × Nat × Nat) (w : World) (h : SRep w (.agg #[.int .i64 i1, .bool s1, .slice p1 k1 c1, .slice q1 l1 d1, .int .i64 j1, .bool sz1, .slice pz1 kz1 cz1, .slice qz1 lz1 dz1, .bool e1]) S) (h' : NRep w (.agg #[.bool s2, .slice p2 k2 c2, .slice q2 l2 d2]) t) (hS : EOk 1000 S.1 ∧ EOk 1000 S.2.1) (hl : large t.2.1 t.2.2 = false) (ht : TabOk w) (hB : Box w Bx #[.bool s2, .slice p2 k2 c2, .slice q2 l2 d2]) :
  Calls Tryz.prog 40 #[.agg #[.int .i64 i1, .bool s1, .slice p1 k1 c1, .slice q1 l1 d1, .int .i64 j1, .bool sz1, .slice pz1 kz1 cz1, .slice qz1 lz1 dz1, .bool e1], .pointer (some ⟨Bx, 0, none⟩)] w fun e w' => e = .returned (.bool (shas S (0, fr t))) ∧ Below w.heap.size w w' := by
 have HR := hid (fun (W : World) (hW : Below w.heap.size w W) => read_ok (.agg #[.bool s2, .slice p2 k2 c2, .slice q2 l2 d2]) t W (h'.below hW) hl (ht.below hW))
 have hok : EOk 1000 (0, fr t) := (rdE_ok (inf := false) (g := 1) (.inl rfl) hl).le (by omega)
 have HH := hid (fun (W : World) (i3 : Int) (s3 : Bool) (p3 : Option Addr) (k3 c3 : Nat) (q3 : Option Addr) (l3 d3 : Nat) (hW : Below w.heap.size w W) (hE : ERep W (.agg #[.int .i64 i3, .bool s3, .slice p3 k3 c3, .slice q3 l3 d3]) (0, fr t)) => has_any i1 s1 p1 k1 c1 q1 l1 d1 j1 sz1 pz1 kz1 cz1 qz1 lz1 dz1 e1 i3 s3 p3 k3 c3 q3 l3 d3 S (0, fr t) W (h.below hW) hE hS hok)
 have HP := hid hB
 have hlx := hB.lt
 obtain ⟨b, hb⟩ : ∃ b, b = shas S (0, fr t) := ⟨_, rfl⟩
 rw [← hb] at HH ⊢
 clear h h' hS hl ht hok hb hB
 go_enter Tryz.func40, Tryz.ntmps40
 go_upto_region 1 with fail
 have HV := hid (pre1 w [.int .i64 i1, .bool s1, .slice p1 k1 c1, .slice q1 l1 d1, .int .i64 j1, .bool sz1, .slice pz1 kz1 cz1, .slice qz1 lz1 dz1, .bool e1] 59 nd9)
 generalize w.alloc (.cells #[.int .i64 i1, .bool s1, .slice p1 k1 c1, .slice q1 l1 d1, .int .i64 j1, .bool sz1, .slice pz1 kz1 cz1, .slice qz1 lz1 dz1, .bool e1] 59) = W0 at *
 have HQ := hid (QQ.i2 (cs := [.int .i64 i1, .bool s1, .slice p1 k1 c1, .slice q1 l1 d1, .int .i64 j1, .bool sz1, .slice pz1 kz1 cz1, .slice qz1 lz1 dz1, .bool e1]) (cs' := [.bool s2, .slice p2 k2 c2, .slice q2 l2 d2]) HV.out.1 (HP.out.below HV.out.2) HV.out.2)
 have HS := hid (fun (w' : World) (hb : QQ w [(w.heap.size, [.int .i64 i1, .bool s1, .slice p1 k1 c1, .slice q1 l1 d1, .int .i64 j1, .bool sz1, .slice pz1 kz1 cz1, .slice qz1 lz1 dz1, .bool e1]), (Bx, [.bool s2, .slice p2 k2 c2, .slice q2 l2 d2])] w') => hb.s_9_3)
 go_region_held3 (fun w' => w'.cell? ⟨w.heap.size, 0, none⟩ = some (.int .i64 i1) ∧ w'.cell? ⟨w.heap.size, 1, none⟩ = some (.bool s1) ∧ w'.cell? ⟨w.heap.size, 2, none⟩ = some (.slice p1 k1 c1) ∧ w'.cell? ⟨w.heap.size, 3, none⟩ = some (.slice q1 l1 d1) ∧ w'.cell? ⟨w.heap.size, 4, none⟩ = some (.int .i64 j1) ∧ w'.cell? ⟨w.heap.size, 5, none⟩ = some (.bool sz1) ∧ w'.cell? ⟨w.heap.size, 6, none⟩ = some (.slice pz1 kz1 cz1) ∧ w'.cell? ⟨w.heap.size, 7, none⟩ = some (.slice qz1 lz1 dz1) ∧ w'.cell? ⟨w.heap.size, 8, none⟩ = some (.bool e1) ∧ w'.cell? ⟨Bx, 0, none⟩ = some (.bool s2) ∧ w'.cell? ⟨Bx, 1, none⟩ = some (.slice p2 k2 c2) ∧ w'.cell? ⟨Bx, 2, none⟩ = some (.slice q2 l2 d2) ∧ Hid (QQ w [(w.heap.size, [.int .i64 i1, .bool s1, .slice p1 k1 c1, .slice q1 l1 d1, .int .i64 j1, .bool sz1, .slice pz1 kz1 cz1, .slice qz1 lz1 dz1, .bool e1]), (Bx, [.bool s2, .slice p2 k2 c2, .slice q2 l2 d2])] w'))
  (first | (refine HS.out _ ?_; first | (with_reducible exact HQ.out.drew) | (with_reducible assumption)))
  (first
   | (go_at_call 42; refine (HR.out _ HQ.out.drew.bel).mono ?_; rintro e wa ⟨s3, p3, k3, c3, q3, l3, d3, rfl, hF, hB1⟩; have hQ1 := HQ.out.drew.call hB1)
   | (go_at_call 41; refine (HH.out _ 0 s3 p3 k3 c3 q3 l3 d3 hQ1.bel (ERep.mk rfl hF.out)).mono ?_; rintro e wb ⟨rfl, hB2⟩; have hQ2 := hQ1.call hB2))
 rename_i hHeld
 clear hHeld
 have HE := hid hQ2.bel
 clear hQ1 hQ2 hB1 hB2 hF
 go_wp2_with fail
 go_ret
 exact ⟨rfl, HE.out⟩
theorem Has1_large (i1 : Int) (s1 : Bool) (p1 : Option Addr) (k1 c1 : Nat) (q1 : Option Addr) (l1 d1 : Nat) (j1 : Int) (sz1 : Bool) (pz1 : Option Addr) (kz1 cz1 : Nat) (qz1 : Option Addr) (lz1 dz1 : Nat) (e1 : Bool) (s2 : Bool) (p2 : Option Addr) (k2 c2 : Nat) (q2 : Option Addr) (l2 d2 : Nat) (Bx : Nat) (t : Bool × Nat × Nat) (w : World) (h' : NRep w (.agg #[.bool s2, .slice p2 k2 c2, .slice q2 l2 d2]) t) (hl : large t.2.1 t.2.2 = true) (ht : TabOk w) (hB : Box w Bx #[.bool s2, .slice p2 k2 c2, .slice q2 l2 d2]) :
  Calls Tryz.prog 40 #[.agg #[.int .i64 i1, .bool s1, .slice p1 k1 c1, .slice q1 l1 d1, .int .i64 j1, .bool sz1, .slice pz1 kz1 cz1, .slice qz1 lz1 dz1, .bool e1], .pointer (some ⟨Bx, 0, none⟩)] w fun e w' => e = pan 1 ∧ Below w.heap.size w w' := by
 have HR := hid (fun (W : World) (hW : Below w.heap.size w W) => read_large (.agg #[.bool s2, .slice p2 k2 c2, .slice q2 l2 d2]) t W (h'.below hW) hl (ht.below hW))
 have HP := hid hB
 have hlx := hB.lt
 clear h' hl ht hB
 go_enter Tryz.func40, Tryz.ntmps40
 go_upto_region 1 with fail
 have HV := hid (pre1 w [.int .i64 i1, .bool s1, .slice p1 k1 c1, .slice q1 l1 d1, .int .i64 j1, .bool sz1, .slice pz1 kz1 cz1, .slice qz1 lz1 dz1, .bool e1] 59 nd9)
 generalize w.alloc (.cells #[.int .i64 i1, .bool s1, .slice p1 k1 c1, .slice q1 l1 d1, .int .i64 j1, .bool sz1, .slice pz1 kz1 cz1, .slice qz1 lz1 dz1, .bool e1] 59) = W0 at *
 have HQ := hid (QQ.i2 (cs := [.int .i64 i1, .bool s1, .slice p1 k1 c1, .slice q1 l1 d1, .int .i64 j1, .bool sz1, .slice pz1 kz1 cz1, .slice qz1 lz1 dz1, .bool e1]) (cs' := [.bool s2, .slice p2 k2 c2, .slice q2 l2 d2]) HV.out.1 (HP.out.below HV.out.2) HV.out.2)
 have HS := hid (fun (w' : World) (hb : QQ w [(w.heap.size, [.int .i64 i1, .bool s1, .slice p1 k1 c1, .slice q1 l1 d1, .int .i64 j1, .bool sz1, .slice pz1 kz1 cz1, .slice qz1 lz1 dz1, .bool e1]), (Bx, [.bool s2, .slice p2 k2 c2, .slice q2 l2 d2])] w') => hb.s_9_3)
 refine wp_region_held_drew (S := (fun w' => w'.cell? ⟨w.heap.size, 0, none⟩ = some (.int .i64 i1) ∧ w'.cell? ⟨w.heap.size, 1, none⟩ = some (.bool s1) ∧ w'.cell? ⟨w.heap.size, 2, none⟩ = some (.slice p1 k1 c1) ∧ w'.cell? ⟨w.heap.size, 3, none⟩ = some (.slice q1 l1 d1) ∧ w'.cell? ⟨w.heap.size, 4, none⟩ = some (.int .i64 j1) ∧ w'.cell? ⟨w.heap.size, 5, none⟩ = some (.bool sz1) ∧ w'.cell? ⟨w.heap.size, 6, none⟩ = some (.slice pz1 kz1 cz1) ∧ w'.cell? ⟨w.heap.size, 7, none⟩ = some (.slice qz1 lz1 dz1) ∧ w'.cell? ⟨w.heap.size, 8, none⟩ = some (.bool e1) ∧ w'.cell? ⟨Bx, 0, none⟩ = some (.bool s2) ∧ w'.cell? ⟨Bx, 1, none⟩ = some (.slice p2 k2 c2) ∧ w'.cell? ⟨Bx, 2, none⟩ = some (.slice q2 l2 d2) ∧ Hid (QQ w [(w.heap.size, [.int .i64 i1, .bool s1, .slice p1 k1 c1, .slice q1 l1 d1, .int .i64 j1, .bool sz1, .slice pz1 kz1 cz1, .slice qz1 lz1 dz1, .bool e1]), (Bx, [.bool s2, .slice p2 k2 c2, .slice q2 l2 d2])] w'))) (by kernel_rfl) (HS.out _ HQ.out.drew) (fun hHeld => ?_)
 refine wpAnyH_take (i := 0) (v := ?vv0) rfl (by kernel_rfl) (by kernel_rfl) (by kernel_rfl) (fun _ _ _ h => h) (Or.inl ⟨by rfl, ?hy0⟩) (by assumption) ?_
 case hy0 => (intro w' hSw; (try dsimp only at hSw); go_simp; first | done | with_reducible rfl)
 simp only [Act.put]
 refine wpAnyH_take (i := 1) (v := ?vv1) rfl (by kernel_rfl) (by kernel_rfl) (by kernel_rfl) (fun _ _ _ h => h) (Or.inl ⟨by rfl, ?hy1⟩) (by assumption) ?_
 case hy1 => (intro w' hSw; (try dsimp only at hSw); go_simp; first | done | with_reducible rfl)
 simp only [Act.put]
 refine wpAnyH_ready (rs := [2]) (by kernel_rfl) (by simp) ?_
 refine AllReadyH.cons rfl (fun K hK => ?_) AllReadyH.nil
 go_simp
 go_at_call 42
 refine (HR.out _ HQ.out.drew.bel).mono ?_
 rintro e wa ⟨rfl, hB1⟩
 exact ⟨rfl, rfl, (HQ.out.drew.call hB1).bel⟩
end Go.Proofs.YtheojajaefjecaaGreatDoor
