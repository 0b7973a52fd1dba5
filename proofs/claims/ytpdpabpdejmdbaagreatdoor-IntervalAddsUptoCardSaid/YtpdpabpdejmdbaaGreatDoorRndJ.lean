/- Operations whose result has a large number; Round of the program. Round of the program. Rounded, Done, Round of the reference. -/
import Derived.Test.YtpdpabpdejmdbaaGreatDoorMkI
import Derived.Test.YtpdpabpdejmdbaaGreatDoorBothI
import Derived.WalkSmall
import Derived.Test.YtpdpabpdejmdbaaGreatDoorIsJ
set_option maxHeartbeats 4000000
set_option maxRecDepth 100000
namespace Go.Proofs.YtpdpabpdejmdbaaGreatDoor
open Go.RowKit Dg
theorem erat_big (i1 : Int) (s1 : Bool) (p1 : Option Addr) (k1 c1 : Nat) (q1 : Option Addr) (l1 d1 : Nat) (x : Int × Bool × Nat × Nat) (w : World) (h : ERep w (.agg #[.int .i64 i1, .bool s1, .slice p1 k1 c1, .slice q1 l1 d1]) x) (hx : EOk 100000 x) (hb : ebig x = true) :
  Calls Tryz.prog 149 #[.agg #[.int .i64 i1, .bool s1, .slice p1 k1 c1, .slice q1 l1 d1]] w fun e w' => e = pan 1 ∧ Below w.heap.size w w' := by
 obtain ⟨hi, hF⟩ := h.frac
 unfold ebig at hb
 rw [Bool.and_eq_true] at hb
 have hx0 : x.1 = 0 := of_decide_eq_true hb.1
 have hbg := hb.2
 rw [hx0] at hi
 subst hi
 have HA := hid (fun (W : World) (hW : Below w.heap.size w W) => FracRat_open (.agg #[.bool s1, .slice p1 k1 c1, .slice q1 l1 d1]) x.2 W (hF.below hW) (lt_1g5 hx.bn) (lt_1g5 hx.bd))
 rw [hbg] at HA
 change Hid (∀ (W : World), Below w.heap.size w W → Calls _ _ _ W fun e w' => Below W.heap.size W w' ∧ FRes w' e 1 (outF x.2)) at HA
 obtain ⟨r, hr⟩ : ∃ r, r = outF x.2 := ⟨_, rfl⟩
 rw [← hr] at HA
 clear hr h hx hF hx0 hb hbg
 go_enter Tryz.func149, Tryz.ntmps149
 go_wp2_with fail
 have HV := hid (pre2 w [.int .i64 0, .bool s1, .slice p1 k1 c1, .slice q1 l1 d1] [.bool false, .slice none 0 0, .slice none 0 0] 63 24 nd4 nd3)
 generalize (w.alloc (.cells #[.int .i64 0, .bool s1, .slice p1 k1 c1, .slice q1 l1 d1] 63)).alloc (.cells #[.bool false, .slice none 0 0, .slice none 0 0] 24) = W0 at *
 refine (infinite_any 0 s1 p1 k1 c1 q1 l1 d1 W0).mono ?_
 rintro e w1 ⟨rfl, hB1⟩
 rw [show ((0 : Int) != 0) = false from rfl]
 have HE := hid hB1
 obtain ⟨u0, u1, u2, u3, _⟩ := (HV.out.1.below hB1).cells4
 clear hB1
 go_wp2_with fail
 refine (HA.out w1 (HV.out.2.2.trans (HE.out.mono HV.out.2.2.size))).mono ?_
 rintro e w2 ⟨hB2, ⟨_, rfl⟩ | ⟨h0, _⟩⟩
 case inr => exact absurd h0 (by decide)
 have HE2 := hid (held_any HE.out hB2)
 clear hB2 u0 u1 u2 u3
 unfold zeroF
 go_wp2_with fail
 refine (mustR_err false none 0 0 none 0 0 1 (by decide) w2).mono ?_
 rintro e w3 ⟨rfl, hB3⟩
 exact ⟨rfl, rfl, HV.out.2.2.trans ((held_any HE2.out hB3).mono HV.out.2.2.size)⟩
theorem siv_big1 (i1 : Int) (s1 : Bool) (p1 : Option Addr) (k1 c1 : Nat) (q1 : Option Addr) (l1 d1 : Nat) (j1 : Int) (sz1 : Bool) (pz1 : Option Addr) (kz1 cz1 : Nat) (qz1 : Option Addr) (lz1 dz1 : Nat) (e1 : Bool) (x : (Int × Bool × Nat × Nat) × (Int × Bool × Nat × Nat) × Bool) (w : World) (h : SRep w (.agg #[.int .i64 i1, .bool s1, .slice p1 k1 c1, .slice q1 l1 d1, .int .i64 j1, .bool sz1, .slice pz1 kz1 cz1, .slice qz1 lz1 dz1, .bool e1]) x) (hx : EOk 100000 x.1 ∧ EOk 100000 x.2.1) (hb : ebig x.1 = true) (he : x.2.2 = false) :
  Calls Tryz.prog 83 #[.agg #[.int .i64 i1, .bool s1, .slice p1 k1 c1, .slice q1 l1 d1, .int .i64 j1, .bool sz1, .slice pz1 kz1 cz1, .slice qz1 lz1 dz1, .bool e1]] w fun e w' => e = pan 1 ∧ Below w.heap.size w w' := by
 have h1 := h.ends
 have HL := hid (fun (W : World) (hW : Below w.heap.size w W) => erat_big i1 s1 p1 k1 c1 q1 l1 d1 x.1 W (h1.1.below hW) hx.1 hb)
 have hee := h1.2.2
 rw [he] at hee
 subst hee
 clear h hx hb he h1
 go_enter Tryz.func83, Tryz.ntmps83
 go_wp2_with fail
 have HV := hid (pre2 w [.int .i64 i1, .bool s1, .slice p1 k1 c1, .slice q1 l1 d1, .int .i64 j1, .bool sz1, .slice pz1 kz1 cz1, .slice qz1 lz1 dz1, .bool false] [.bool false, .slice none 0 0, .slice none 0 0, .bool false, .slice none 0 0, .slice none 0 0, .bool false, .bool false] 65 26 nd9 nd8)
 generalize (w.alloc (.cells #[.int .i64 i1, .bool s1, .slice p1 k1 c1, .slice q1 l1 d1, .int .i64 j1, .bool sz1, .slice pz1 kz1 cz1, .slice qz1 lz1 dz1, .bool false] 65)).alloc (.cells #[.bool false, .slice none 0 0, .slice none 0 0, .bool false, .slice none 0 0, .slice none 0 0, .bool false, .bool false] 26) = W0 at *
 have HQ := hid (QQ.i1 (cs := [.int .i64 i1, .bool s1, .slice p1 k1 c1, .slice q1 l1 d1, .int .i64 j1, .bool sz1, .slice pz1 kz1 cz1, .slice qz1 lz1 dz1, .bool false]) HV.out.1 HV.out.2.2)
 have HS := hid (fun (w' : World) (hb : QQ w [(w.heap.size, [.int .i64 i1, .bool s1, .slice p1 k1 c1, .slice q1 l1 d1, .int .i64 j1, .bool sz1, .slice pz1 kz1 cz1, .slice qz1 lz1 dz1, .bool false])] w') => hb.s_9)
 refine wp_region_held_drew (S := (fun w' => w'.cell? ⟨w.heap.size, 0, none⟩ = some (.int .i64 i1) ∧ w'.cell? ⟨w.heap.size, 1, none⟩ = some (.bool s1) ∧ w'.cell? ⟨w.heap.size, 2, none⟩ = some (.slice p1 k1 c1) ∧ w'.cell? ⟨w.heap.size, 3, none⟩ = some (.slice q1 l1 d1) ∧ w'.cell? ⟨w.heap.size, 4, none⟩ = some (.int .i64 j1) ∧ w'.cell? ⟨w.heap.size, 5, none⟩ = some (.bool sz1) ∧ w'.cell? ⟨w.heap.size, 6, none⟩ = some (.slice pz1 kz1 cz1) ∧ w'.cell? ⟨w.heap.size, 7, none⟩ = some (.slice qz1 lz1 dz1) ∧ w'.cell? ⟨w.heap.size, 8, none⟩ = some (.bool false) ∧ Hid (QQ w [(w.heap.size, [.int .i64 i1, .bool s1, .slice p1 k1 c1, .slice q1 l1 d1, .int .i64 j1, .bool sz1, .slice pz1 kz1 cz1, .slice qz1 lz1 dz1, .bool false])] w'))) (by kernel_rfl) (HS.out _ HQ.out.drew) (fun hHeld => ?_)
 refine wpAnyH_take (i := 0) (v := ?vv0) rfl (by kernel_rfl) (by kernel_rfl) (by kernel_rfl) (fun _ _ _ h => h) (Or.inl ⟨by rfl, ?hy0⟩) (by assumption) ?_
 case hy0 => (intro w' hSw; (try dsimp only at hSw); go_simp; first | done | with_reducible rfl)
 simp only [Act.put]
 refine wpAnyH_take (i := 1) (v := ?vv1) rfl (by kernel_rfl) (by kernel_rfl) (by kernel_rfl) (fun _ _ _ h => h) (Or.inl ⟨by rfl, ?hy1⟩) (by assumption) ?_
 case hy1 => (intro w' hSw; (try dsimp only at hSw); go_simp; first | done | with_reducible rfl)
 simp only [Act.put]
 refine wpAnyH_take (i := 3) (v := ?vv3) rfl (by kernel_rfl) (by kernel_rfl) (by kernel_rfl) (fun _ _ _ h => h) (Or.inl ⟨by rfl, ?hy3⟩) (by assumption) ?_
 case hy3 => (intro w' hSw; (try dsimp only at hSw); go_simp; first | done | with_reducible rfl)
 simp only [Act.put]
 refine wpAnyH_take (i := 4) (v := ?vv4) rfl (by kernel_rfl) (by kernel_rfl) (by kernel_rfl) (fun _ _ _ h => h) (Or.inl ⟨by rfl, ?hy4⟩) (by assumption) ?_
 case hy4 => (intro w' hSw; (try dsimp only at hSw); go_simp; first | done | with_reducible rfl)
 simp only [Act.put]
 refine wpAnyH_take (i := 6) (v := ?vv6) rfl (by kernel_rfl) (by kernel_rfl) (by kernel_rfl) (fun _ _ _ h => h) (Or.inl ⟨by rfl, ?hy6⟩) (by assumption) ?_
 case hy6 => (intro w' hSw; (try dsimp only at hSw); go_simp; first | done | with_reducible rfl)
 simp only [Act.put]
 refine wpAnyH_take (i := 7) (v := ?vv7) rfl (by kernel_rfl) (by kernel_rfl) (by kernel_rfl) (fun _ _ _ h => h) (Or.inl ⟨by rfl, ?hy7⟩) (by assumption) ?_
 case hy7 => (intro w' hSw; (try dsimp only at hSw); go_simp; first | done | with_reducible rfl)
 simp only [Act.put]
 refine wpAnyH_take (i := 9) (v := ?vv9) rfl (by kernel_rfl) (by kernel_rfl) (by kernel_rfl) (fun _ _ _ h => h) (Or.inl ⟨by rfl, ?hy9⟩) (by assumption) ?_
 case hy9 => (intro w' hSw; (try dsimp only at hSw); go_simp; first | done | with_reducible rfl)
 simp only [Act.put]
 refine wpAnyH_take (i := 10) (v := ?vv10) rfl (by kernel_rfl) (by kernel_rfl) (by kernel_rfl) (fun _ _ _ h => h) (Or.inl ⟨by rfl, ?hy10⟩) (by assumption) ?_
 case hy10 => (intro w' hSw; (try dsimp only at hSw); go_simp; first | done | with_reducible rfl)
 simp only [Act.put]
 refine wpAnyH_ready (rs := [2]) (by kernel_rfl) (by simp) ?_
 refine AllReadyH.cons rfl (fun K hK => ?_) AllReadyH.nil
 go_simp
 go_at_call 149
 refine (HL.out _ HQ.out.drew.bel).mono ?_
 rintro e wa ⟨rfl, hB1⟩
 exact ⟨rfl, rfl, (HQ.out.drew.call hB1).bel⟩
theorem siv_big2 (i1 : Int) (s1 : Bool) (p1 : Option Addr) (k1 c1 : Nat) (q1 : Option Addr) (l1 d1 : Nat) (j1 : Int) (sz1 : Bool) (pz1 : Option Addr) (kz1 cz1 : Nat) (qz1 : Option Addr) (lz1 dz1 : Nat) (e1 : Bool) (x : (Int × Bool × Nat × Nat) × (Int × Bool × Nat × Nat) × Bool) (w : World) (h : SRep w (.agg #[.int .i64 i1, .bool s1, .slice p1 k1 c1, .slice q1 l1 d1, .int .i64 j1, .bool sz1, .slice pz1 kz1 cz1, .slice qz1 lz1 dz1, .bool e1]) x) (hx : EOk 100000 x.1 ∧ EOk 100000 x.2.1) (hb : ebig x.1 = false) (hc : ebig x.2.1 = true) (he : x.2.2 = false) :
  Calls Tryz.prog 83 #[.agg #[.int .i64 i1, .bool s1, .slice p1 k1 c1, .slice q1 l1 d1, .int .i64 j1, .bool sz1, .slice pz1 kz1 cz1, .slice qz1 lz1 dz1, .bool e1]] w fun e w' => e = pan 1 ∧ Below w.heap.size w w' := by
 have h1 := h.ends
 have HL := hid (fun (W : World) (hW : Below w.heap.size w W) => erat_ok i1 s1 p1 k1 c1 q1 l1 d1 x.1 W (h1.1.below hW) hx.1 hb)
 have HH := hid (fun (W : World) (hW : Below w.heap.size w W) => erat_big j1 sz1 pz1 kz1 cz1 qz1 lz1 dz1 x.2.1 W (h1.2.1.below hW) hx.2 hc)
 have hee := h1.2.2
 rw [he] at hee
 subst hee
 clear h hx hb hc he h1
 go_enter Tryz.func83, Tryz.ntmps83
 go_wp2_with fail
 have HV := hid (pre2 w [.int .i64 i1, .bool s1, .slice p1 k1 c1, .slice q1 l1 d1, .int .i64 j1, .bool sz1, .slice pz1 kz1 cz1, .slice qz1 lz1 dz1, .bool false] [.bool false, .slice none 0 0, .slice none 0 0, .bool false, .slice none 0 0, .slice none 0 0, .bool false, .bool false] 65 26 nd9 nd8)
 generalize (w.alloc (.cells #[.int .i64 i1, .bool s1, .slice p1 k1 c1, .slice q1 l1 d1, .int .i64 j1, .bool sz1, .slice pz1 kz1 cz1, .slice qz1 lz1 dz1, .bool false] 65)).alloc (.cells #[.bool false, .slice none 0 0, .slice none 0 0, .bool false, .slice none 0 0, .slice none 0 0, .bool false, .bool false] 26) = W0 at *
 have HQ := hid (QQ.i1 (cs := [.int .i64 i1, .bool s1, .slice p1 k1 c1, .slice q1 l1 d1, .int .i64 j1, .bool sz1, .slice pz1 kz1 cz1, .slice qz1 lz1 dz1, .bool false]) HV.out.1 HV.out.2.2)
 have HS := hid (fun (w' : World) (hb : QQ w [(w.heap.size, [.int .i64 i1, .bool s1, .slice p1 k1 c1, .slice q1 l1 d1, .int .i64 j1, .bool sz1, .slice pz1 kz1 cz1, .slice qz1 lz1 dz1, .bool false])] w') => hb.s_9)
 refine wp_region_held_drew (S := (fun w' => w'.cell? ⟨w.heap.size, 0, none⟩ = some (.int .i64 i1) ∧ w'.cell? ⟨w.heap.size, 1, none⟩ = some (.bool s1) ∧ w'.cell? ⟨w.heap.size, 2, none⟩ = some (.slice p1 k1 c1) ∧ w'.cell? ⟨w.heap.size, 3, none⟩ = some (.slice q1 l1 d1) ∧ w'.cell? ⟨w.heap.size, 4, none⟩ = some (.int .i64 j1) ∧ w'.cell? ⟨w.heap.size, 5, none⟩ = some (.bool sz1) ∧ w'.cell? ⟨w.heap.size, 6, none⟩ = some (.slice pz1 kz1 cz1) ∧ w'.cell? ⟨w.heap.size, 7, none⟩ = some (.slice qz1 lz1 dz1) ∧ w'.cell? ⟨w.heap.size, 8, none⟩ = some (.bool false) ∧ Hid (QQ w [(w.heap.size, [.int .i64 i1, .bool s1, .slice p1 k1 c1, .slice q1 l1 d1, .int .i64 j1, .bool sz1, .slice pz1 kz1 cz1, .slice qz1 lz1 dz1, .bool false])] w'))) (by kernel_rfl) (HS.out _ HQ.out.drew) (fun hHeld => ?_)
 refine wpAnyH_take (i := 0) (v := ?vv0) rfl (by kernel_rfl) (by kernel_rfl) (by kernel_rfl) (fun _ _ _ h => h) (Or.inl ⟨by rfl, ?hy0⟩) (by assumption) ?_
 case hy0 => (intro w' hSw; (try dsimp only at hSw); go_simp; first | done | with_reducible rfl)
 simp only [Act.put]
 refine wpAnyH_take (i := 1) (v := ?vv1) rfl (by kernel_rfl) (by kernel_rfl) (by kernel_rfl) (fun _ _ _ h => h) (Or.inl ⟨by rfl, ?hy1⟩) (by assumption) ?_
 case hy1 => (intro w' hSw; (try dsimp only at hSw); go_simp; first | done | with_reducible rfl)
 simp only [Act.put]
 refine wpAnyH_take (i := 3) (v := ?vv3) rfl (by kernel_rfl) (by kernel_rfl) (by kernel_rfl) (fun _ _ _ h => h) (Or.inl ⟨by rfl, ?hy3⟩) (by assumption) ?_
 case hy3 => (intro w' hSw; (try dsimp only at hSw); go_simp; first | done | with_reducible rfl)
 simp only [Act.put]
 refine wpAnyH_take (i := 4) (v := ?vv4) rfl (by kernel_rfl) (by kernel_rfl) (by kernel_rfl) (fun _ _ _ h => h) (Or.inl ⟨by rfl, ?hy4⟩) (by assumption) ?_
 case hy4 => (intro w' hSw; (try dsimp only at hSw); go_simp; first | done | with_reducible rfl)
 simp only [Act.put]
 refine wpAnyH_take (i := 6) (v := ?vv6) rfl (by kernel_rfl) (by kernel_rfl) (by kernel_rfl) (fun _ _ _ h => h) (Or.inl ⟨by rfl, ?hy6⟩) (by assumption) ?_
 case hy6 => (intro w' hSw; (try dsimp only at hSw); go_simp; first | done | with_reducible rfl)
 simp only [Act.put]
 refine wpAnyH_take (i := 7) (v := ?vv7) rfl (by kernel_rfl) (by kernel_rfl) (by kernel_rfl) (fun _ _ _ h => h) (Or.inl ⟨by rfl, ?hy7⟩) (by assumption) ?_
 case hy7 => (intro w' hSw; (try dsimp only at hSw); go_simp; first | done | with_reducible rfl)
 simp only [Act.put]
 refine wpAnyH_take (i := 9) (v := ?vv9) rfl (by kernel_rfl) (by kernel_rfl) (by kernel_rfl) (fun _ _ _ h => h) (Or.inl ⟨by rfl, ?hy9⟩) (by assumption) ?_
 case hy9 => (intro w' hSw; (try dsimp only at hSw); go_simp; first | done | with_reducible rfl)
 simp only [Act.put]
 refine wpAnyH_take (i := 10) (v := ?vv10) rfl (by kernel_rfl) (by kernel_rfl) (by kernel_rfl) (fun _ _ _ h => h) (Or.inl ⟨by rfl, ?hy10⟩) (by assumption) ?_
 case hy10 => (intro w' hSw; (try dsimp only at hSw); go_simp; first | done | with_reducible rfl)
 simp only [Act.put]
 refine wpAnyH_ready (rs := [2]) (by kernel_rfl) (by simp) ?_
 refine AllReadyH.cons rfl (fun K hK => ?_) AllReadyH.nil
 go_simp
 go_at_call 149
 refine (HL.out _ HQ.out.drew.bel).mono ?_
 rintro e wa ⟨s4, p4, k4, c4, q4, l4, d4, rfl, hE1, hB1⟩
 have hQ1 := HQ.out.drew.call hB1
 go_wp2_with fail
 refine hK.out _ _ ?_ (fun hHeld => ?_)
 ·exact HS.out _ (hQ1)
 clear hK K
 try simp only [Act.put, List.setIfInBounds_toArray, List.set_cons_zero, List.set_cons_succ]
 refine wpAnyH_ready (rs := [5]) (by kernel_rfl) (by simp) ?_
 refine AllReadyH.cons rfl (fun K hK => ?_) AllReadyH.nil
 go_simp
 go_at_call 149
 refine (HH.out _ hQ1.bel).mono ?_
 rintro e wb ⟨rfl, hB2⟩
 exact ⟨rfl, rfl, (hQ1.call hB2).bel⟩
def sbig (x : (Int × Bool × Nat × Nat) × (Int × Bool × Nat × Nat) × Bool) : Bool := ebig x.1 || ebig x.2.1
theorem siv_big (i1 : Int) (s1 : Bool) (p1 : Option Addr) (k1 c1 : Nat) (q1 : Option Addr) (l1 d1 : Nat) (j1 : Int) (sz1 : Bool) (pz1 : Option Addr) (kz1 cz1 : Nat) (qz1 : Option Addr) (lz1 dz1 : Nat) (e1 : Bool) (x : (Int × Bool × Nat × Nat) × (Int × Bool × Nat × Nat) × Bool) (w : World) (h : SRep w (.agg #[.int .i64 i1, .bool s1, .slice p1 k1 c1, .slice q1 l1 d1, .int .i64 j1, .bool sz1, .slice pz1 kz1 cz1, .slice qz1 lz1 dz1, .bool e1]) x) (hx : EOk 100000 x.1 ∧ EOk 100000 x.2.1) (hb : sbig x = true) (he : x.2.2 = false) :
  Calls Tryz.prog 83 #[.agg #[.int .i64 i1, .bool s1, .slice p1 k1 c1, .slice q1 l1 d1, .int .i64 j1, .bool sz1, .slice pz1 kz1 cz1, .slice qz1 lz1 dz1, .bool e1]] w fun e w' => e = pan 1 ∧ Below w.heap.size w w' := by
 unfold sbig at hb
 cases h1 : ebig x.1
 ·rw [h1] at hb
  exact siv_big2 i1 s1 p1 k1 c1 q1 l1 d1 j1 sz1 pz1 kz1 cz1 qz1 lz1 dz1 e1 x w h hx h1 hb he
 ·exact siv_big1 i1 s1 p1 k1 c1 q1 l1 d1 j1 sz1 pz1 kz1 cz1 qz1 lz1 dz1 e1 x w h hx h1 he
end Go.Proofs.YtpdpabpdejmdbaaGreatDoor
namespace Go.Proofs.YtpdpabpdejmdbaaGreatDoor
open Go.RowKit Dg
def prec (p : Int) : Bool := decide (0 ≤ p) && decide (p ≤ 128)
theorem isPrecision_any (p : Int) (w : World) : Calls Tryz.prog 112 #[.int .i64 p] w fun e w' => e = .returned (.bool (prec p)) ∧ w = w' := by
 obtain ⟨b, hb⟩ : ∃ b, b = prec p := ⟨_, rfl⟩
 rw [← hb]
 have hb' : b = (decide (0 ≤ p) && decide (p ≤ 128)) := hb
 by_cases h0 : 0 ≤ p <;> by_cases h1 : p ≤ 128
 ·have f0 : decide (0 ≤ p) = true := decide_eq_true h0
  have f1 : decide (p ≤ 128) = true := decide_eq_true h1
  rw [f0, f1] at hb'
  have HB := hid hb'
  clear h0 h1 hb hb'
  go_enter Tryz.func112, Tryz.ntmps112
  go_wp2_with fail
  go_ret
  exact ⟨by rw [HB.out]; rfl, rfl⟩
 ·have f0 : decide (0 ≤ p) = true := decide_eq_true h0
  have f1 : decide (p ≤ 128) = false := decide_eq_false h1
  rw [f0, f1] at hb'
  have HB := hid hb'
  clear h0 h1 hb hb'
  go_enter Tryz.func112, Tryz.ntmps112
  go_wp2_with fail
  go_ret
  exact ⟨by rw [HB.out]; rfl, rfl⟩
 all_goals
  have f0 : decide (0 ≤ p) = false := decide_eq_false h0
  rw [f0] at hb'
  have HB := hid hb'
  clear h0 h1 hb hb'
  go_enter Tryz.func112, Tryz.ntmps112
  go_wp2_with fail
  go_ret
  exact ⟨by rw [HB.out]; rfl, rfl⟩
def srnd (p : Int) (x : (Int × Bool × Nat × Nat) × (Int × Bool × Nat × Nat) × Bool) : (Int × Bool × Nat × Nat) × (Int × Bool × Nat × Nat) × Bool := sround x p.toNat
end Go.Proofs.YtpdpabpdejmdbaaGreatDoor
namespace Go.Proofs.YtpdpabpdejmdbaaGreatDoor
open Go.RowKit Dg
def jround (r : (Bool × Nat × Nat) × (Bool × Nat × Nat) × Bool × Bool × Bool) (p : Nat) : (Bool × Nat × Nat) × (Bool × Nat × Nat) × Bool × Bool × Bool := if r.2.2.2.2 then r else (if r.2.2.1 then r.1 else gdn r.1 p, if r.2.2.2.1 then r.2.1 else gup r.2.1 p, r.2.2.1, r.2.2.2.1, false)
theorem jRounded_ret {W : World} {B : Nat} {a0 a1 a2 a3 a4 a5 a6 a7 a8 : Value} {tm : Array Value} {R : Ending → World → Prop} (h2 : tm[4]?.getD undef = .pointer (some ⟨B, 0, none⟩)) (hV : Box W B #[a0, a1, a2, a3, a4, a5, a6, a7, a8]) (hR : R (.returned (.agg #[a0, a1, a2, a3, a4, a5, a6, a7, a8])) W) :
  bodyPost Tryz.prog Tryz.f116 R .ret { tmps := tm, defers := [] } W := by
 obtain ⟨g0, g1, g2, g3, g4, g5, g6, g7, g8, _⟩ := hV.cells9
 exact bodyPost_ret (v := .agg #[a0, a1, a2, a3, a4, a5, a6, a7, a8]) (by simp [results, Tryz.results116, go_sem, h2, g0, g1, g2, g3, g4, g5, g6, g7, g8]) rfl hR
theorem jRounded_ff (s1 : Bool) (p1 : Option Addr) (k1 c1 : Nat) (q1 : Option Addr) (l1 d1 : Nat) (sz1 : Bool) (pz1 : Option Addr) (kz1 cz1 : Nat) (qz1 : Option Addr) (lz1 dz1 : Nat) (pr : Nat) (a b : Bool × Nat × Nat) (w : World) (ha : QNorm w (.agg #[.bool s1, .slice p1 k1 c1, .slice q1 l1 d1]) a) (hb : QNorm w (.agg #[.bool sz1, .slice pz1 kz1 cz1, .slice qz1 lz1 dz1]) b)
  (hd : ∀ W, QNorm W (.agg #[.bool s1, .slice p1 k1 c1, .slice q1 l1 d1]) a → Calls Tryz.prog 175 #[.agg #[.bool s1, .slice p1 k1 c1, .slice q1 l1 d1], .int .i64 (pr : Int)] W fun e w' => ∃ s4 p4 k4 c4 q4 l4 d4, e = .returned (.agg #[.bool s4, .slice p4 k4 c4, .slice q4 l4 d4]) ∧ Hid (QNorm w' (.agg #[.bool s4, .slice p4 k4 c4, .slice q4 l4 d4]) (gdn a pr)) ∧ Below W.heap.size W w')
  (hu : ∀ W, QNorm W (.agg #[.bool sz1, .slice pz1 kz1 cz1, .slice qz1 lz1 dz1]) b → Calls Tryz.prog 176 #[.agg #[.bool sz1, .slice pz1 kz1 cz1, .slice qz1 lz1 dz1], .int .i64 (pr : Int)] W fun e w' => ∃ s4 p4 k4 c4 q4 l4 d4, e = .returned (.agg #[.bool s4, .slice p4 k4 c4, .slice q4 l4 d4]) ∧ Hid (QNorm w' (.agg #[.bool s4, .slice p4 k4 c4, .slice q4 l4 d4]) (gup b pr)) ∧ Below W.heap.size W w') :
  Calls Tryz.prog 116 #[.agg #[.bool s1, .slice p1 k1 c1, .slice q1 l1 d1, .bool sz1, .slice pz1 kz1 cz1, .slice qz1 lz1 dz1, .bool false, .bool false, .bool false], .int .i64 (pr : Int)] w fun e w' => ∃ s3 p3 k3 c3 q3 l3 d3 sz3 pz3 kz3 cz3 qz3 lz3 dz3 x3 y3 e3, e = .returned (.agg #[.bool s3, .slice p3 k3 c3, .slice q3 l3 d3, .bool sz3, .slice pz3 kz3 cz3, .slice qz3 lz3 dz3, .bool x3, .bool y3, .bool e3]) ∧ Hid (JRep w' (.agg #[.bool s3, .slice p3 k3 c3, .slice q3 l3 d3, .bool sz3, .slice pz3 kz3 cz3, .slice qz3 lz3 dz3, .bool x3, .bool y3, .bool e3]) (gdn a pr, gup b pr, false, false, false)) ∧ Below w.heap.size w w' := by
 have HR := hid (And.intro (fun (W : World) (hW : Below w.heap.size w W) => QNorm.below ha hW) (fun (W : World) (hW : Below w.heap.size w W) => QNorm.below hb hW))
 have HD := hid hd
 obtain ⟨ra, hra⟩ : ∃ r, r = gdn a pr := ⟨_, rfl⟩
 rw [← hra] at HD ⊢
 clear hra hd
 have HU := hid hu
 obtain ⟨rb, hrb⟩ : ∃ r, r = gup b pr := ⟨_, rfl⟩
 rw [← hrb] at HU ⊢
 clear hrb hu
 clear ha hb
 obtain ⟨pi, hpi⟩ : ∃ pi : Int, pi = (pr : Int) := ⟨_, rfl⟩
 rw [← hpi] at HD HU ⊢
 clear hpi
 go_enter Tryz.func116, Tryz.ntmps116
 go_wp2_with fail
 have HV := hid (pre2 w [.bool s1, .slice p1 k1 c1, .slice q1 l1 d1, .bool sz1, .slice pz1 kz1 cz1, .slice qz1 lz1 dz1, .bool false, .bool false, .bool false] [.bool false, .slice none 0 0, .slice none 0 0, .bool false, .slice none 0 0, .slice none 0 0, .bool false, .bool false, .bool false] 73 73 nd_J nd_J)
 generalize (w.alloc (.cells #[.bool s1, .slice p1 k1 c1, .slice q1 l1 d1, .bool sz1, .slice pz1 kz1 cz1, .slice qz1 lz1 dz1, .bool false, .bool false, .bool false] 73)).alloc (.cells #[.bool false, .slice none 0 0, .slice none 0 0, .bool false, .slice none 0 0, .slice none 0 0, .bool false, .bool false, .bool false] 73) = W0 at *
 refine (HD.out _ (HR.out.1 _ HV.out.2.2)).mono ?_
 rintro e w1 ⟨s4, p4, k4, c4, q4, l4, d4, rfl, hF1, hB1⟩
 have HE1 := hid (And.intro (HV.out.1.below hB1) (And.intro (HV.out.2.1.below hB1) (HV.out.2.2.trans (hB1.mono HV.out.2.2.size))))
 clear hB1
 obtain ⟨m0, m1, m2, m3, m4, m5, m6, m7, m8, f0, f1, f2, f3, f4, f5, f6, f7, f8⟩ := HE1.out.1.cells9
 go_upto_region 5 with fail
 generalize hW1 : World.setCell _ _ _ = x1
 have hX : Box x1 w.heap.size #[.bool s4, .slice p4 k4 c4, .slice q4 l4 d4, .bool sz1, .slice pz1 kz1 cz1, .slice qz1 lz1 dz1, .bool false, .bool false, .bool false] := by rw [← hW1]; exact Box.stores_at (m := [.bool s1, .slice p1 k1 c1, .slice q1 l1 d1, .bool sz1, .slice pz1 kz1 cz1, .slice qz1 lz1 dz1, .bool false, .bool false, .bool false]) (k := 0) (l := [.bool s4, .slice p4 k4 c4, .slice q4 l4 d4]) HE1.out.1 nd3
 have hY : Box x1 (w.heap.size + 1) _ := Box.of_eq (Box.stores_other (k := 0) (l := [.bool s4, .slice p4 k4 c4, .slice q4 l4 d4]) HE1.out.2.1 (by omega)) hW1
 have hZ : Below w.heap.size w x1 := by rw [← hW1]; exact Below.stores (k := 0) (l := [.bool s4, .slice p4 k4 c4, .slice q4 l4 d4]) HE1.out.2.2 (Nat.le_refl _)
 have hQ : QNorm x1 (.agg #[.bool s4, .slice p4 k4 c4, .slice q4 l4 d4]) ra := by rw [← hW1]; exact QNorm.stores (k := 0) (l := [.bool s4, .slice p4 k4 c4, .slice q4 l4 d4]) hF1.out HE1.out.1 nd3
 have HX1 := hid (And.intro hX (And.intro hY hZ))
 have HQ1 := hid hQ
 clear hX hY hZ hQ hW1 f0 f1 f2 f3 f4 f5 f6 f7 f8 hF1
 clear m0 m1 m2 m3 m4 m5 m6 m7 m8
 obtain ⟨m0, m1, m2, m3, m4, m5, m6, m7, m8, _⟩ := HX1.out.1.cells9
 go_wp2_with fail
 refine (HU.out _ (HR.out.2 _ HX1.out.2.2)).mono ?_
 rintro e w2 ⟨s5, p5, k5, c5, q5, l5, d5, rfl, hF2, hB2⟩
 clear m0 m1 m2 m3 m4 m5 m6 m7 m8
 have HE2 := hid (And.intro (HX1.out.1.below hB2) (And.intro (HX1.out.2.1.below hB2) (HX1.out.2.2.trans (hB2.mono HX1.out.2.2.size))))
 have HL2 := hid (QNorm.below HQ1.out hB2)
 clear hB2
 obtain ⟨m0, m1, m2, m3, m4, m5, m6, m7, m8, f0, f1, f2, f3, f4, f5, f6, f7, f8⟩ := HE2.out.1.cells9
 go_upto_region 7 with fail
 generalize hW2 : World.setCell _ _ _ = x2
 have hX : Box x2 w.heap.size #[.bool s4, .slice p4 k4 c4, .slice q4 l4 d4, .bool s5, .slice p5 k5 c5, .slice q5 l5 d5, .bool false, .bool false, .bool false] := by rw [← hW2]; exact Box.stores_at (m := [.bool s4, .slice p4 k4 c4, .slice q4 l4 d4, .bool sz1, .slice pz1 kz1 cz1, .slice qz1 lz1 dz1, .bool false, .bool false, .bool false]) (k := 3) (l := [.bool s5, .slice p5 k5 c5, .slice q5 l5 d5]) HE2.out.1 nd3
 have hY : Box x2 (w.heap.size + 1) _ := Box.of_eq (Box.stores_other (k := 3) (l := [.bool s5, .slice p5 k5 c5, .slice q5 l5 d5]) HE2.out.2.1 (by omega)) hW2
 have hZ : Below w.heap.size w x2 := by rw [← hW2]; exact Below.stores (k := 3) (l := [.bool s5, .slice p5 k5 c5, .slice q5 l5 d5]) HE2.out.2.2 (Nat.le_refl _)
 have hQ : QNorm x2 (.agg #[.bool s5, .slice p5 k5 c5, .slice q5 l5 d5]) rb := by rw [← hW2]; exact QNorm.stores (k := 3) (l := [.bool s5, .slice p5 k5 c5, .slice q5 l5 d5]) hF2.out HE2.out.1 nd3
 have hL : QNorm x2 (.agg #[.bool s4, .slice p4 k4 c4, .slice q4 l4 d4]) ra := by rw [← hW2]; exact QNorm.stores (k := 3) (l := [.bool s5, .slice p5 k5 c5, .slice q5 l5 d5]) HL2.out HE2.out.1 nd3
 have HX2 := hid (And.intro hX (And.intro hY hZ))
 have HQ2 := hid hQ
 have HM := hid hL
 clear hL
 clear hX hY hZ hQ hW2 f0 f1 f2 f3 f4 f5 f6 f7 f8 hF2
 clear m0 m1 m2 m3 m4 m5 m6 m7 m8
 obtain ⟨m0, m1, m2, m3, m4, m5, m6, m7, m8, _⟩ := HX2.out.1.cells9
 obtain ⟨g0, g1, g2, g3, g4, g5, g6, g7, g8, n0, n1, n2, n3, n4, n5, n6, n7, n8⟩ := HX2.out.2.1.cells9
 go_wp2_with fail
 exact jRounded_ret rfl (HX2.out.2.1.stores [.bool s4, .slice p4 k4 c4, .slice q4 l4 d4, .bool s5, .slice p5 k5 c5, .slice q5 l5 d5, .bool false, .bool false, .bool false] rfl nd_J) ⟨_, _, _, _, _, _, _, _, _, _, _, _, _, _, _, _, _, rfl, hid (JRep.stores (k := 0) (l := [.bool s4, .slice p4 k4 c4, .slice q4 l4 d4, .bool s5, .slice p5 k5 c5, .slice q5 l5 d5, .bool false, .bool false, .bool false]) ⟨_, _, _, _, _, _, _, _, _, _, _, _, _, _, _, _, _, rfl, HM.out, HQ2.out, rfl, rfl, rfl⟩ HX2.out.2.1 nd_J), Below.stores (k := 0) (l := [.bool s4, .slice p4 k4 c4, .slice q4 l4 d4, .bool s5, .slice p5 k5 c5, .slice q5 l5 d5, .bool false, .bool false, .bool false]) HX2.out.2.2 (by omega)⟩
theorem jRounded_tf (s1 : Bool) (p1 : Option Addr) (k1 c1 : Nat) (q1 : Option Addr) (l1 d1 : Nat) (sz1 : Bool) (pz1 : Option Addr) (kz1 cz1 : Nat) (qz1 : Option Addr) (lz1 dz1 : Nat) (pr : Nat) (a b : Bool × Nat × Nat) (w : World) (ha : QNorm w (.agg #[.bool s1, .slice p1 k1 c1, .slice q1 l1 d1]) a) (hb : QNorm w (.agg #[.bool sz1, .slice pz1 kz1 cz1, .slice qz1 lz1 dz1]) b)
  (hu : ∀ W, QNorm W (.agg #[.bool sz1, .slice pz1 kz1 cz1, .slice qz1 lz1 dz1]) b → Calls Tryz.prog 176 #[.agg #[.bool sz1, .slice pz1 kz1 cz1, .slice qz1 lz1 dz1], .int .i64 (pr : Int)] W fun e w' => ∃ s4 p4 k4 c4 q4 l4 d4, e = .returned (.agg #[.bool s4, .slice p4 k4 c4, .slice q4 l4 d4]) ∧ Hid (QNorm w' (.agg #[.bool s4, .slice p4 k4 c4, .slice q4 l4 d4]) (gup b pr)) ∧ Below W.heap.size W w') :
  Calls Tryz.prog 116 #[.agg #[.bool s1, .slice p1 k1 c1, .slice q1 l1 d1, .bool sz1, .slice pz1 kz1 cz1, .slice qz1 lz1 dz1, .bool true, .bool false, .bool false], .int .i64 (pr : Int)] w fun e w' => ∃ s3 p3 k3 c3 q3 l3 d3 sz3 pz3 kz3 cz3 qz3 lz3 dz3 x3 y3 e3, e = .returned (.agg #[.bool s3, .slice p3 k3 c3, .slice q3 l3 d3, .bool sz3, .slice pz3 kz3 cz3, .slice qz3 lz3 dz3, .bool x3, .bool y3, .bool e3]) ∧ Hid (JRep w' (.agg #[.bool s3, .slice p3 k3 c3, .slice q3 l3 d3, .bool sz3, .slice pz3 kz3 cz3, .slice qz3 lz3 dz3, .bool x3, .bool y3, .bool e3]) (a, gup b pr, true, false, false)) ∧ Below w.heap.size w w' := by
 have HR := hid (And.intro (fun (W : World) (hW : Below w.heap.size w W) => QNorm.below ha hW) (fun (W : World) (hW : Below w.heap.size w W) => QNorm.below hb hW))
 have HU := hid hu
 obtain ⟨rb, hrb⟩ : ∃ r, r = gup b pr := ⟨_, rfl⟩
 rw [← hrb] at HU ⊢
 clear hrb hu
 clear ha hb
 obtain ⟨pi, hpi⟩ : ∃ pi : Int, pi = (pr : Int) := ⟨_, rfl⟩
 rw [← hpi] at HU ⊢
 clear hpi
 go_enter Tryz.func116, Tryz.ntmps116
 go_wp2_with fail
 have HV := hid (pre2 w [.bool s1, .slice p1 k1 c1, .slice q1 l1 d1, .bool sz1, .slice pz1 kz1 cz1, .slice qz1 lz1 dz1, .bool true, .bool false, .bool false] [.bool false, .slice none 0 0, .slice none 0 0, .bool false, .slice none 0 0, .slice none 0 0, .bool false, .bool false, .bool false] 73 73 nd_J nd_J)
 generalize (w.alloc (.cells #[.bool s1, .slice p1 k1 c1, .slice q1 l1 d1, .bool sz1, .slice pz1 kz1 cz1, .slice qz1 lz1 dz1, .bool true, .bool false, .bool false] 73)).alloc (.cells #[.bool false, .slice none 0 0, .slice none 0 0, .bool false, .slice none 0 0, .slice none 0 0, .bool false, .bool false, .bool false] 73) = W0 at *
 refine (HU.out _ (HR.out.2 _ HV.out.2.2)).mono ?_
 rintro e w1 ⟨s5, p5, k5, c5, q5, l5, d5, rfl, hF1, hB1⟩
 have HE1 := hid (And.intro (HV.out.1.below hB1) (And.intro (HV.out.2.1.below hB1) (HV.out.2.2.trans (hB1.mono HV.out.2.2.size))))
 clear hB1
 obtain ⟨m0, m1, m2, m3, m4, m5, m6, m7, m8, f0, f1, f2, f3, f4, f5, f6, f7, f8⟩ := HE1.out.1.cells9
 go_upto_region 7 with fail
 generalize hW1 : World.setCell _ _ _ = x1
 have hX : Box x1 w.heap.size #[.bool s1, .slice p1 k1 c1, .slice q1 l1 d1, .bool s5, .slice p5 k5 c5, .slice q5 l5 d5, .bool true, .bool false, .bool false] := by rw [← hW1]; exact Box.stores_at (m := [.bool s1, .slice p1 k1 c1, .slice q1 l1 d1, .bool sz1, .slice pz1 kz1 cz1, .slice qz1 lz1 dz1, .bool true, .bool false, .bool false]) (k := 3) (l := [.bool s5, .slice p5 k5 c5, .slice q5 l5 d5]) HE1.out.1 nd3
 have hY : Box x1 (w.heap.size + 1) _ := Box.of_eq (Box.stores_other (k := 3) (l := [.bool s5, .slice p5 k5 c5, .slice q5 l5 d5]) HE1.out.2.1 (by omega)) hW1
 have hZ : Below w.heap.size w x1 := by rw [← hW1]; exact Below.stores (k := 3) (l := [.bool s5, .slice p5 k5 c5, .slice q5 l5 d5]) HE1.out.2.2 (Nat.le_refl _)
 have hQ : QNorm x1 (.agg #[.bool s5, .slice p5 k5 c5, .slice q5 l5 d5]) rb := by rw [← hW1]; exact QNorm.stores (k := 3) (l := [.bool s5, .slice p5 k5 c5, .slice q5 l5 d5]) hF1.out HE1.out.1 nd3
 have HX1 := hid (And.intro hX (And.intro hY hZ))
 have HQ1 := hid hQ
 clear hX hY hZ hQ hW1 f0 f1 f2 f3 f4 f5 f6 f7 f8 hF1
 clear m0 m1 m2 m3 m4 m5 m6 m7 m8
 obtain ⟨m0, m1, m2, m3, m4, m5, m6, m7, m8, _⟩ := HX1.out.1.cells9
 obtain ⟨g0, g1, g2, g3, g4, g5, g6, g7, g8, n0, n1, n2, n3, n4, n5, n6, n7, n8⟩ := HX1.out.2.1.cells9
 go_wp2_with fail
 exact jRounded_ret rfl (HX1.out.2.1.stores [.bool s1, .slice p1 k1 c1, .slice q1 l1 d1, .bool s5, .slice p5 k5 c5, .slice q5 l5 d5, .bool true, .bool false, .bool false] rfl nd_J) ⟨_, _, _, _, _, _, _, _, _, _, _, _, _, _, _, _, _, rfl, hid (JRep.stores (k := 0) (l := [.bool s1, .slice p1 k1 c1, .slice q1 l1 d1, .bool s5, .slice p5 k5 c5, .slice q5 l5 d5, .bool true, .bool false, .bool false]) ⟨_, _, _, _, _, _, _, _, _, _, _, _, _, _, _, _, _, rfl, (HR.out.1 _ HX1.out.2.2), HQ1.out, rfl, rfl, rfl⟩ HX1.out.2.1 nd_J), Below.stores (k := 0) (l := [.bool s1, .slice p1 k1 c1, .slice q1 l1 d1, .bool s5, .slice p5 k5 c5, .slice q5 l5 d5, .bool true, .bool false, .bool false]) HX1.out.2.2 (by omega)⟩
theorem jRounded_ft (s1 : Bool) (p1 : Option Addr) (k1 c1 : Nat) (q1 : Option Addr) (l1 d1 : Nat) (sz1 : Bool) (pz1 : Option Addr) (kz1 cz1 : Nat) (qz1 : Option Addr) (lz1 dz1 : Nat) (pr : Nat) (a b : Bool × Nat × Nat) (w : World) (ha : QNorm w (.agg #[.bool s1, .slice p1 k1 c1, .slice q1 l1 d1]) a) (hb : QNorm w (.agg #[.bool sz1, .slice pz1 kz1 cz1, .slice qz1 lz1 dz1]) b)
  (hd : ∀ W, QNorm W (.agg #[.bool s1, .slice p1 k1 c1, .slice q1 l1 d1]) a → Calls Tryz.prog 175 #[.agg #[.bool s1, .slice p1 k1 c1, .slice q1 l1 d1], .int .i64 (pr : Int)] W fun e w' => ∃ s4 p4 k4 c4 q4 l4 d4, e = .returned (.agg #[.bool s4, .slice p4 k4 c4, .slice q4 l4 d4]) ∧ Hid (QNorm w' (.agg #[.bool s4, .slice p4 k4 c4, .slice q4 l4 d4]) (gdn a pr)) ∧ Below W.heap.size W w') :
  Calls Tryz.prog 116 #[.agg #[.bool s1, .slice p1 k1 c1, .slice q1 l1 d1, .bool sz1, .slice pz1 kz1 cz1, .slice qz1 lz1 dz1, .bool false, .bool true, .bool false], .int .i64 (pr : Int)] w fun e w' => ∃ s3 p3 k3 c3 q3 l3 d3 sz3 pz3 kz3 cz3 qz3 lz3 dz3 x3 y3 e3, e = .returned (.agg #[.bool s3, .slice p3 k3 c3, .slice q3 l3 d3, .bool sz3, .slice pz3 kz3 cz3, .slice qz3 lz3 dz3, .bool x3, .bool y3, .bool e3]) ∧ Hid (JRep w' (.agg #[.bool s3, .slice p3 k3 c3, .slice q3 l3 d3, .bool sz3, .slice pz3 kz3 cz3, .slice qz3 lz3 dz3, .bool x3, .bool y3, .bool e3]) (gdn a pr, b, false, true, false)) ∧ Below w.heap.size w w' := by
 have HR := hid (And.intro (fun (W : World) (hW : Below w.heap.size w W) => QNorm.below ha hW) (fun (W : World) (hW : Below w.heap.size w W) => QNorm.below hb hW))
 have HD := hid hd
 obtain ⟨ra, hra⟩ : ∃ r, r = gdn a pr := ⟨_, rfl⟩
 rw [← hra] at HD ⊢
 clear hra hd
 clear ha hb
 obtain ⟨pi, hpi⟩ : ∃ pi : Int, pi = (pr : Int) := ⟨_, rfl⟩
 rw [← hpi] at HD ⊢
 clear hpi
 go_enter Tryz.func116, Tryz.ntmps116
 go_wp2_with fail
 have HV := hid (pre2 w [.bool s1, .slice p1 k1 c1, .slice q1 l1 d1, .bool sz1, .slice pz1 kz1 cz1, .slice qz1 lz1 dz1, .bool false, .bool true, .bool false] [.bool false, .slice none 0 0, .slice none 0 0, .bool false, .slice none 0 0, .slice none 0 0, .bool false, .bool false, .bool false] 73 73 nd_J nd_J)
 generalize (w.alloc (.cells #[.bool s1, .slice p1 k1 c1, .slice q1 l1 d1, .bool sz1, .slice pz1 kz1 cz1, .slice qz1 lz1 dz1, .bool false, .bool true, .bool false] 73)).alloc (.cells #[.bool false, .slice none 0 0, .slice none 0 0, .bool false, .slice none 0 0, .slice none 0 0, .bool false, .bool false, .bool false] 73) = W0 at *
 refine (HD.out _ (HR.out.1 _ HV.out.2.2)).mono ?_
 rintro e w1 ⟨s4, p4, k4, c4, q4, l4, d4, rfl, hF1, hB1⟩
 have HE1 := hid (And.intro (HV.out.1.below hB1) (And.intro (HV.out.2.1.below hB1) (HV.out.2.2.trans (hB1.mono HV.out.2.2.size))))
 clear hB1
 obtain ⟨m0, m1, m2, m3, m4, m5, m6, m7, m8, f0, f1, f2, f3, f4, f5, f6, f7, f8⟩ := HE1.out.1.cells9
 go_upto_region 7 with fail
 generalize hW1 : World.setCell _ _ _ = x1
 have hX : Box x1 w.heap.size #[.bool s4, .slice p4 k4 c4, .slice q4 l4 d4, .bool sz1, .slice pz1 kz1 cz1, .slice qz1 lz1 dz1, .bool false, .bool true, .bool false] := by rw [← hW1]; exact Box.stores_at (m := [.bool s1, .slice p1 k1 c1, .slice q1 l1 d1, .bool sz1, .slice pz1 kz1 cz1, .slice qz1 lz1 dz1, .bool false, .bool true, .bool false]) (k := 0) (l := [.bool s4, .slice p4 k4 c4, .slice q4 l4 d4]) HE1.out.1 nd3
 have hY : Box x1 (w.heap.size + 1) _ := Box.of_eq (Box.stores_other (k := 0) (l := [.bool s4, .slice p4 k4 c4, .slice q4 l4 d4]) HE1.out.2.1 (by omega)) hW1
 have hZ : Below w.heap.size w x1 := by rw [← hW1]; exact Below.stores (k := 0) (l := [.bool s4, .slice p4 k4 c4, .slice q4 l4 d4]) HE1.out.2.2 (Nat.le_refl _)
 have hQ : QNorm x1 (.agg #[.bool s4, .slice p4 k4 c4, .slice q4 l4 d4]) ra := by rw [← hW1]; exact QNorm.stores (k := 0) (l := [.bool s4, .slice p4 k4 c4, .slice q4 l4 d4]) hF1.out HE1.out.1 nd3
 have HX1 := hid (And.intro hX (And.intro hY hZ))
 have HQ1 := hid hQ
 clear hX hY hZ hQ hW1 f0 f1 f2 f3 f4 f5 f6 f7 f8 hF1
 clear m0 m1 m2 m3 m4 m5 m6 m7 m8
 obtain ⟨m0, m1, m2, m3, m4, m5, m6, m7, m8, _⟩ := HX1.out.1.cells9
 obtain ⟨g0, g1, g2, g3, g4, g5, g6, g7, g8, n0, n1, n2, n3, n4, n5, n6, n7, n8⟩ := HX1.out.2.1.cells9
 go_wp2_with fail
 exact jRounded_ret rfl (HX1.out.2.1.stores [.bool s4, .slice p4 k4 c4, .slice q4 l4 d4, .bool sz1, .slice pz1 kz1 cz1, .slice qz1 lz1 dz1, .bool false, .bool true, .bool false] rfl nd_J) ⟨_, _, _, _, _, _, _, _, _, _, _, _, _, _, _, _, _, rfl, hid (JRep.stores (k := 0) (l := [.bool s4, .slice p4 k4 c4, .slice q4 l4 d4, .bool sz1, .slice pz1 kz1 cz1, .slice qz1 lz1 dz1, .bool false, .bool true, .bool false]) ⟨_, _, _, _, _, _, _, _, _, _, _, _, _, _, _, _, _, rfl, HQ1.out, (HR.out.2 _ HX1.out.2.2), rfl, rfl, rfl⟩ HX1.out.2.1 nd_J), Below.stores (k := 0) (l := [.bool s4, .slice p4 k4 c4, .slice q4 l4 d4, .bool sz1, .slice pz1 kz1 cz1, .slice qz1 lz1 dz1, .bool false, .bool true, .bool false]) HX1.out.2.2 (by omega)⟩
theorem jRounded_tt (s1 : Bool) (p1 : Option Addr) (k1 c1 : Nat) (q1 : Option Addr) (l1 d1 : Nat) (sz1 : Bool) (pz1 : Option Addr) (kz1 cz1 : Nat) (qz1 : Option Addr) (lz1 dz1 : Nat) (pr : Nat) (a b : Bool × Nat × Nat) (w : World) (ha : QNorm w (.agg #[.bool s1, .slice p1 k1 c1, .slice q1 l1 d1]) a) (hb : QNorm w (.agg #[.bool sz1, .slice pz1 kz1 cz1, .slice qz1 lz1 dz1]) b) :
  Calls Tryz.prog 116 #[.agg #[.bool s1, .slice p1 k1 c1, .slice q1 l1 d1, .bool sz1, .slice pz1 kz1 cz1, .slice qz1 lz1 dz1, .bool true, .bool true, .bool false], .int .i64 (pr : Int)] w fun e w' => ∃ s3 p3 k3 c3 q3 l3 d3 sz3 pz3 kz3 cz3 qz3 lz3 dz3 x3 y3 e3, e = .returned (.agg #[.bool s3, .slice p3 k3 c3, .slice q3 l3 d3, .bool sz3, .slice pz3 kz3 cz3, .slice qz3 lz3 dz3, .bool x3, .bool y3, .bool e3]) ∧ Hid (JRep w' (.agg #[.bool s3, .slice p3 k3 c3, .slice q3 l3 d3, .bool sz3, .slice pz3 kz3 cz3, .slice qz3 lz3 dz3, .bool x3, .bool y3, .bool e3]) (a, b, true, true, false)) ∧ Below w.heap.size w w' := by
 have HR := hid (And.intro (fun (W : World) (hW : Below w.heap.size w W) => QNorm.below ha hW) (fun (W : World) (hW : Below w.heap.size w W) => QNorm.below hb hW))
 clear ha hb
 obtain ⟨pi, hpi⟩ : ∃ pi : Int, pi = (pr : Int) := ⟨_, rfl⟩
 rw [← hpi]
 clear hpi
 go_enter Tryz.func116, Tryz.ntmps116
 go_upto_region 7 with fail
 have HV := hid (pre2 w [.bool s1, .slice p1 k1 c1, .slice q1 l1 d1, .bool sz1, .slice pz1 kz1 cz1, .slice qz1 lz1 dz1, .bool true, .bool true, .bool false] [.bool false, .slice none 0 0, .slice none 0 0, .bool false, .slice none 0 0, .slice none 0 0, .bool false, .bool false, .bool false] 73 73 nd_J nd_J)
 generalize (w.alloc (.cells #[.bool s1, .slice p1 k1 c1, .slice q1 l1 d1, .bool sz1, .slice pz1 kz1 cz1, .slice qz1 lz1 dz1, .bool true, .bool true, .bool false] 73)).alloc (.cells #[.bool false, .slice none 0 0, .slice none 0 0, .bool false, .slice none 0 0, .slice none 0 0, .bool false, .bool false, .bool false] 73) = W0 at *
 obtain ⟨m0, m1, m2, m3, m4, m5, m6, m7, m8, _⟩ := HV.out.1.cells9
 obtain ⟨g0, g1, g2, g3, g4, g5, g6, g7, g8, n0, n1, n2, n3, n4, n5, n6, n7, n8⟩ := HV.out.2.1.cells9
 go_wp2_with fail
 exact jRounded_ret rfl (HV.out.2.1.stores [.bool s1, .slice p1 k1 c1, .slice q1 l1 d1, .bool sz1, .slice pz1 kz1 cz1, .slice qz1 lz1 dz1, .bool true, .bool true, .bool false] rfl nd_J) ⟨_, _, _, _, _, _, _, _, _, _, _, _, _, _, _, _, _, rfl, hid (JRep.stores (k := 0) (l := [.bool s1, .slice p1 k1 c1, .slice q1 l1 d1, .bool sz1, .slice pz1 kz1 cz1, .slice qz1 lz1 dz1, .bool true, .bool true, .bool false]) ⟨_, _, _, _, _, _, _, _, _, _, _, _, _, _, _, _, _, rfl, (HR.out.1 _ HV.out.2.2), (HR.out.2 _ HV.out.2.2), rfl, rfl, rfl⟩ HV.out.2.1 nd_J), Below.stores (k := 0) (l := [.bool s1, .slice p1 k1 c1, .slice q1 l1 d1, .bool sz1, .slice pz1 kz1 cz1, .slice qz1 lz1 dz1, .bool true, .bool true, .bool false]) HV.out.2.2 (by omega)⟩
theorem jDone_ret {W : World} {B : Nat} {a0 a1 a2 a3 a4 a5 a6 a7 ev : Value} {tm : Array Value} {R : Ending → World → Prop} (h2 : tm[2]?.getD undef = .pointer (some ⟨B, 0, none⟩)) (h3 : tm[3]?.getD undef = ev) (hV : Box W B #[a0, a1, a2, a3, a4, a5, a6, a7]) (hR : R (.returned (.tuple #[.agg #[a0, a1, a2, a3, a4, a5, a6, a7], ev])) W) :
  bodyPost Tryz.prog Tryz.f115 R .ret { tmps := tm, defers := [] } W := by
 obtain ⟨g0, g1, g2, g3, g4, g5, g6, g7, _⟩ := hV.cells8
 exact bodyPost_ret (v := .tuple #[.agg #[a0, a1, a2, a3, a4, a5, a6, a7], ev]) (by simp [results, Tryz.results115, go_sem, h2, h3, g0, g1, g2, g3, g4, g5, g6, g7]) rfl hR
theorem jDone_b1 (s1 : Bool) (p1 : Option Addr) (k1 c1 : Nat) (q1 : Option Addr) (l1 d1 : Nat) (sz1 : Bool) (pz1 : Option Addr) (kz1 cz1 : Nat) (qz1 : Option Addr) (lz1 dz1 : Nat) (x1 : Bool) (y1 : Bool) (e1 : Bool) (r : (Bool × Nat × Nat) × (Bool × Nat × Nat) × Bool × Bool × Bool) (w : World) (h : JRep w (.agg #[.bool s1, .slice p1 k1 c1, .slice q1 l1 d1, .bool sz1, .slice pz1 kz1 cz1, .slice qz1 lz1 dz1, .bool x1, .bool y1, .bool e1]) r) (h1 : big r.1.2.1 r.1.2.2 = true) :
  Calls Tryz.prog 115 #[.agg #[.bool s1, .slice p1 k1 c1, .slice q1 l1 d1, .bool sz1, .slice pz1 kz1 cz1, .slice qz1 lz1 dz1, .bool x1, .bool y1, .bool e1]] w fun e w' => ∃ s5 p5 k5 c5 q5 l5 d5 sz5 pz5 kz5 cz5 qz5 lz5 dz5 x5 y5, e = .returned (.tuple #[.agg #[.bool s5, .slice p5 k5 c5, .slice q5 l5 d5, .bool sz5, .slice pz5 kz5 cz5, .slice qz5 lz5 dz5, .bool x5, .bool y5], .int .i64 1]) ∧ Hid (GRep w' (.agg #[.bool s5, .slice p5 k5 c5, .slice q5 l5 d5, .bool sz5, .slice pz5 kz5 cz5, .slice qz5 lz5 dz5, .bool x5, .bool y5]) gzero) ∧ Below w.heap.size w w' := by
 have hp := JRep.parts s1 p1 k1 c1 q1 l1 d1 sz1 pz1 kz1 cz1 qz1 lz1 dz1 x1 y1 e1 h
 have HL := hid (fun (W : World) (hW : Below w.heap.size w W) => Over_any (.agg #[.bool s1, .slice p1 k1 c1, .slice q1 l1 d1]) r.1 W (hp.1.below hW))
 rw [h1] at HL
 clear h hp h1
 go_enter Tryz.func115, Tryz.ntmps115
 go_wp2_with fail
 have HV := hid (pre2 w [.bool s1, .slice p1 k1 c1, .slice q1 l1 d1, .bool sz1, .slice pz1 kz1 cz1, .slice qz1 lz1 dz1, .bool x1, .bool y1, .bool e1] [.bool false, .slice none 0 0, .slice none 0 0, .bool false, .slice none 0 0, .slice none 0 0, .bool false, .bool false] 73 26 nd_J nd8)
 generalize (w.alloc (.cells #[.bool s1, .slice p1 k1 c1, .slice q1 l1 d1, .bool sz1, .slice pz1 kz1 cz1, .slice qz1 lz1 dz1, .bool x1, .bool y1, .bool e1] 73)).alloc (.cells #[.bool false, .slice none 0 0, .slice none 0 0, .bool false, .slice none 0 0, .slice none 0 0, .bool false, .bool false] 26) = W0 at *
 refine (HL.out _ HV.out.2.2).mono ?_
 rintro e w1 ⟨rfl, hB1⟩
 have HE := hid (And.intro (HV.out.2.1.below hB1) (And.intro (HV.out.1.below hB1) (HV.out.2.2.trans (hB1.mono HV.out.2.2.size))))
 clear hB1
 obtain ⟨g0, g1, g2, g3, g4, g5, g6, g7, f0, f1, f2, f3, f4, f5, f6, f7⟩ := HE.out.1.cells8
 go_wp2_with fail
 exact jDone_ret rfl rfl (HE.out.1.stores [.bool false, .slice none 0 0, .slice none 0 0, .bool false, .slice none 0 0, .slice none 0 0, .bool false, .bool false] rfl nd8) ⟨_, _, _, _, _, _, _, _, _, _, _, _, _, _, _, _, rfl, hid (GRep.stores (k := 0) (l := [.bool false, .slice none 0 0, .slice none 0 0, .bool false, .slice none 0 0, .slice none 0 0, .bool false, .bool false]) (GRep.zero _) HE.out.1 nd8), Below.stores (k := 0) (l := [.bool false, .slice none 0 0, .slice none 0 0, .bool false, .slice none 0 0, .slice none 0 0, .bool false, .bool false]) HE.out.2.2 (by omega)⟩
theorem jDone_b2 (s1 : Bool) (p1 : Option Addr) (k1 c1 : Nat) (q1 : Option Addr) (l1 d1 : Nat) (sz1 : Bool) (pz1 : Option Addr) (kz1 cz1 : Nat) (qz1 : Option Addr) (lz1 dz1 : Nat) (x1 : Bool) (y1 : Bool) (e1 : Bool) (r : (Bool × Nat × Nat) × (Bool × Nat × Nat) × Bool × Bool × Bool) (w : World) (h : JRep w (.agg #[.bool s1, .slice p1 k1 c1, .slice q1 l1 d1, .bool sz1, .slice pz1 kz1 cz1, .slice qz1 lz1 dz1, .bool x1, .bool y1, .bool e1]) r) (h1 : big r.1.2.1 r.1.2.2 = false) (h2 : big r.2.1.2.1 r.2.1.2.2 = true) :
  Calls Tryz.prog 115 #[.agg #[.bool s1, .slice p1 k1 c1, .slice q1 l1 d1, .bool sz1, .slice pz1 kz1 cz1, .slice qz1 lz1 dz1, .bool x1, .bool y1, .bool e1]] w fun e w' => ∃ s5 p5 k5 c5 q5 l5 d5 sz5 pz5 kz5 cz5 qz5 lz5 dz5 x5 y5, e = .returned (.tuple #[.agg #[.bool s5, .slice p5 k5 c5, .slice q5 l5 d5, .bool sz5, .slice pz5 kz5 cz5, .slice qz5 lz5 dz5, .bool x5, .bool y5], .int .i64 1]) ∧ Hid (GRep w' (.agg #[.bool s5, .slice p5 k5 c5, .slice q5 l5 d5, .bool sz5, .slice pz5 kz5 cz5, .slice qz5 lz5 dz5, .bool x5, .bool y5]) gzero) ∧ Below w.heap.size w w' := by
 have hp := JRep.parts s1 p1 k1 c1 q1 l1 d1 sz1 pz1 kz1 cz1 qz1 lz1 dz1 x1 y1 e1 h
 have HL := hid (fun (W : World) (hW : Below w.heap.size w W) => Over_any (.agg #[.bool s1, .slice p1 k1 c1, .slice q1 l1 d1]) r.1 W (hp.1.below hW))
 rw [h1] at HL
 have HH := hid (fun (W : World) (hW : Below w.heap.size w W) => Over_any (.agg #[.bool sz1, .slice pz1 kz1 cz1, .slice qz1 lz1 dz1]) r.2.1 W (hp.2.1.below hW))
 rw [h2] at HH
 clear h hp h1 h2
 go_enter Tryz.func115, Tryz.ntmps115
 go_wp2_with fail
 have HV := hid (pre2 w [.bool s1, .slice p1 k1 c1, .slice q1 l1 d1, .bool sz1, .slice pz1 kz1 cz1, .slice qz1 lz1 dz1, .bool x1, .bool y1, .bool e1] [.bool false, .slice none 0 0, .slice none 0 0, .bool false, .slice none 0 0, .slice none 0 0, .bool false, .bool false] 73 26 nd_J nd8)
 generalize (w.alloc (.cells #[.bool s1, .slice p1 k1 c1, .slice q1 l1 d1, .bool sz1, .slice pz1 kz1 cz1, .slice qz1 lz1 dz1, .bool x1, .bool y1, .bool e1] 73)).alloc (.cells #[.bool false, .slice none 0 0, .slice none 0 0, .bool false, .slice none 0 0, .slice none 0 0, .bool false, .bool false] 26) = W0 at *
 refine (HL.out _ HV.out.2.2).mono ?_
 rintro e w1 ⟨rfl, hB1⟩
 have HE := hid (And.intro (HV.out.2.1.below hB1) (And.intro (HV.out.1.below hB1) (HV.out.2.2.trans (hB1.mono HV.out.2.2.size))))
 clear hB1
 obtain ⟨m0, m1, m2, m3, m4, m5, m6, m7, m8, _⟩ := HE.out.2.1.cells9
 go_wp2_with fail
 refine (HH.out _ HE.out.2.2).mono ?_
 rintro e w2 ⟨rfl, hB2⟩
 have HE2 := hid (And.intro (HE.out.1.below hB2) (And.intro (HE.out.2.1.below hB2) (HE.out.2.2.trans (hB2.mono HE.out.2.2.size))))
 clear hB2 m0 m1 m2 m3 m4 m5 m6 m7 m8
 obtain ⟨g0, g1, g2, g3, g4, g5, g6, g7, f0, f1, f2, f3, f4, f5, f6, f7⟩ := HE2.out.1.cells8
 go_wp2_with fail
 exact jDone_ret rfl rfl (HE2.out.1.stores [.bool false, .slice none 0 0, .slice none 0 0, .bool false, .slice none 0 0, .slice none 0 0, .bool false, .bool false] rfl nd8) ⟨_, _, _, _, _, _, _, _, _, _, _, _, _, _, _, _, rfl, hid (GRep.stores (k := 0) (l := [.bool false, .slice none 0 0, .slice none 0 0, .bool false, .slice none 0 0, .slice none 0 0, .bool false, .bool false]) (GRep.zero _) HE2.out.1 nd8), Below.stores (k := 0) (l := [.bool false, .slice none 0 0, .slice none 0 0, .bool false, .slice none 0 0, .slice none 0 0, .bool false, .bool false]) HE2.out.2.2 (by omega)⟩
theorem jDone_ok (s1 : Bool) (p1 : Option Addr) (k1 c1 : Nat) (q1 : Option Addr) (l1 d1 : Nat) (sz1 : Bool) (pz1 : Option Addr) (kz1 cz1 : Nat) (qz1 : Option Addr) (lz1 dz1 : Nat) (x1 : Bool) (y1 : Bool) (e1 : Bool) (r : (Bool × Nat × Nat) × (Bool × Nat × Nat) × Bool × Bool × Bool) (w : World) (h : JRep w (.agg #[.bool s1, .slice p1 k1 c1, .slice q1 l1 d1, .bool sz1, .slice pz1 kz1 cz1, .slice qz1 lz1 dz1, .bool x1, .bool y1, .bool e1]) r) (h1 : big r.1.2.1 r.1.2.2 = false) (h2 : big r.2.1.2.1 r.2.1.2.2 = false) (hb : JBd r) :
  Calls Tryz.prog 115 #[.agg #[.bool s1, .slice p1 k1 c1, .slice q1 l1 d1, .bool sz1, .slice pz1 kz1 cz1, .slice qz1 lz1 dz1, .bool x1, .bool y1, .bool e1]] w fun e w' => ∃ s5 p5 k5 c5 q5 l5 d5 sz5 pz5 kz5 cz5 qz5 lz5 dz5 x5 y5, e = .returned (.tuple #[.agg #[.bool s5, .slice p5 k5 c5, .slice q5 l5 d5, .bool sz5, .slice pz5 kz5 cz5, .slice qz5 lz5 dz5, .bool x5, .bool y5], .int .i64 0]) ∧ Hid (GRep w' (.agg #[.bool s5, .slice p5 k5 c5, .slice q5 l5 d5, .bool sz5, .slice pz5 kz5 cz5, .slice qz5 lz5 dz5, .bool x5, .bool y5]) (japi r)) ∧ Below w.heap.size w w' := by
 have hp := JRep.parts s1 p1 k1 c1 q1 l1 d1 sz1 pz1 kz1 cz1 qz1 lz1 dz1 x1 y1 e1 h
 have HL := hid (fun (W : World) (hW : Below w.heap.size w W) => Over_any (.agg #[.bool s1, .slice p1 k1 c1, .slice q1 l1 d1]) r.1 W (hp.1.below hW))
 rw [h1] at HL
 have HH := hid (fun (W : World) (hW : Below w.heap.size w W) => Over_any (.agg #[.bool sz1, .slice pz1 kz1 cz1, .slice qz1 lz1 dz1]) r.2.1 W (hp.2.1.below hW))
 rw [h2] at HH
 have HA := hid (fun (W : World) (hW : Below w.heap.size w W) => jApi_any s1 p1 k1 c1 q1 l1 d1 sz1 pz1 kz1 cz1 qz1 lz1 dz1 x1 y1 e1 r W (h.below hW) hb)
 obtain ⟨D, hD⟩ : ∃ D, D = japi r := ⟨_, rfl⟩
 rw [← hD] at HA ⊢
 clear hD hb
 clear h hp h1 h2
 go_enter Tryz.func115, Tryz.ntmps115
 go_wp2_with fail
 have HV := hid (pre2 w [.bool s1, .slice p1 k1 c1, .slice q1 l1 d1, .bool sz1, .slice pz1 kz1 cz1, .slice qz1 lz1 dz1, .bool x1, .bool y1, .bool e1] [.bool false, .slice none 0 0, .slice none 0 0, .bool false, .slice none 0 0, .slice none 0 0, .bool false, .bool false] 73 26 nd_J nd8)
 generalize (w.alloc (.cells #[.bool s1, .slice p1 k1 c1, .slice q1 l1 d1, .bool sz1, .slice pz1 kz1 cz1, .slice qz1 lz1 dz1, .bool x1, .bool y1, .bool e1] 73)).alloc (.cells #[.bool false, .slice none 0 0, .slice none 0 0, .bool false, .slice none 0 0, .slice none 0 0, .bool false, .bool false] 26) = W0 at *
 refine (HL.out _ HV.out.2.2).mono ?_
 rintro e w1 ⟨rfl, hB1⟩
 have HE := hid (And.intro (HV.out.2.1.below hB1) (And.intro (HV.out.1.below hB1) (HV.out.2.2.trans (hB1.mono HV.out.2.2.size))))
 clear hB1
 obtain ⟨m0, m1, m2, m3, m4, m5, m6, m7, m8, _⟩ := HE.out.2.1.cells9
 go_wp2_with fail
 refine (HH.out _ HE.out.2.2).mono ?_
 rintro e w2 ⟨rfl, hB2⟩
 have HE2 := hid (And.intro (HE.out.1.below hB2) (And.intro (HE.out.2.1.below hB2) (HE.out.2.2.trans (hB2.mono HE.out.2.2.size))))
 clear hB2 m0 m1 m2 m3 m4 m5 m6 m7 m8
 obtain ⟨m0, m1, m2, m3, m4, m5, m6, m7, m8, _⟩ := HE2.out.2.1.cells9
 go_wp2_with fail
 refine (HA.out _ HE2.out.2.2).mono ?_
 rintro e w3 ⟨s5, p5, k5, c5, q5, l5, d5, sz5, pz5, kz5, cz5, qz5, lz5, dz5, x5, y5, rfl, hG, hB3⟩
 have HE3 := hid (And.intro (HE2.out.1.below hB3) (HE2.out.2.2.trans (hB3.mono HE2.out.2.2.size)))
 clear hB3 m0 m1 m2 m3 m4 m5 m6 m7 m8
 obtain ⟨g0, g1, g2, g3, g4, g5, g6, g7, f0, f1, f2, f3, f4, f5, f6, f7⟩ := HE3.out.1.cells8
 go_wp2_with fail
 exact jDone_ret rfl rfl (HE3.out.1.stores [.bool s5, .slice p5 k5 c5, .slice q5 l5 d5, .bool sz5, .slice pz5 kz5 cz5, .slice qz5 lz5 dz5, .bool x5, .bool y5] rfl nd8) ⟨s5, p5, k5, c5, q5, l5, d5, sz5, pz5, kz5, cz5, qz5, lz5, dz5, x5, y5, rfl, hid (GRep.stores (k := 0) (l := [.bool s5, .slice p5 k5 c5, .slice q5 l5 d5, .bool sz5, .slice pz5 kz5 cz5, .slice qz5 lz5 dz5, .bool x5, .bool y5]) hG.out HE3.out.1 nd8), Below.stores (k := 0) (l := [.bool s5, .slice p5 k5 c5, .slice q5 l5 d5, .bool sz5, .slice pz5 kz5 cz5, .slice qz5 lz5 dz5, .bool x5, .bool y5]) HE3.out.2 (by omega)⟩
def jbig (r : (Bool × Nat × Nat) × (Bool × Nat × Nat) × Bool × Bool × Bool) : Bool := big r.1.2.1 r.1.2.2 || big r.2.1.2.1 r.2.1.2.2
theorem jDone_any (s1 : Bool) (p1 : Option Addr) (k1 c1 : Nat) (q1 : Option Addr) (l1 d1 : Nat) (sz1 : Bool) (pz1 : Option Addr) (kz1 cz1 : Nat) (qz1 : Option Addr) (lz1 dz1 : Nat) (x1 : Bool) (y1 : Bool) (e1 : Bool) (r : (Bool × Nat × Nat) × (Bool × Nat × Nat) × Bool × Bool × Bool) (w : World) (h : JRep w (.agg #[.bool s1, .slice p1 k1 c1, .slice q1 l1 d1, .bool sz1, .slice pz1 kz1 cz1, .slice qz1 lz1 dz1, .bool x1, .bool y1, .bool e1]) r) (hb : JBd r) :
  Calls Tryz.prog 115 #[.agg #[.bool s1, .slice p1 k1 c1, .slice q1 l1 d1, .bool sz1, .slice pz1 kz1 cz1, .slice qz1 lz1 dz1, .bool x1, .bool y1, .bool e1]] w fun e w' => ∃ s5 p5 k5 c5 q5 l5 d5 sz5 pz5 kz5 cz5 qz5 lz5 dz5 x5 y5, e = .returned (.tuple #[.agg #[.bool s5, .slice p5 k5 c5, .slice q5 l5 d5, .bool sz5, .slice pz5 kz5 cz5, .slice qz5 lz5 dz5, .bool x5, .bool y5], .int .i64 (if jbig r then 1 else 0)]) ∧ Hid (GRep w' (.agg #[.bool s5, .slice p5 k5 c5, .slice q5 l5 d5, .bool sz5, .slice pz5 kz5 cz5, .slice qz5 lz5 dz5, .bool x5, .bool y5]) (if jbig r then gzero else japi r)) ∧ Below w.heap.size w w' := by
 unfold jbig
 cases h1 : big r.1.2.1 r.1.2.2
 ·cases h2 : big r.2.1.2.1 r.2.1.2.2
  ·exact jDone_ok s1 p1 k1 c1 q1 l1 d1 sz1 pz1 kz1 cz1 qz1 lz1 dz1 x1 y1 e1 r w h h1 h2 hb
  ·exact jDone_b2 s1 p1 k1 c1 q1 l1 d1 sz1 pz1 kz1 cz1 qz1 lz1 dz1 x1 y1 e1 r w h h1 h2
 ·exact jDone_b1 s1 p1 k1 c1 q1 l1 d1 sz1 pz1 kz1 cz1 qz1 lz1 dz1 x1 y1 e1 r w h h1
theorem jRounded_none (s1 : Bool) (p1 : Option Addr) (k1 c1 : Nat) (q1 : Option Addr) (l1 d1 : Nat) (sz1 : Bool) (pz1 : Option Addr) (kz1 cz1 : Nat) (qz1 : Option Addr) (lz1 dz1 : Nat) (x1 : Bool) (y1 : Bool) (e1 : Bool) (x : (Bool × Nat × Nat) × (Bool × Nat × Nat) × Bool × Bool × Bool) (pr : Nat) (w : World) (h : JRep w (.agg #[.bool s1, .slice p1 k1 c1, .slice q1 l1 d1, .bool sz1, .slice pz1 kz1 cz1, .slice qz1 lz1 dz1, .bool x1, .bool y1, .bool e1]) x) (he : x.2.2.2.2 = true) :
  Calls Tryz.prog 116 #[.agg #[.bool s1, .slice p1 k1 c1, .slice q1 l1 d1, .bool sz1, .slice pz1 kz1 cz1, .slice qz1 lz1 dz1, .bool x1, .bool y1, .bool e1], .int .i64 (pr : Int)] w fun e w' => ∃ s3 p3 k3 c3 q3 l3 d3 sz3 pz3 kz3 cz3 qz3 lz3 dz3 x3 y3 e3, e = .returned (.agg #[.bool s3, .slice p3 k3 c3, .slice q3 l3 d3, .bool sz3, .slice pz3 kz3 cz3, .slice qz3 lz3 dz3, .bool x3, .bool y3, .bool e3]) ∧ Hid (JRep w' (.agg #[.bool s3, .slice p3 k3 c3, .slice q3 l3 d3, .bool sz3, .slice pz3 kz3 cz3, .slice qz3 lz3 dz3, .bool x3, .bool y3, .bool e3]) (jround x pr)) ∧ Below w.heap.size w w' := by
 have hee := (JRep.parts s1 p1 k1 c1 q1 l1 d1 sz1 pz1 kz1 cz1 qz1 lz1 dz1 x1 y1 e1 h).2.2.2.2
 rw [he] at hee
 subst hee
 have hX : jround x pr = x := by unfold jround; rw [he]; rfl
 rw [hX]
 have HJ := hid h
 clear h he hX
 go_enter Tryz.func116, Tryz.ntmps116
 go_upto_region 2 with fail
 have HV := hid (pre2 w [.bool s1, .slice p1 k1 c1, .slice q1 l1 d1, .bool sz1, .slice pz1 kz1 cz1, .slice qz1 lz1 dz1, .bool x1, .bool y1, .bool true] [.bool false, .slice none 0 0, .slice none 0 0, .bool false, .slice none 0 0, .slice none 0 0, .bool false, .bool false, .bool false] 73 73 nd_J nd_J)
 generalize (w.alloc (.cells #[.bool s1, .slice p1 k1 c1, .slice q1 l1 d1, .bool sz1, .slice pz1 kz1 cz1, .slice qz1 lz1 dz1, .bool x1, .bool y1, .bool true] 73)).alloc (.cells #[.bool false, .slice none 0 0, .slice none 0 0, .bool false, .slice none 0 0, .slice none 0 0, .bool false, .bool false, .bool false] 73) = W0 at *
 obtain ⟨m0, m1, m2, m3, m4, m5, m6, m7, m8, _⟩ := HV.out.1.cells9
 obtain ⟨g0, g1, g2, g3, g4, g5, g6, g7, g8, f0, f1, f2, f3, f4, f5, f6, f7, f8⟩ := HV.out.2.1.cells9
 go_wp2_with fail
 exact jRounded_ret rfl (HV.out.2.1.stores [.bool s1, .slice p1 k1 c1, .slice q1 l1 d1, .bool sz1, .slice pz1 kz1 cz1, .slice qz1 lz1 dz1, .bool x1, .bool y1, .bool true] rfl nd_J) ⟨_, _, _, _, _, _, _, _, _, _, _, _, _, _, _, _, _, rfl, hid (JRep.stores (k := 0) (l := [.bool s1, .slice p1 k1 c1, .slice q1 l1 d1, .bool sz1, .slice pz1 kz1 cz1, .slice qz1 lz1 dz1, .bool x1, .bool y1, .bool true]) (HJ.out.below HV.out.2.2) HV.out.2.1 nd_J), Below.stores (k := 0) (l := [.bool s1, .slice p1 k1 c1, .slice q1 l1 d1, .bool sz1, .slice pz1 kz1 cz1, .slice qz1 lz1 dz1, .bool x1, .bool y1, .bool true]) HV.out.2.2 (by omega)⟩
end Go.Proofs.YtpdpabpdejmdbaaGreatDoor
