/- Operations whose result has a large number; Round of the program. -/
import Derived.Test.YtimjoejkjgklaaaGreatDoorMkI
import Derived.Test.YtimjoejkjgklaaaGreatDoorBothI
import Derived.WalkSmall
set_option maxHeartbeats 4000000
set_option maxRecDepth 100000
namespace Go.Proofs.YtimjoejkjgklaaaGreatDoor
open Go.RowKit Dg
theorem erat_big (i1 : Int) (s1 : Bool) (p1 : Option Addr) (k1 c1 : Nat) (q1 : Option Addr) (l1 d1 : Nat) (x : Int × Bool × Nat × Nat) (w : World) (h : ERep w (.agg #[.int .i64 i1, .bool s1, .slice p1 k1 c1, .slice q1 l1 d1]) x) (hx : EOk 100000 x) (hb : ebig x = true) :
  Calls Tryz.prog 98 #[.agg #[.int .i64 i1, .bool s1, .slice p1 k1 c1, .slice q1 l1 d1]] w fun e w' => e = pan 1 ∧ Below w.heap.size w w' := by
 obtain ⟨hi, hF⟩ := h.frac
 unfold ebig at hb
 rw [Bool.and_eq_true] at hb
 have hx0 : x.1 = 0 := of_decide_eq_true hb.1
 have hbg := hb.2
 rw [hx0] at hi
 subst hi
 have HA := hid (fun (W : World) (hW : Below w.heap.size w W) => FracRat_open (.agg #[.bool s1, .slice p1 k1 c1, .slice q1 l1 d1]) x.2 W (hF.below hW) (lt_1g5 hx.bn) (lt_1g5 hx.bd))
 rw [hbg] at HA
 change Hid (∀ (W : World), Below w.heap.size w W → Calls _ _ _ W fun e w' => Below W.heap.size W w' ∧ FRes w' e 1 (outF x.2)) at HA
 obtain ⟨r, hr⟩ : ∃ r, r = outF x.2 := ⟨_, rfl⟩
 rw [← hr] at HA
 clear hr h hx hF hx0 hb hbg
 go_enter Tryz.func98, Tryz.ntmps98
 go_wp2_with fail
 have HV := hid (pre2 w [.int .i64 0, .bool s1, .slice p1 k1 c1, .slice q1 l1 d1] [.bool false, .slice none 0 0, .slice none 0 0] 59 24 nd4 nd3)
 generalize (w.alloc (.cells #[.int .i64 0, .bool s1, .slice p1 k1 c1, .slice q1 l1 d1] 59)).alloc (.cells #[.bool false, .slice none 0 0, .slice none 0 0] 24) = W0 at *
 refine (infinite_any 0 s1 p1 k1 c1 q1 l1 d1 W0).mono ?_
 rintro e w1 ⟨rfl, hB1⟩
 rw [show ((0 : Int) != 0) = false from rfl]
 have HE := hid hB1
 obtain ⟨u0, u1, u2, u3, _⟩ := (HV.out.1.below hB1).cells4
 clear hB1
 go_wp2_with fail
 refine (HA.out w1 (HV.out.2.2.trans (HE.out.mono HV.out.2.2.size))).mono ?_
 rintro e w2 ⟨hB2, ⟨_, rfl⟩ | ⟨h0, _⟩⟩
 case inr => exact absurd h0 (by decide)
 have HE2 := hid (held_any HE.out hB2)
 clear hB2 u0 u1 u2 u3
 unfold zeroF
 go_wp2_with fail
 refine (mustR_err false none 0 0 none 0 0 1 (by decide) w2).mono ?_
 rintro e w3 ⟨rfl, hB3⟩
 exact ⟨rfl, rfl, HV.out.2.2.trans ((held_any HE2.out hB3).mono HV.out.2.2.size)⟩
theorem siv_big1 (i1 : Int) (s1 : Bool) (p1 : Option Addr) (k1 c1 : Nat) (q1 : Option Addr) (l1 d1 : Nat) (j1 : Int) (sz1 : Bool) (pz1 : Option Addr) (kz1 cz1 : Nat) (qz1 : Option Addr) (lz1 dz1 : Nat) (e1 : Bool) (x : (Int × Bool × Nat × Nat) × (Int × Bool × Nat × Nat) × Bool) (w : World) (h : SRep w (.agg #[.int .i64 i1, .bool s1, .slice p1 k1 c1, .slice q1 l1 d1, .int .i64 j1, .bool sz1, .slice pz1 kz1 cz1, .slice qz1 lz1 dz1, .bool e1]) x) (hx : EOk 100000 x.1 ∧ EOk 100000 x.2.1) (hb : ebig x.1 = true) (he : x.2.2 = false) :
  Calls Tryz.prog 44 #[.agg #[.int .i64 i1, .bool s1, .slice p1 k1 c1, .slice q1 l1 d1, .int .i64 j1, .bool sz1, .slice pz1 kz1 cz1, .slice qz1 lz1 dz1, .bool e1]] w fun e w' => e = pan 1 ∧ Below w.heap.size w w' := by
 have h1 := h.ends
 have HL := hid (fun (W : World) (hW : Below w.heap.size w W) => erat_big i1 s1 p1 k1 c1 q1 l1 d1 x.1 W (h1.1.below hW) hx.1 hb)
 have hee := h1.2.2
 rw [he] at hee
 subst hee
 clear h hx hb he h1
 go_enter Tryz.func44, Tryz.ntmps44
 go_wp2_with fail
 have HV := hid (pre2 w [.int .i64 i1, .bool s1, .slice p1 k1 c1, .slice q1 l1 d1, .int .i64 j1, .bool sz1, .slice pz1 kz1 cz1, .slice qz1 lz1 dz1, .bool false] [.bool false, .slice none 0 0, .slice none 0 0, .bool false, .slice none 0 0, .slice none 0 0, .bool false, .bool false] 61 26 nd9 nd8)
 generalize (w.alloc (.cells #[.int .i64 i1, .bool s1, .slice p1 k1 c1, .slice q1 l1 d1, .int .i64 j1, .bool sz1, .slice pz1 kz1 cz1, .slice qz1 lz1 dz1, .bool false] 61)).alloc (.cells #[.bool false, .slice none 0 0, .slice none 0 0, .bool false, .slice none 0 0, .slice none 0 0, .bool false, .bool false] 26) = W0 at *
 have HQ := hid (QQ.i1 (cs := [.int .i64 i1, .bool s1, .slice p1 k1 c1, .slice q1 l1 d1, .int .i64 j1, .bool sz1, .slice pz1 kz1 cz1, .slice qz1 lz1 dz1, .bool false]) HV.out.1 HV.out.2.2)
 have HS : Hid (∀ w', QQ w [(w.heap.size, [.int .i64 i1, .bool s1, .slice p1 k1 c1, .slice q1 l1 d1, .int .i64 j1, .bool sz1, .slice pz1 kz1 cz1, .slice qz1 lz1 dz1, .bool false])] w' → (w'.cell? ⟨w.heap.size, 0, none⟩ = some (.int .i64 i1) ∧ w'.cell? ⟨w.heap.size, 1, none⟩ = some (.bool s1) ∧ w'.cell? ⟨w.heap.size, 2, none⟩ = some (.slice p1 k1 c1) ∧ w'.cell? ⟨w.heap.size, 3, none⟩ = some (.slice q1 l1 d1) ∧ w'.cell? ⟨w.heap.size, 4, none⟩ = some (.int .i64 j1) ∧ w'.cell? ⟨w.heap.size, 5, none⟩ = some (.bool sz1) ∧ w'.cell? ⟨w.heap.size, 6, none⟩ = some (.slice pz1 kz1 cz1) ∧ w'.cell? ⟨w.heap.size, 7, none⟩ = some (.slice qz1 lz1 dz1) ∧ w'.cell? ⟨w.heap.size, 8, none⟩ = some (.bool false) ∧ Hid (QQ w [(w.heap.size, [.int .i64 i1, .bool s1, .slice p1 k1 c1, .slice q1 l1 d1, .int .i64 j1, .bool sz1, .slice pz1 kz1 cz1, .slice qz1 lz1 dz1, .bool false])] w'))) :=
  hid fun w' hb => ⟨(hb.b1.cells9).1, (hb.b1.cells9).2.1, (hb.b1.cells9).2.2.1, (hb.b1.cells9).2.2.2.1, (hb.b1.cells9).2.2.2.2.1, (hb.b1.cells9).2.2.2.2.2.1, (hb.b1.cells9).2.2.2.2.2.2.1, (hb.b1.cells9).2.2.2.2.2.2.2.1, (hb.b1.cells9).2.2.2.2.2.2.2.2.1, hid hb⟩
 refine wp_region_held_drew (S := (fun w' => w'.cell? ⟨w.heap.size, 0, none⟩ = some (.int .i64 i1) ∧ w'.cell? ⟨w.heap.size, 1, none⟩ = some (.bool s1) ∧ w'.cell? ⟨w.heap.size, 2, none⟩ = some (.slice p1 k1 c1) ∧ w'.cell? ⟨w.heap.size, 3, none⟩ = some (.slice q1 l1 d1) ∧ w'.cell? ⟨w.heap.size, 4, none⟩ = some (.int .i64 j1) ∧ w'.cell? ⟨w.heap.size, 5, none⟩ = some (.bool sz1) ∧ w'.cell? ⟨w.heap.size, 6, none⟩ = some (.slice pz1 kz1 cz1) ∧ w'.cell? ⟨w.heap.size, 7, none⟩ = some (.slice qz1 lz1 dz1) ∧ w'.cell? ⟨w.heap.size, 8, none⟩ = some (.bool false) ∧ Hid (QQ w [(w.heap.size, [.int .i64 i1, .bool s1, .slice p1 k1 c1, .slice q1 l1 d1, .int .i64 j1, .bool sz1, .slice pz1 kz1 cz1, .slice qz1 lz1 dz1, .bool false])] w'))) (by kernel_rfl) (HS.out _ HQ.out.drew) (fun hHeld => ?_)
 refine wpAnyH_take (i := 0) (v := ?vv0) rfl (by kernel_rfl) (by kernel_rfl) (by kernel_rfl) (fun _ _ _ h => h) (Or.inl ⟨by rfl, ?hy0⟩) (by assumption) ?_
 case hy0 => (intro w' hSw; (try dsimp only at hSw); go_simp; first | done | with_reducible rfl)
 simp only [Act.put]
 refine wpAnyH_take (i := 1) (v := ?vv1) rfl (by kernel_rfl) (by kernel_rfl) (by kernel_rfl) (fun _ _ _ h => h) (Or.inl ⟨by rfl, ?hy1⟩) (by assumption) ?_
 case hy1 => (intro w' hSw; (try dsimp only at hSw); go_simp; first | done | with_reducible rfl)
 simp only [Act.put]
 refine wpAnyH_take (i := 3) (v := ?vv3) rfl (by kernel_rfl) (by kernel_rfl) (by kernel_rfl) (fun _ _ _ h => h) (Or.inl ⟨by rfl, ?hy3⟩) (by assumption) ?_
 case hy3 => (intro w' hSw; (try dsimp only at hSw); go_simp; first | done | with_reducible rfl)
 simp only [Act.put]
 refine wpAnyH_take (i := 4) (v := ?vv4) rfl (by kernel_rfl) (by kernel_rfl) (by kernel_rfl) (fun _ _ _ h => h) (Or.inl ⟨by rfl, ?hy4⟩) (by assumption) ?_
 case hy4 => (intro w' hSw; (try dsimp only at hSw); go_simp; first | done | with_reducible rfl)
 simp only [Act.put]
 refine wpAnyH_take (i := 6) (v := ?vv6) rfl (by kernel_rfl) (by kernel_rfl) (by kernel_rfl) (fun _ _ _ h => h) (Or.inl ⟨by rfl, ?hy6⟩) (by assumption) ?_
 case hy6 => (intro w' hSw; (try dsimp only at hSw); go_simp; first | done | with_reducible rfl)
 simp only [Act.put]
 refine wpAnyH_take (i := 7) (v := ?vv7) rfl (by kernel_rfl) (by kernel_rfl) (by kernel_rfl) (fun _ _ _ h => h) (Or.inl ⟨by rfl, ?hy7⟩) (by assumption) ?_
 case hy7 => (intro w' hSw; (try dsimp only at hSw); go_simp; first | done | with_reducible rfl)
 simp only [Act.put]
 refine wpAnyH_take (i := 9) (v := ?vv9) rfl (by kernel_rfl) (by kernel_rfl) (by kernel_rfl) (fun _ _ _ h => h) (Or.inl ⟨by rfl, ?hy9⟩) (by assumption) ?_
 case hy9 => (intro w' hSw; (try dsimp only at hSw); go_simp; first | done | with_reducible rfl)
 simp only [Act.put]
 refine wpAnyH_take (i := 10) (v := ?vv10) rfl (by kernel_rfl) (by kernel_rfl) (by kernel_rfl) (fun _ _ _ h => h) (Or.inl ⟨by rfl, ?hy10⟩) (by assumption) ?_
 case hy10 => (intro w' hSw; (try dsimp only at hSw); go_simp; first | done | with_reducible rfl)
 simp only [Act.put]
 refine wpAnyH_ready (rs := [2]) (by kernel_rfl) (by simp) ?_
 refine AllReadyH.cons rfl (fun K hK => ?_) AllReadyH.nil
 go_simp
 go_at_call 98
 refine (HL.out _ HQ.out.drew.bel).mono ?_
 rintro e wa ⟨rfl, hB1⟩
 exact ⟨rfl, rfl, (HQ.out.drew.call hB1).bel⟩
theorem siv_big2 (i1 : Int) (s1 : Bool) (p1 : Option Addr) (k1 c1 : Nat) (q1 : Option Addr) (l1 d1 : Nat) (j1 : Int) (sz1 : Bool) (pz1 : Option Addr) (kz1 cz1 : Nat) (qz1 : Option Addr) (lz1 dz1 : Nat) (e1 : Bool) (x : (Int × Bool × Nat × Nat) × (Int × Bool × Nat × Nat) × Bool) (w : World) (h : SRep w (.agg #[.int .i64 i1, .bool s1, .slice p1 k1 c1, .slice q1 l1 d1, .int .i64 j1, .bool sz1, .slice pz1 kz1 cz1, .slice qz1 lz1 dz1, .bool e1]) x) (hx : EOk 100000 x.1 ∧ EOk 100000 x.2.1) (hb : ebig x.1 = false) (hc : ebig x.2.1 = true) (he : x.2.2 = false) :
  Calls Tryz.prog 44 #[.agg #[.int .i64 i1, .bool s1, .slice p1 k1 c1, .slice q1 l1 d1, .int .i64 j1, .bool sz1, .slice pz1 kz1 cz1, .slice qz1 lz1 dz1, .bool e1]] w fun e w' => e = pan 1 ∧ Below w.heap.size w w' := by
 have h1 := h.ends
 have HL := hid (fun (W : World) (hW : Below w.heap.size w W) => erat_ok i1 s1 p1 k1 c1 q1 l1 d1 x.1 W (h1.1.below hW) hx.1 hb)
 have HH := hid (fun (W : World) (hW : Below w.heap.size w W) => erat_big j1 sz1 pz1 kz1 cz1 qz1 lz1 dz1 x.2.1 W (h1.2.1.below hW) hx.2 hc)
 have hee := h1.2.2
 rw [he] at hee
 subst hee
 clear h hx hb hc he h1
 go_enter Tryz.func44, Tryz.ntmps44
 go_wp2_with fail
 have HV := hid (pre2 w [.int .i64 i1, .bool s1, .slice p1 k1 c1, .slice q1 l1 d1, .int .i64 j1, .bool sz1, .slice pz1 kz1 cz1, .slice qz1 lz1 dz1, .bool false] [.bool false, .slice none 0 0, .slice none 0 0, .bool false, .slice none 0 0, .slice none 0 0, .bool false, .bool false] 61 26 nd9 nd8)
 generalize (w.alloc (.cells #[.int .i64 i1, .bool s1, .slice p1 k1 c1, .slice q1 l1 d1, .int .i64 j1, .bool sz1, .slice pz1 kz1 cz1, .slice qz1 lz1 dz1, .bool false] 61)).alloc (.cells #[.bool false, .slice none 0 0, .slice none 0 0, .bool false, .slice none 0 0, .slice none 0 0, .bool false, .bool false] 26) = W0 at *
 have HQ := hid (QQ.i1 (cs := [.int .i64 i1, .bool s1, .slice p1 k1 c1, .slice q1 l1 d1, .int .i64 j1, .bool sz1, .slice pz1 kz1 cz1, .slice qz1 lz1 dz1, .bool false]) HV.out.1 HV.out.2.2)
 have HS : Hid (∀ w', QQ w [(w.heap.size, [.int .i64 i1, .bool s1, .slice p1 k1 c1, .slice q1 l1 d1, .int .i64 j1, .bool sz1, .slice pz1 kz1 cz1, .slice qz1 lz1 dz1, .bool false])] w' → (w'.cell? ⟨w.heap.size, 0, none⟩ = some (.int .i64 i1) ∧ w'.cell? ⟨w.heap.size, 1, none⟩ = some (.bool s1) ∧ w'.cell? ⟨w.heap.size, 2, none⟩ = some (.slice p1 k1 c1) ∧ w'.cell? ⟨w.heap.size, 3, none⟩ = some (.slice q1 l1 d1) ∧ w'.cell? ⟨w.heap.size, 4, none⟩ = some (.int .i64 j1) ∧ w'.cell? ⟨w.heap.size, 5, none⟩ = some (.bool sz1) ∧ w'.cell? ⟨w.heap.size, 6, none⟩ = some (.slice pz1 kz1 cz1) ∧ w'.cell? ⟨w.heap.size, 7, none⟩ = some (.slice qz1 lz1 dz1) ∧ w'.cell? ⟨w.heap.size, 8, none⟩ = some (.bool false) ∧ Hid (QQ w [(w.heap.size, [.int .i64 i1, .bool s1, .slice p1 k1 c1, .slice q1 l1 d1, .int .i64 j1, .bool sz1, .slice pz1 kz1 cz1, .slice qz1 lz1 dz1, .bool false])] w'))) :=
  hid fun w' hb => ⟨(hb.b1.cells9).1, (hb.b1.cells9).2.1, (hb.b1.cells9).2.2.1, (hb.b1.cells9).2.2.2.1, (hb.b1.cells9).2.2.2.2.1, (hb.b1.cells9).2.2.2.2.2.1, (hb.b1.cells9).2.2.2.2.2.2.1, (hb.b1.cells9).2.2.2.2.2.2.2.1, (hb.b1.cells9).2.2.2.2.2.2.2.2.1, hid hb⟩
 refine wp_region_held_drew (S := (fun w' => w'.cell? ⟨w.heap.size, 0, none⟩ = some (.int .i64 i1) ∧ w'.cell? ⟨w.heap.size, 1, none⟩ = some (.bool s1) ∧ w'.cell? ⟨w.heap.size, 2, none⟩ = some (.slice p1 k1 c1) ∧ w'.cell? ⟨w.heap.size, 3, none⟩ = some (.slice q1 l1 d1) ∧ w'.cell? ⟨w.heap.size, 4, none⟩ = some (.int .i64 j1) ∧ w'.cell? ⟨w.heap.size, 5, none⟩ = some (.bool sz1) ∧ w'.cell? ⟨w.heap.size, 6, none⟩ = some (.slice pz1 kz1 cz1) ∧ w'.cell? ⟨w.heap.size, 7, none⟩ = some (.slice qz1 lz1 dz1) ∧ w'.cell? ⟨w.heap.size, 8, none⟩ = some (.bool false) ∧ Hid (QQ w [(w.heap.size, [.int .i64 i1, .bool s1, .slice p1 k1 c1, .slice q1 l1 d1, .int .i64 j1, .bool sz1, .slice pz1 kz1 cz1, .slice qz1 lz1 dz1, .bool false])] w'))) (by kernel_rfl) (HS.out _ HQ.out.drew) (fun hHeld => ?_)
 refine wpAnyH_take (i := 0) (v := ?vv0) rfl (by kernel_rfl) (by kernel_rfl) (by kernel_rfl) (fun _ _ _ h => h) (Or.inl ⟨by rfl, ?hy0⟩) (by assumption) ?_
 case hy0 => (intro w' hSw; (try dsimp only at hSw); go_simp; first | done | with_reducible rfl)
 simp only [Act.put]
 refine wpAnyH_take (i := 1) (v := ?vv1) rfl (by kernel_rfl) (by kernel_rfl) (by kernel_rfl) (fun _ _ _ h => h) (Or.inl ⟨by rfl, ?hy1⟩) (by assumption) ?_
 case hy1 => (intro w' hSw; (try dsimp only at hSw); go_simp; first | done | with_reducible rfl)
 simp only [Act.put]
 refine wpAnyH_take (i := 3) (v := ?vv3) rfl (by kernel_rfl) (by kernel_rfl) (by kernel_rfl) (fun _ _ _ h => h) (Or.inl ⟨by rfl, ?hy3⟩) (by assumption) ?_
 case hy3 => (intro w' hSw; (try dsimp only at hSw); go_simp; first | done | with_reducible rfl)
 simp only [Act.put]
 refine wpAnyH_take (i := 4) (v := ?vv4) rfl (by kernel_rfl) (by kernel_rfl) (by kernel_rfl) (fun _ _ _ h => h) (Or.inl ⟨by rfl, ?hy4⟩) (by assumption) ?_
 case hy4 => (intro w' hSw; (try dsimp only at hSw); go_simp; first | done | with_reducible rfl)
 simp only [Act.put]
 refine wpAnyH_take (i := 6) (v := ?vv6) rfl (by kernel_rfl) (by kernel_rfl) (by kernel_rfl) (fun _ _ _ h => h) (Or.inl ⟨by rfl, ?hy6⟩) (by assumption) ?_
 case hy6 => (intro w' hSw; (try dsimp only at hSw); go_simp; first | done | with_reducible rfl)
 simp only [Act.put]
 refine wpAnyH_take (i := 7) (v := ?vv7) rfl (by kernel_rfl) (by kernel_rfl) (by kernel_rfl) (fun _ _ _ h => h) (Or.inl ⟨by rfl, ?hy7⟩) (by assumption) ?_
 case hy7 => (intro w' hSw; (try dsimp only at hSw); go_simp; first | done | with_reducible rfl)
 simp only [Act.put]
 refine wpAnyH_take (i := 9) (v := ?vv9) rfl (by kernel_rfl) (by kernel_rfl) (by kernel_rfl) (fun _ _ _ h => h) (Or.inl ⟨by rfl, ?hy9⟩) (by assumption) ?_
 case hy9 => (intro w' hSw; (try dsimp only at hSw); go_simp; first | done | with_reducible rfl)
 simp only [Act.put]
 refine wpAnyH_take (i := 10) (v := ?vv10) rfl (by kernel_rfl) (by kernel_rfl) (by kernel_rfl) (fun _ _ _ h => h) (Or.inl ⟨by rfl, ?hy10⟩) (by assumption) ?_
 case hy10 => (intro w' hSw; (try dsimp only at hSw); go_simp; first | done | with_reducible rfl)
 simp only [Act.put]
 refine wpAnyH_ready (rs := [2]) (by kernel_rfl) (by simp) ?_
 refine AllReadyH.cons rfl (fun K hK => ?_) AllReadyH.nil
 go_simp
 go_at_call 98
 refine (HL.out _ HQ.out.drew.bel).mono ?_
 rintro e wa ⟨s4, p4, k4, c4, q4, l4, d4, rfl, hE1, hB1⟩
 have hQ1 := HQ.out.drew.call hB1
 go_wp2_with fail
 refine hK.out _ _ ?_ (fun hHeld => ?_)
 ·exact HS.out _ (hQ1)
 clear hK K
 try simp only [Act.put, List.setIfInBounds_toArray, List.set_cons_zero, List.set_cons_succ]
 refine wpAnyH_ready (rs := [5]) (by kernel_rfl) (by simp) ?_
 refine AllReadyH.cons rfl (fun K hK => ?_) AllReadyH.nil
 go_simp
 go_at_call 98
 refine (HH.out _ hQ1.bel).mono ?_
 rintro e wb ⟨rfl, hB2⟩
 exact ⟨rfl, rfl, (hQ1.call hB2).bel⟩
def sbig (x : (Int × Bool × Nat × Nat) × (Int × Bool × Nat × Nat) × Bool) : Bool := ebig x.1 || ebig x.2.1
theorem siv_big (i1 : Int) (s1 : Bool) (p1 : Option Addr) (k1 c1 : Nat) (q1 : Option Addr) (l1 d1 : Nat) (j1 : Int) (sz1 : Bool) (pz1 : Option Addr) (kz1 cz1 : Nat) (qz1 : Option Addr) (lz1 dz1 : Nat) (e1 : Bool) (x : (Int × Bool × Nat × Nat) × (Int × Bool × Nat × Nat) × Bool) (w : World) (h : SRep w (.agg #[.int .i64 i1, .bool s1, .slice p1 k1 c1, .slice q1 l1 d1, .int .i64 j1, .bool sz1, .slice pz1 kz1 cz1, .slice qz1 lz1 dz1, .bool e1]) x) (hx : EOk 100000 x.1 ∧ EOk 100000 x.2.1) (hb : sbig x = true) (he : x.2.2 = false) :
  Calls Tryz.prog 44 #[.agg #[.int .i64 i1, .bool s1, .slice p1 k1 c1, .slice q1 l1 d1, .int .i64 j1, .bool sz1, .slice pz1 kz1 cz1, .slice qz1 lz1 dz1, .bool e1]] w fun e w' => e = pan 1 ∧ Below w.heap.size w w' := by
 unfold sbig at hb
 cases h1 : ebig x.1
 ·rw [h1] at hb
  exact siv_big2 i1 s1 p1 k1 c1 q1 l1 d1 j1 sz1 pz1 kz1 cz1 qz1 lz1 dz1 e1 x w h hx h1 hb he
 ·exact siv_big1 i1 s1 p1 k1 c1 q1 l1 d1 j1 sz1 pz1 kz1 cz1 qz1 lz1 dz1 e1 x w h hx h1 he
end Go.Proofs.YtimjoejkjgklaaaGreatDoor
