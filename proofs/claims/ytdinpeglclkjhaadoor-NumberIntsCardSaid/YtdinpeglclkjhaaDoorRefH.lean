/- The rational numbers of the specification: Rat. -/
import Derived.Test.YtdinpeglclkjhaaDoorRefG
import Derived.Deep.CutRange
namespace Go.Proofs.YtdinpeglclkjhaaDoor
open Go.RowKit Dg

theorem rRat_ret {W : World} {B : Nat} {x y z : Value} {tm : Array Value} {R : Ending → World → Prop} (h2 : tm[2]?.getD undef = .pointer (some ⟨B, 0, none⟩)) (hV : Var3 W B x y z) (hR : R (.returned (.agg #[x, y, z])) W) :
    bodyPost Tryd.prog Tryd.f20 R .ret { tmps := tm, defers := [] } W := by
  obtain ⟨c0, c1, c2, _, _, _⟩ := hV.cells
  exact bodyPost_ret (v := .agg #[x, y, z]) (by simp [results, Tryd.results20, go_sem, h2, c0, c1, c2]) rfl hR

/-- What the first piece of Rat leaves. -/
def CutRat (w1 : World) (n : Nat) (sg : Bool) (v3 : Value) (wx : World) : Prop :=
  ∃ X pa ka ca, v3 = .pointer (some ⟨X, 0, none⟩) ∧ Var3 wx X (.bool sg) (.slice pa ka ca) (.slice none 0 0) ∧ Rep W32 wx (.slice pa ka ca) n ∧ Below w1.heap.size w1 wx ∧ w1.heap.size ≤ X

/-- The denominator as the canonical value has it. -/
def den0' (d : Nat) : Nat := if d ≤ 1 then 0 else d

set_option maxHeartbeats 8000000 in
set_option maxRecDepth 100000 in
theorem rRat_any (v : Value) (s : Bool) (n d : Nat) (w : World) (h : QRep w v s n d) (hn : n < B16 ^ 1000000000) (hd : d < B16 ^ 1000000000) :
    Calls Tryd.prog 20 #[v] w fun e w' => ∃ v', e = .returned v' ∧ FRep w' v' (s && decide (n ≠ 0)) n (den0' d) ∧ Below w.heap.size w w' := by
  obtain ⟨vn, vd, rfl, hrn, hrd⟩ := h
  have HR := hid (And.intro hrn hrd)
  obtain ⟨p1, k1, c1, rfl, _, hl1, _⟩ := hrn
  obtain ⟨p2, k2, c2, rfl, _⟩ := hrd
  have hz1 := hl1.zero_iff B16_pos
  have HN := hid (And.intro hn hd)
  obtain ⟨sg, hsg⟩ : ∃ sg, sg = (s && decide (n ≠ 0)) := ⟨_, rfl⟩
  rw [← hsg]
  have hcase : (s = false ∧ sg = false) ∨ (s = true ∧ k1 = 0 ∧ sg = false) ∨ (s = true ∧ 0 < k1 ∧ sg = true) := by
    cases s
    · exact .inl ⟨rfl, by rw [hsg]; rfl⟩
    · by_cases hk : k1 = 0
      · exact .inr (.inl ⟨rfl, hk, by rw [hsg, hz1.2 hk]; rfl⟩)
      · exact .inr (.inr ⟨rfl, by omega, by rw [hsg]; simp; exact fun h => hk (hz1.1 h)⟩)
  clear hn hd hz1 hl1 hsg
  go_enter Tryd.func20, Tryd.ntmps20
  go_upto_region 1 with fail
  have hVa := (Var3.alloc w (x := .bool s) (y := .slice p1 k1 c1) (z := .slice p2 k2 c2) 34 trivial trivial trivial).below ((Below.refl _ _).alloc (Nat.le_refl _) (.cells #[.bool false, .slice none 0 0, .slice none 0 0] 24))
  have hVr := Var3.alloc2 w (.cells #[.bool s, .slice p1 k1 c1, .slice p2 k2 c2] 34) (x := .bool false) (y := .slice none 0 0) (z := .slice none 0 0) 24 trivial trivial trivial
  have hB0 := below_alloc2 w (.cells #[.bool s, .slice p1 k1 c1, .slice p2 k2 c2] 34) (.cells #[.bool false, .slice none 0 0, .slice none 0 0] 24)
  generalize (w.alloc (.cells #[.bool s, .slice p1 k1 c1, .slice p2 k2 c2] 34)).alloc (.cells #[.bool false, .slice none 0 0, .slice none 0 0] 24) = w1 at *
  have HP : Hid ((Rep B16 w1 (.slice p1 k1 c1) n ∧ Rep B16 w1 (.slice p2 k2 c2) d) ∧ (Var3 w1 w.heap.size (.bool s) (.slice p1 k1 c1) (.slice p2 k2 c2) ∧ Var3 w1 (w.heap.size + 1) (.bool false) (.slice none 0 0) (.slice none 0 0)) ∧ Below w.heap.size w w1) :=
    hid ⟨⟨HR.out.1.below hB0, HR.out.2.below hB0⟩, ⟨hVa, hVr⟩, hB0⟩
  clear hVa hVr hB0 HR
  have HS : Hid (∀ w', Below w1.heap.size w1 w' → (w'.cell? ⟨w.heap.size, 0, none⟩ = some (.bool s) ∧ w'.cell? ⟨w.heap.size, 1, none⟩ = some (.slice p1 k1 c1) ∧ w'.cell? ⟨w.heap.size, 2, none⟩ = some (.slice p2 k2 c2) ∧ Hid (Below w1.heap.size w1 w'))) :=
    hid fun w' hb => ⟨(HP.out.2.1.1.below hb).cells.1, (HP.out.2.1.1.below hb).cells.2.1, (HP.out.2.1.1.below hb).cells.2.2.1, hid hb⟩
  have hWd := hid (fun (W : World) (hW : Below w1.heap.size w1 W) => list_any (.slice p1 k1 c1) n W (HP.out.1.1.below hW) HN.out.1)
  go_cut [3] from 4 to 15 (fun v3 wx => CutRat w1 n sg v3 wx)
  case first =>
    rcases hcase with ⟨rfl, rfl⟩ | ⟨rfl, rfl, rfl⟩ | ⟨rfl, hk, rfl⟩
    case inl =>
      refine wp_region_noPanic ?_
      refine wp_region_held_drew (S := (fun w' => w'.cell? ⟨w.heap.size, 0, none⟩ = some (.bool false) ∧ w'.cell? ⟨w.heap.size, 1, none⟩ = some (.slice p1 k1 c1) ∧ w'.cell? ⟨w.heap.size, 2, none⟩ = some (.slice p2 k2 c2) ∧ Hid (Below w1.heap.size w1 w'))) (by kernel_rfl) (HS.out _ (Below.refl _ _).drew) (fun hHeld => ?_)
      refine wpAnyH_take (i := 0) (v := ?vv1) rfl (by kernel_rfl) (by kernel_rfl) (by kernel_rfl) (fun _ _ _ h => h) (Or.inl ⟨by rfl, ?hy1⟩) (by assumption) ?rest1
      case hy1 => (intro w' hSw; (try dsimp only at hSw); go_simp; first | done | with_reducible rfl)
      simp only [Act.put, List.setIfInBounds_toArray, List.set_cons_zero, List.set_cons_succ]
      refine wpAnyH_take (i := 1) (v := ?vv2) rfl (by kernel_rfl) (by kernel_rfl) (by kernel_rfl) (fun _ _ _ h => h) (Or.inl ⟨by rfl, ?hy2⟩) (by assumption) ?rest2
      case hy2 => (intro w' hSw; (try dsimp only at hSw); go_simp; first | done | with_reducible rfl)
      simp only [Act.put, List.setIfInBounds_toArray, List.set_cons_zero, List.set_cons_succ]
      refine wpAnyH_take (i := 2) (v := ?vv3) rfl (by kernel_rfl) (by kernel_rfl) (by kernel_rfl) (fun _ _ _ h => h) (Or.inl ⟨by rfl, ?hy3⟩) (by assumption) ?rest3
      case hy3 => (intro w' hSw; (try dsimp only at hSw); go_simp; first | done | with_reducible rfl)
      simp only [Act.put, List.setIfInBounds_toArray, List.set_cons_zero, List.set_cons_succ]
      refine wpAnyH_take (i := 3) rfl (by kernel_rfl) (by kernel_rfl) (by kernel_rfl) (fun _ _ _ h => h) (Or.inr ⟨by rfl, rfl⟩) (by assumption) ?rest4
      simp only [Act.put, List.setIfInBounds_toArray, List.set_cons_zero, List.set_cons_succ]
      refine wpAnyH_take (i := 4) rfl (by kernel_rfl) (by kernel_rfl) (by kernel_rfl) (fun _ _ _ h => h) (Or.inr ⟨by rfl, rfl⟩) (by assumption) ?rest5
      simp only [Act.put, List.setIfInBounds_toArray, List.set_cons_zero, List.set_cons_succ]
      refine wpAnyH_take (i := 5) rfl (by kernel_rfl) (by kernel_rfl) (by kernel_rfl) (fun _ _ _ h => h) (Or.inr ⟨by rfl, rfl⟩) (by assumption) ?rest6
      simp only [Act.put, List.setIfInBounds_toArray, List.set_cons_zero, List.set_cons_succ]
      refine wpAnyH_take (i := 6) rfl (by kernel_rfl) (by kernel_rfl) (by kernel_rfl) (fun _ _ _ h => h) (Or.inr ⟨by rfl, rfl⟩) (by assumption) ?rest7
      simp only [Act.put, List.setIfInBounds_toArray, List.set_cons_zero, List.set_cons_succ]
      refine wpAnyH_take (i := 7) (v := ?vv8) rfl (by kernel_rfl) (by kernel_rfl) (by kernel_rfl) (fun _ _ _ h => h) (Or.inl ⟨by rfl, ?hy8⟩) (by assumption) ?rest8
      case hy8 => (intro w' hSw; (try dsimp only at hSw); go_simp; first | done | with_reducible rfl)
      simp only [Act.put, List.setIfInBounds_toArray, List.set_cons_zero, List.set_cons_succ]
      refine wpAnyH_take (i := 8) (v := ?vv9) rfl (by kernel_rfl) (by kernel_rfl) (by kernel_rfl) (fun _ _ _ h => h) (Or.inl ⟨by rfl, ?hy9⟩) (by assumption) ?rest9
      case hy9 => (intro w' hSw; (try dsimp only at hSw); go_simp; first | done | with_reducible rfl)
      simp only [Act.put, List.setIfInBounds_toArray, List.set_cons_zero, List.set_cons_succ]
      refine wpAnyH_take (i := 9) (v := ?vv10) rfl (by kernel_rfl) (by kernel_rfl) (by kernel_rfl) (fun _ _ _ h => h) (Or.inl ⟨by rfl, ?hy10⟩) (by assumption) ?rest10
      case hy10 => (intro w' hSw; (try dsimp only at hSw); go_simp; first | done | with_reducible rfl)
      simp only [Act.put, List.setIfInBounds_toArray, List.set_cons_zero, List.set_cons_succ]
      refine wpAnyH_ready (rs := [10, 12]) (by kernel_rfl) (by simp) ?_
      refine AllReadyH.cons rfl (fun K hK => ?_) (AllReadyH.cons rfl (fun K hK => ?_) AllReadyH.nil)
      · go_simp
        go_at_call 57
        refine (hWd.out _ (held3' (by assumption))).mono ?_
        rintro e wc ⟨vc, rfl, hRc, hBc⟩
        have hKc := held_any (held3' (W0 := w1) (by assumption)) hBc
        obtain ⟨pa, ka, ca, rfl, hRc'⟩ := id hRc
        clear hRc'
        go_wp2_with fail
        refine hK.out _ _ ?_ (fun hHeld => ?_)
        · (try dsimp only); (first | assumption | exact HS.out _ (Below.refl _ _).drew | (exact HS.out _ (by assumption)) | (exact HS.out _ (held3_alloc (by assumption) _)) | (exact HS.out _ (held3_alloc' (by assumption) _)) | (exact HS.out _ (below_al1 (by assumption) _)) | (exact HS.out _ (below_set3 (by assumption) (Nat.le_refl _))))
        clear hK K
        try simp only [Act.put, List.setIfInBounds_toArray, List.set_cons_zero, List.set_cons_succ]
        refine wpAnyH_take (i := 11) (v := ?vv11) rfl (by kernel_rfl) (by kernel_rfl) (by kernel_rfl) (fun _ _ _ h => h) (Or.inl ⟨by rfl, ?hy11⟩) (by assumption) ?rest11
        case hy11 => (intro w' hSw; (try dsimp only at hSw); go_simp; first | done | with_reducible rfl)
        simp only [Act.put, List.setIfInBounds_toArray, List.set_cons_zero, List.set_cons_succ]
        refine wpAnyH_ready (rs := [12]) (by kernel_rfl) (by simp) ?_
        refine AllReadyH.cons rfl (fun K hK => ?_) AllReadyH.nil
        go_simp
        refine hK.out _ _ ?_ (fun hHeld => ?_)
        · (try dsimp only); (first | assumption | exact HS.out _ (Below.refl _ _).drew | (exact HS.out _ (by assumption)) | (exact HS.out _ (held3_alloc (by assumption) _)) | (exact HS.out _ (held3_alloc' (by assumption) _)) | (exact HS.out _ (below_al1 (by assumption) _)) | (exact HS.out _ (below_set3 (by assumption) (Nat.le_refl _))))
        clear hK K
        try simp only [Act.put, List.setIfInBounds_toArray, List.set_cons_zero, List.set_cons_succ]
        refine wpAnyH_ready (rs := [13]) (by kernel_rfl) (by simp) ?_
        refine AllReadyH.cons rfl (fun K hK => ?_) AllReadyH.nil
        go_simp
        refine hK.out _ _ ?_ (fun hHeld => ?_)
        · (try dsimp only); (first | assumption | exact HS.out _ (Below.refl _ _).drew | (exact HS.out _ (by assumption)) | (exact HS.out _ (held3_alloc (by assumption) _)) | (exact HS.out _ (held3_alloc' (by assumption) _)) | (exact HS.out _ (below_al1 (by assumption) _)) | (exact HS.out _ (below_set3 (by assumption) (Nat.le_refl _))))
        clear hK K
        try simp only [Act.put, List.setIfInBounds_toArray, List.set_cons_zero, List.set_cons_succ]
        refine wpAnyH_done (by kernel_rfl) (NoPanic.normal ?_) _
        go_wp2_with fail
        go_meet
        exact ⟨wc.heap.size, pa, ka, ca, rfl, Var3.alloc wc 24 trivial trivial trivial, hRc.alloc _, below_al1 hKc _, hKc.size⟩
      · go_simp
        refine hK.out _ _ ?_ (fun hHeld => ?_)
        · (try dsimp only); (first | assumption | exact HS.out _ (Below.refl _ _).drew | (exact HS.out _ (by assumption)) | (exact HS.out _ (held3_alloc (by assumption) _)) | (exact HS.out _ (held3_alloc' (by assumption) _)) | (exact HS.out _ (below_al1 (by assumption) _)) | (exact HS.out _ (below_set3 (by assumption) (Nat.le_refl _))))
        clear hK K
        try simp only [Act.put, List.setIfInBounds_toArray, List.set_cons_zero, List.set_cons_succ]
        refine wpAnyH_ready (rs := [10]) (by kernel_rfl) (by simp) ?_
        refine AllReadyH.cons rfl (fun K hK => ?_) AllReadyH.nil
        go_simp
        go_at_call 57
        refine (hWd.out _ (held3' (by assumption))).mono ?_
        rintro e wc ⟨vc, rfl, hRc, hBc⟩
        have hKc := held_any (held3' (W0 := w1) (by assumption)) hBc
        obtain ⟨pa, ka, ca, rfl, hRc'⟩ := id hRc
        clear hRc'
        have hVn := ((Var3.alloc w1 (x := .bool false) (y := .slice none 0 0) (z := .slice none 0 0) 24 trivial trivial trivial).below (Below.refl _ _).drew).below hBc
        obtain ⟨x0, x1, x2, y0, y1, y2⟩ := id hVn.cells
        go_wp2_with fail
        refine hK.out _ _ ?_ (fun hHeld => ?_)
        · (try dsimp only); (first | assumption | exact HS.out _ (Below.refl _ _).drew | (exact HS.out _ (by assumption)) | (exact HS.out _ (held3_alloc (by assumption) _)) | (exact HS.out _ (held3_alloc' (by assumption) _)) | (exact HS.out _ (below_al1 (by assumption) _)) | (exact HS.out _ (below_set3 (by assumption) (Nat.le_refl _))))
        clear hK K
        try simp only [Act.put, List.setIfInBounds_toArray, List.set_cons_zero, List.set_cons_succ]
        refine wpAnyH_take (i := 11) (v := ?vv12) rfl (by kernel_rfl) (by kernel_rfl) (by kernel_rfl) (fun _ _ _ h => h) (Or.inl ⟨by rfl, ?hy12⟩) (by assumption) ?rest12
        case hy12 => (intro w' hSw; (try dsimp only at hSw); go_simp; first | done | with_reducible rfl)
        simp only [Act.put, List.setIfInBounds_toArray, List.set_cons_zero, List.set_cons_succ]
        refine wpAnyH_ready (rs := [13]) (by kernel_rfl) (by simp) ?_
        refine AllReadyH.cons rfl (fun K hK => ?_) AllReadyH.nil
        go_simp
        refine hK.out _ _ ?_ (fun hHeld => ?_)
        · (try dsimp only); (first | assumption | exact HS.out _ (Below.refl _ _).drew | (exact HS.out _ (by assumption)) | (exact HS.out _ (held3_alloc (by assumption) _)) | (exact HS.out _ (held3_alloc' (by assumption) _)) | (exact HS.out _ (below_al1 (by assumption) _)) | (exact HS.out _ (below_set3 (by assumption) (Nat.le_refl _))))
        clear hK K
        try simp only [Act.put, List.setIfInBounds_toArray, List.set_cons_zero, List.set_cons_succ]
        refine wpAnyH_done (by kernel_rfl) (NoPanic.normal ?_) _
        go_wp2_with fail
        go_meet
        exact ⟨w1.heap.size, pa, ka, ca, rfl, hVn.store trivial trivial trivial, hRc.store3 hVn _ _ _, below_set3 hKc (Nat.le_refl _), Nat.le_refl _⟩
    case inr.inl =>
      refine wp_region_noPanic ?_
      refine wp_region_held_drew (S := (fun w' => w'.cell? ⟨w.heap.size, 0, none⟩ = some (.bool true) ∧ w'.cell? ⟨w.heap.size, 1, none⟩ = some (.slice p1 0 c1) ∧ w'.cell? ⟨w.heap.size, 2, none⟩ = some (.slice p2 k2 c2) ∧ Hid (Below w1.heap.size w1 w'))) (by kernel_rfl) (HS.out _ (Below.refl _ _).drew) (fun hHeld => ?_)
      refine wpAnyH_take (i := 0) (v := ?vv13) rfl (by kernel_rfl) (by kernel_rfl) (by kernel_rfl) (fun _ _ _ h => h) (Or.inl ⟨by rfl, ?hy13⟩) (by assumption) ?rest13
      case hy13 => (intro w' hSw; (try dsimp only at hSw); go_simp; first | done | with_reducible rfl)
      simp only [Act.put, List.setIfInBounds_toArray, List.set_cons_zero, List.set_cons_succ]
      refine wpAnyH_take (i := 1) (v := ?vv14) rfl (by kernel_rfl) (by kernel_rfl) (by kernel_rfl) (fun _ _ _ h => h) (Or.inl ⟨by rfl, ?hy14⟩) (by assumption) ?rest14
      case hy14 => (intro w' hSw; (try dsimp only at hSw); go_simp; first | done | with_reducible rfl)
      simp only [Act.put, List.setIfInBounds_toArray, List.set_cons_zero, List.set_cons_succ]
      refine wpAnyH_take (i := 2) (v := ?vv15) rfl (by kernel_rfl) (by kernel_rfl) (by kernel_rfl) (fun _ _ _ h => h) (Or.inl ⟨by rfl, ?hy15⟩) (by assumption) ?rest15
      case hy15 => (intro w' hSw; (try dsimp only at hSw); go_simp; first | done | with_reducible rfl)
      simp only [Act.put, List.setIfInBounds_toArray, List.set_cons_zero, List.set_cons_succ]
      refine wpAnyH_take (i := 3) (v := ?vv16) rfl (by kernel_rfl) (by kernel_rfl) (by kernel_rfl) (fun _ _ _ h => h) (Or.inl ⟨by rfl, ?hy16⟩) (by assumption) ?rest16
      case hy16 => (intro w' hSw; (try dsimp only at hSw); go_simp; first | done | with_reducible rfl)
      simp only [Act.put, List.setIfInBounds_toArray, List.set_cons_zero, List.set_cons_succ]
      refine wpAnyH_take (i := 4) (v := ?vv17) rfl (by kernel_rfl) (by kernel_rfl) (by kernel_rfl) (fun _ _ _ h => h) (Or.inl ⟨by rfl, ?hy17⟩) (by assumption) ?rest17
      case hy17 => (intro w' hSw; (try dsimp only at hSw); go_simp; first | done | with_reducible rfl)
      simp only [Act.put, List.setIfInBounds_toArray, List.set_cons_zero, List.set_cons_succ]
      refine wpAnyH_take (i := 5) (v := ?vv18) rfl (by kernel_rfl) (by kernel_rfl) (by kernel_rfl) (fun _ _ _ h => h) (Or.inl ⟨by rfl, ?hy18⟩) (by assumption) ?rest18
      case hy18 => (intro w' hSw; (try dsimp only at hSw); go_simp; first | done | with_reducible rfl)
      simp only [Act.put, List.setIfInBounds_toArray, List.set_cons_zero, List.set_cons_succ]
      refine wpAnyH_take (i := 6) (v := ?vv19) rfl (by kernel_rfl) (by kernel_rfl) (by kernel_rfl) (fun _ _ _ h => h) (Or.inl ⟨by rfl, ?hy19⟩) (by assumption) ?rest19
      case hy19 => (intro w' hSw; (try dsimp only at hSw); go_simp; first | done | with_reducible rfl)
      simp only [Act.put, List.setIfInBounds_toArray, List.set_cons_zero, List.set_cons_succ]
      refine wpAnyH_take (i := 7) (v := ?vv20) rfl (by kernel_rfl) (by kernel_rfl) (by kernel_rfl) (fun _ _ _ h => h) (Or.inl ⟨by rfl, ?hy20⟩) (by assumption) ?rest20
      case hy20 => (intro w' hSw; (try dsimp only at hSw); go_simp; first | done | with_reducible rfl)
      simp only [Act.put, List.setIfInBounds_toArray, List.set_cons_zero, List.set_cons_succ]
      refine wpAnyH_take (i := 8) (v := ?vv21) rfl (by kernel_rfl) (by kernel_rfl) (by kernel_rfl) (fun _ _ _ h => h) (Or.inl ⟨by rfl, ?hy21⟩) (by assumption) ?rest21
      case hy21 => (intro w' hSw; (try dsimp only at hSw); go_simp; first | done | with_reducible rfl)
      simp only [Act.put, List.setIfInBounds_toArray, List.set_cons_zero, List.set_cons_succ]
      refine wpAnyH_take (i := 9) (v := ?vv22) rfl (by kernel_rfl) (by kernel_rfl) (by kernel_rfl) (fun _ _ _ h => h) (Or.inl ⟨by rfl, ?hy22⟩) (by assumption) ?rest22
      case hy22 => (intro w' hSw; (try dsimp only at hSw); go_simp; first | done | with_reducible rfl)
      simp only [Act.put, List.setIfInBounds_toArray, List.set_cons_zero, List.set_cons_succ]
      refine wpAnyH_ready (rs := [10, 12]) (by kernel_rfl) (by simp) ?_
      refine AllReadyH.cons rfl (fun K hK => ?_) (AllReadyH.cons rfl (fun K hK => ?_) AllReadyH.nil)
      · go_simp
        go_at_call 57
        refine (hWd.out _ (held3' (by assumption))).mono ?_
        rintro e wc ⟨vc, rfl, hRc, hBc⟩
        have hKc := held_any (held3' (W0 := w1) (by assumption)) hBc
        obtain ⟨pa, ka, ca, rfl, hRc'⟩ := id hRc
        clear hRc'
        go_wp2_with fail
        refine hK.out _ _ ?_ (fun hHeld => ?_)
        · (try dsimp only); (first | assumption | exact HS.out _ (Below.refl _ _).drew | (exact HS.out _ (by assumption)) | (exact HS.out _ (held3_alloc (by assumption) _)) | (exact HS.out _ (held3_alloc' (by assumption) _)) | (exact HS.out _ (below_al1 (by assumption) _)) | (exact HS.out _ (below_set3 (by assumption) (Nat.le_refl _))))
        clear hK K
        try simp only [Act.put, List.setIfInBounds_toArray, List.set_cons_zero, List.set_cons_succ]
        refine wpAnyH_take (i := 11) (v := ?vv23) rfl (by kernel_rfl) (by kernel_rfl) (by kernel_rfl) (fun _ _ _ h => h) (Or.inl ⟨by rfl, ?hy23⟩) (by assumption) ?rest23
        case hy23 => (intro w' hSw; (try dsimp only at hSw); go_simp; first | done | with_reducible rfl)
        simp only [Act.put, List.setIfInBounds_toArray, List.set_cons_zero, List.set_cons_succ]
        refine wpAnyH_ready (rs := [12]) (by kernel_rfl) (by simp) ?_
        refine AllReadyH.cons rfl (fun K hK => ?_) AllReadyH.nil
        go_simp
        refine hK.out _ _ ?_ (fun hHeld => ?_)
        · (try dsimp only); (first | assumption | exact HS.out _ (Below.refl _ _).drew | (exact HS.out _ (by assumption)) | (exact HS.out _ (held3_alloc (by assumption) _)) | (exact HS.out _ (held3_alloc' (by assumption) _)) | (exact HS.out _ (below_al1 (by assumption) _)) | (exact HS.out _ (below_set3 (by assumption) (Nat.le_refl _))))
        clear hK K
        try simp only [Act.put, List.setIfInBounds_toArray, List.set_cons_zero, List.set_cons_succ]
        refine wpAnyH_ready (rs := [13]) (by kernel_rfl) (by simp) ?_
        refine AllReadyH.cons rfl (fun K hK => ?_) AllReadyH.nil
        go_simp
        refine hK.out _ _ ?_ (fun hHeld => ?_)
        · (try dsimp only); (first | assumption | exact HS.out _ (Below.refl _ _).drew | (exact HS.out _ (by assumption)) | (exact HS.out _ (held3_alloc (by assumption) _)) | (exact HS.out _ (held3_alloc' (by assumption) _)) | (exact HS.out _ (below_al1 (by assumption) _)) | (exact HS.out _ (below_set3 (by assumption) (Nat.le_refl _))))
        clear hK K
        try simp only [Act.put, List.setIfInBounds_toArray, List.set_cons_zero, List.set_cons_succ]
        refine wpAnyH_done (by kernel_rfl) (NoPanic.normal ?_) _
        go_wp2_with fail
        go_meet
        exact ⟨wc.heap.size, pa, ka, ca, rfl, Var3.alloc wc 24 trivial trivial trivial, hRc.alloc _, below_al1 hKc _, hKc.size⟩
      · go_simp
        refine hK.out _ _ ?_ (fun hHeld => ?_)
        · (try dsimp only); (first | assumption | exact HS.out _ (Below.refl _ _).drew | (exact HS.out _ (by assumption)) | (exact HS.out _ (held3_alloc (by assumption) _)) | (exact HS.out _ (held3_alloc' (by assumption) _)) | (exact HS.out _ (below_al1 (by assumption) _)) | (exact HS.out _ (below_set3 (by assumption) (Nat.le_refl _))))
        clear hK K
        try simp only [Act.put, List.setIfInBounds_toArray, List.set_cons_zero, List.set_cons_succ]
        refine wpAnyH_ready (rs := [10]) (by kernel_rfl) (by simp) ?_
        refine AllReadyH.cons rfl (fun K hK => ?_) AllReadyH.nil
        go_simp
        go_at_call 57
        refine (hWd.out _ (held3' (by assumption))).mono ?_
        rintro e wc ⟨vc, rfl, hRc, hBc⟩
        have hKc := held_any (held3' (W0 := w1) (by assumption)) hBc
        obtain ⟨pa, ka, ca, rfl, hRc'⟩ := id hRc
        clear hRc'
        have hVn := ((Var3.alloc w1 (x := .bool false) (y := .slice none 0 0) (z := .slice none 0 0) 24 trivial trivial trivial).below (Below.refl _ _).drew).below hBc
        obtain ⟨x0, x1, x2, y0, y1, y2⟩ := id hVn.cells
        go_wp2_with fail
        refine hK.out _ _ ?_ (fun hHeld => ?_)
        · (try dsimp only); (first | assumption | exact HS.out _ (Below.refl _ _).drew | (exact HS.out _ (by assumption)) | (exact HS.out _ (held3_alloc (by assumption) _)) | (exact HS.out _ (held3_alloc' (by assumption) _)) | (exact HS.out _ (below_al1 (by assumption) _)) | (exact HS.out _ (below_set3 (by assumption) (Nat.le_refl _))))
        clear hK K
        try simp only [Act.put, List.setIfInBounds_toArray, List.set_cons_zero, List.set_cons_succ]
        refine wpAnyH_take (i := 11) (v := ?vv24) rfl (by kernel_rfl) (by kernel_rfl) (by kernel_rfl) (fun _ _ _ h => h) (Or.inl ⟨by rfl, ?hy24⟩) (by assumption) ?rest24
        case hy24 => (intro w' hSw; (try dsimp only at hSw); go_simp; first | done | with_reducible rfl)
        simp only [Act.put, List.setIfInBounds_toArray, List.set_cons_zero, List.set_cons_succ]
        refine wpAnyH_ready (rs := [13]) (by kernel_rfl) (by simp) ?_
        refine AllReadyH.cons rfl (fun K hK => ?_) AllReadyH.nil
        go_simp
        refine hK.out _ _ ?_ (fun hHeld => ?_)
        · (try dsimp only); (first | assumption | exact HS.out _ (Below.refl _ _).drew | (exact HS.out _ (by assumption)) | (exact HS.out _ (held3_alloc (by assumption) _)) | (exact HS.out _ (held3_alloc' (by assumption) _)) | (exact HS.out _ (below_al1 (by assumption) _)) | (exact HS.out _ (below_set3 (by assumption) (Nat.le_refl _))))
        clear hK K
        try simp only [Act.put, List.setIfInBounds_toArray, List.set_cons_zero, List.set_cons_succ]
        refine wpAnyH_done (by kernel_rfl) (NoPanic.normal ?_) _
        go_wp2_with fail
        go_meet
        exact ⟨w1.heap.size, pa, ka, ca, rfl, hVn.store trivial trivial trivial, hRc.store3 hVn _ _ _, below_set3 hKc (Nat.le_refl _), Nat.le_refl _⟩
    case inr.inr =>
      refine wp_region_noPanic ?_
      refine wp_region_held_drew (S := (fun w' => w'.cell? ⟨w.heap.size, 0, none⟩ = some (.bool true) ∧ w'.cell? ⟨w.heap.size, 1, none⟩ = some (.slice p1 k1 c1) ∧ w'.cell? ⟨w.heap.size, 2, none⟩ = some (.slice p2 k2 c2) ∧ Hid (Below w1.heap.size w1 w'))) (by kernel_rfl) (HS.out _ (Below.refl _ _).drew) (fun hHeld => ?_)
      refine wpAnyH_take (i := 0) (v := ?vv25) rfl (by kernel_rfl) (by kernel_rfl) (by kernel_rfl) (fun _ _ _ h => h) (Or.inl ⟨by rfl, ?hy25⟩) (by assumption) ?rest25
      case hy25 => (intro w' hSw; (try dsimp only at hSw); go_simp; first | done | with_reducible rfl)
      simp only [Act.put, List.setIfInBounds_toArray, List.set_cons_zero, List.set_cons_succ]
      refine wpAnyH_take (i := 1) (v := ?vv26) rfl (by kernel_rfl) (by kernel_rfl) (by kernel_rfl) (fun _ _ _ h => h) (Or.inl ⟨by rfl, ?hy26⟩) (by assumption) ?rest26
      case hy26 => (intro w' hSw; (try dsimp only at hSw); go_simp; first | done | with_reducible rfl)
      simp only [Act.put, List.setIfInBounds_toArray, List.set_cons_zero, List.set_cons_succ]
      refine wpAnyH_take (i := 2) (v := ?vv27) rfl (by kernel_rfl) (by kernel_rfl) (by kernel_rfl) (fun _ _ _ h => h) (Or.inl ⟨by rfl, ?hy27⟩) (by assumption) ?rest27
      case hy27 => (intro w' hSw; (try dsimp only at hSw); go_simp; first | done | with_reducible rfl)
      simp only [Act.put, List.setIfInBounds_toArray, List.set_cons_zero, List.set_cons_succ]
      refine wpAnyH_take (i := 3) (v := ?vv28) rfl (by kernel_rfl) (by kernel_rfl) (by kernel_rfl) (fun _ _ _ h => h) (Or.inl ⟨by rfl, ?hy28⟩) (by assumption) ?rest28
      case hy28 => (intro w' hSw; (try dsimp only at hSw); go_simp; first | done | with_reducible rfl)
      simp only [Act.put, List.setIfInBounds_toArray, List.set_cons_zero, List.set_cons_succ]
      refine wpAnyH_take (i := 4) (v := ?vv29) rfl (by kernel_rfl) (by kernel_rfl) (by kernel_rfl) (fun _ _ _ h => h) (Or.inl ⟨by rfl, ?hy29⟩) (by assumption) ?rest29
      case hy29 => (intro w' hSw; (try dsimp only at hSw); go_simp; first | done | with_reducible rfl)
      simp only [Act.put, List.setIfInBounds_toArray, List.set_cons_zero, List.set_cons_succ]
      refine wpAnyH_take (i := 5) (v := ?vv30) rfl (by kernel_rfl) (by kernel_rfl) (by kernel_rfl) (fun _ _ _ h => h) (Or.inl ⟨by rfl, ?hy30⟩) (by assumption) ?rest30
      case hy30 => (intro w' hSw; (try dsimp only at hSw); go_simp; first | done | with_reducible rfl)
      simp only [Act.put, List.setIfInBounds_toArray, List.set_cons_zero, List.set_cons_succ]
      refine wpAnyH_take (i := 6) (v := ?vv31) rfl (by kernel_rfl) (by kernel_rfl) (by kernel_rfl) (fun _ _ _ h => h) (Or.inl ⟨by rfl, ?hy31⟩) (by assumption) ?rest31
      case hy31 => (intro w' hSw; (try dsimp only at hSw); go_simp; first | done | with_reducible rfl)
      simp only [Act.put, List.setIfInBounds_toArray, List.set_cons_zero, List.set_cons_succ]
      refine wpAnyH_take (i := 7) (v := ?vv32) rfl (by kernel_rfl) (by kernel_rfl) (by kernel_rfl) (fun _ _ _ h => h) (Or.inl ⟨by rfl, ?hy32⟩) (by assumption) ?rest32
      case hy32 => (intro w' hSw; (try dsimp only at hSw); go_simp; first | done | with_reducible rfl)
      simp only [Act.put, List.setIfInBounds_toArray, List.set_cons_zero, List.set_cons_succ]
      refine wpAnyH_take (i := 8) (v := ?vv33) rfl (by kernel_rfl) (by kernel_rfl) (by kernel_rfl) (fun _ _ _ h => h) (Or.inl ⟨by rfl, ?hy33⟩) (by assumption) ?rest33
      case hy33 => (intro w' hSw; (try dsimp only at hSw); go_simp; first | done | with_reducible rfl)
      simp only [Act.put, List.setIfInBounds_toArray, List.set_cons_zero, List.set_cons_succ]
      refine wpAnyH_take (i := 9) (v := ?vv34) rfl (by kernel_rfl) (by kernel_rfl) (by kernel_rfl) (fun _ _ _ h => h) (Or.inl ⟨by rfl, ?hy34⟩) (by assumption) ?rest34
      case hy34 => (intro w' hSw; (try dsimp only at hSw); go_simp; first | done | with_reducible rfl)
      simp only [Act.put, List.setIfInBounds_toArray, List.set_cons_zero, List.set_cons_succ]
      refine wpAnyH_ready (rs := [10, 12]) (by kernel_rfl) (by simp) ?_
      refine AllReadyH.cons rfl (fun K hK => ?_) (AllReadyH.cons rfl (fun K hK => ?_) AllReadyH.nil)
      · go_simp
        go_at_call 57
        refine (hWd.out _ (held3' (by assumption))).mono ?_
        rintro e wc ⟨vc, rfl, hRc, hBc⟩
        have hKc := held_any (held3' (W0 := w1) (by assumption)) hBc
        obtain ⟨pa, ka, ca, rfl, hRc'⟩ := id hRc
        clear hRc'
        go_wp2_with fail
        refine hK.out _ _ ?_ (fun hHeld => ?_)
        · (try dsimp only); (first | assumption | exact HS.out _ (Below.refl _ _).drew | (exact HS.out _ (by assumption)) | (exact HS.out _ (held3_alloc (by assumption) _)) | (exact HS.out _ (held3_alloc' (by assumption) _)) | (exact HS.out _ (below_al1 (by assumption) _)) | (exact HS.out _ (below_set3 (by assumption) (Nat.le_refl _))))
        clear hK K
        try simp only [Act.put, List.setIfInBounds_toArray, List.set_cons_zero, List.set_cons_succ]
        refine wpAnyH_take (i := 11) (v := ?vv35) rfl (by kernel_rfl) (by kernel_rfl) (by kernel_rfl) (fun _ _ _ h => h) (Or.inl ⟨by rfl, ?hy35⟩) (by assumption) ?rest35
        case hy35 => (intro w' hSw; (try dsimp only at hSw); go_simp; first | done | with_reducible rfl)
        simp only [Act.put, List.setIfInBounds_toArray, List.set_cons_zero, List.set_cons_succ]
        refine wpAnyH_ready (rs := [12]) (by kernel_rfl) (by simp) ?_
        refine AllReadyH.cons rfl (fun K hK => ?_) AllReadyH.nil
        go_simp
        refine hK.out _ _ ?_ (fun hHeld => ?_)
        · (try dsimp only); (first | assumption | exact HS.out _ (Below.refl _ _).drew | (exact HS.out _ (by assumption)) | (exact HS.out _ (held3_alloc (by assumption) _)) | (exact HS.out _ (held3_alloc' (by assumption) _)) | (exact HS.out _ (below_al1 (by assumption) _)) | (exact HS.out _ (below_set3 (by assumption) (Nat.le_refl _))))
        clear hK K
        try simp only [Act.put, List.setIfInBounds_toArray, List.set_cons_zero, List.set_cons_succ]
        refine wpAnyH_ready (rs := [13]) (by kernel_rfl) (by simp) ?_
        refine AllReadyH.cons rfl (fun K hK => ?_) AllReadyH.nil
        go_simp
        refine hK.out _ _ ?_ (fun hHeld => ?_)
        · (try dsimp only); (first | assumption | exact HS.out _ (Below.refl _ _).drew | (exact HS.out _ (by assumption)) | (exact HS.out _ (held3_alloc (by assumption) _)) | (exact HS.out _ (held3_alloc' (by assumption) _)) | (exact HS.out _ (below_al1 (by assumption) _)) | (exact HS.out _ (below_set3 (by assumption) (Nat.le_refl _))))
        clear hK K
        try simp only [Act.put, List.setIfInBounds_toArray, List.set_cons_zero, List.set_cons_succ]
        refine wpAnyH_done (by kernel_rfl) (NoPanic.normal ?_) _
        go_wp2_with fail
        go_meet
        exact ⟨wc.heap.size, pa, ka, ca, rfl, Var3.alloc wc 24 trivial trivial trivial, hRc.alloc _, below_al1 hKc _, hKc.size⟩
      · go_simp
        refine hK.out _ _ ?_ (fun hHeld => ?_)
        · (try dsimp only); (first | assumption | exact HS.out _ (Below.refl _ _).drew | (exact HS.out _ (by assumption)) | (exact HS.out _ (held3_alloc (by assumption) _)) | (exact HS.out _ (held3_alloc' (by assumption) _)) | (exact HS.out _ (below_al1 (by assumption) _)) | (exact HS.out _ (below_set3 (by assumption) (Nat.le_refl _))))
        clear hK K
        try simp only [Act.put, List.setIfInBounds_toArray, List.set_cons_zero, List.set_cons_succ]
        refine wpAnyH_ready (rs := [10]) (by kernel_rfl) (by simp) ?_
        refine AllReadyH.cons rfl (fun K hK => ?_) AllReadyH.nil
        go_simp
        go_at_call 57
        refine (hWd.out _ (held3' (by assumption))).mono ?_
        rintro e wc ⟨vc, rfl, hRc, hBc⟩
        have hKc := held_any (held3' (W0 := w1) (by assumption)) hBc
        obtain ⟨pa, ka, ca, rfl, hRc'⟩ := id hRc
        clear hRc'
        have hVn := ((Var3.alloc w1 (x := .bool false) (y := .slice none 0 0) (z := .slice none 0 0) 24 trivial trivial trivial).below (Below.refl _ _).drew).below hBc
        obtain ⟨x0, x1, x2, y0, y1, y2⟩ := id hVn.cells
        go_wp2_with fail
        refine hK.out _ _ ?_ (fun hHeld => ?_)
        · (try dsimp only); (first | assumption | exact HS.out _ (Below.refl _ _).drew | (exact HS.out _ (by assumption)) | (exact HS.out _ (held3_alloc (by assumption) _)) | (exact HS.out _ (held3_alloc' (by assumption) _)) | (exact HS.out _ (below_al1 (by assumption) _)) | (exact HS.out _ (below_set3 (by assumption) (Nat.le_refl _))))
        clear hK K
        try simp only [Act.put, List.setIfInBounds_toArray, List.set_cons_zero, List.set_cons_succ]
        refine wpAnyH_take (i := 11) (v := ?vv36) rfl (by kernel_rfl) (by kernel_rfl) (by kernel_rfl) (fun _ _ _ h => h) (Or.inl ⟨by rfl, ?hy36⟩) (by assumption) ?rest36
        case hy36 => (intro w' hSw; (try dsimp only at hSw); go_simp; first | done | with_reducible rfl)
        simp only [Act.put, List.setIfInBounds_toArray, List.set_cons_zero, List.set_cons_succ]
        refine wpAnyH_ready (rs := [13]) (by kernel_rfl) (by simp) ?_
        refine AllReadyH.cons rfl (fun K hK => ?_) AllReadyH.nil
        go_simp
        refine hK.out _ _ ?_ (fun hHeld => ?_)
        · (try dsimp only); (first | assumption | exact HS.out _ (Below.refl _ _).drew | (exact HS.out _ (by assumption)) | (exact HS.out _ (held3_alloc (by assumption) _)) | (exact HS.out _ (held3_alloc' (by assumption) _)) | (exact HS.out _ (below_al1 (by assumption) _)) | (exact HS.out _ (below_set3 (by assumption) (Nat.le_refl _))))
        clear hK K
        try simp only [Act.put, List.setIfInBounds_toArray, List.set_cons_zero, List.set_cons_succ]
        refine wpAnyH_done (by kernel_rfl) (NoPanic.normal ?_) _
        go_wp2_with fail
        go_meet
        exact ⟨w1.heap.size, pa, ka, ca, rfl, hVn.store trivial trivial trivial, hRc.store3 hVn _ _ _, below_set3 hKc (Nat.le_refl _), Nat.le_refl _⟩
  case rest =>
      obtain ⟨X, pa, ka, ca, rfl, hVX, hRX, hKX, hXX⟩ := hcut
      clear hcase hWd
      obtain ⟨b0, b1, b2, _⟩ := HS.out wc hKX
      have HP2 : Hid ((Rep W32 wc (.slice pa ka ca) n ∧ Rep B16 wc (.slice p2 k2 c2) d) ∧ Var3 wc X (.bool sg) (.slice pa ka ca) (.slice none 0 0) ∧ Var3 wc (w.heap.size + 1) (.bool false) (.slice none 0 0) (.slice none 0 0) ∧ Below w.heap.size w wc) :=
        hid ⟨⟨hRX, HP.out.1.2.below hKX⟩, hVX, HP.out.2.1.2.below hKX, HP.out.2.2.trans (hKX.mono HP.out.2.2.size)⟩
      have hne : w.heap.size + 1 < X := by obtain ⟨_, h0, _⟩ := HP.out.2.1.2; exact Nat.lt_of_lt_of_le (Array.getElem?_eq_some_iff.1 h0).1 hXX
      have hWh := hid (whole_any (.agg #[.bool s, .slice p1 k1 c1, .slice p2 k2 c2]) s n d wc ⟨_, _, rfl, HP.out.1.1.below hKX, HP.out.1.2.below hKX⟩)
      have hCell : Hid (∀ W, Below wc.heap.size wc W → W.cell? ⟨w.heap.size, 2, none⟩ = some (.slice p2 k2 c2)) := hid fun W hb => ((HP.out.2.1.1.below hKX).below hb).cells.2.2.1
      clear HP HS hRX hKX hVX hXX
      have hOne := hWh.out
      clear hWh
      by_cases h1 : d ≤ 1
      · rw [decide_eq_true h1] at hOne
        have H1 := hid h1
        clear h1
        go_wp2_with fail
        refine hOne.mono ?_
        rintro e w4 ⟨rfl, hB4⟩
        clear hOne
        obtain ⟨x0, x1, x2, _⟩ := (HP2.out.2.1.below hB4).cells
        obtain ⟨z0, z1, z2, r0, r1, r2⟩ := (HP2.out.2.2.1.below hB4).cells
        go_wp2_with fail
        have hV := HP2.out.2.2.1.below hB4
        exact rRat_ret rfl (hV.store trivial trivial trivial) ⟨_, rfl, ⟨_, _, rfl, (HP2.out.1.1.below hB4).store3 hV _ _ _, by rw [show den0' d = 0 from if_pos H1.out]; exact Rep.nil⟩, below_set3 (HP2.out.2.2.2.trans (hB4.mono HP2.out.2.2.2.size)) (Nat.le_succ _)⟩
      · rw [decide_eq_false h1] at hOne
        have H1 := hid h1
        clear h1
        go_wp2_with fail
        refine hOne.mono ?_
        rintro e w2 ⟨rfl, hB2⟩
        clear hOne b0 b1 b2
        have hL2 := hid (list_any _ d w2 (HP2.out.1.2.below hB2) HN.out.2)
        have HP3 : Hid (Rep W32 w2 (.slice pa ka ca) n ∧ Var3 w2 X (.bool sg) (.slice pa ka ca) (.slice none 0 0) ∧ Var3 w2 (w.heap.size + 1) (.bool false) (.slice none 0 0) (.slice none 0 0) ∧ Below w.heap.size w w2) :=
          hid ⟨HP2.out.1.1.below hB2, HP2.out.2.1.below hB2, HP2.out.2.2.1.below hB2, HP2.out.2.2.2.trans (hB2.mono HP2.out.2.2.2.size)⟩
        have b2 := hCell.out w2 hB2
        clear HP2 hB2
        go_upto_region 4 with fail
        refine hL2.out.mono ?_
        rintro e w3 ⟨vq, rfl, hRq, hBq⟩
        clear hL2
        obtain ⟨pb, kb, cb, rfl, _⟩ := id hRq
        obtain ⟨x0, x1, x2, m0, m1, m2⟩ := (HP3.out.2.1.below hBq).cells
        go_upto_region 4 with fail
        have HP4 : Hid ((Rep W32 (w3.setCell ⟨X, 2, none⟩ (.slice pb kb cb)) (.slice pa ka ca) n ∧ Rep W32 (w3.setCell ⟨X, 2, none⟩ (.slice pb kb cb)) (.slice pb kb cb) d) ∧ Var3 (w3.setCell ⟨X, 2, none⟩ (.slice pb kb cb)) X (.bool sg) (.slice pa ka ca) (.slice pb kb cb) ∧ Var3 (w3.setCell ⟨X, 2, none⟩ (.slice pb kb cb)) (w.heap.size + 1) (.bool false) (.slice none 0 0) (.slice none 0 0) ∧ Below w.heap.size w (w3.setCell ⟨X, 2, none⟩ (.slice pb kb cb))) :=
          hid ⟨⟨(HP3.out.1.below hBq).set1 (HP3.out.2.1.below hBq) _ _, hRq.set1 (HP3.out.2.1.below hBq) _ _⟩, (HP3.out.2.1.below hBq).set2 trivial, (HP3.out.2.2.1.below hBq).other1 (Nat.ne_of_lt hne) _ _, (HP3.out.2.2.2.trans (hBq.mono HP3.out.2.2.2.size)).setCell (by show w.heap.size ≤ X; omega) _⟩
        clear hRq hBq x0 x1 x2 m0 m1 m2 HP3
        generalize w3.setCell ⟨X, 2, none⟩ (.slice pb kb cb) = W4 at *
        obtain ⟨x0, x1, x2, _⟩ := HP4.out.2.1.cells
        obtain ⟨z0, z1, z2, r0, r1, r2⟩ := HP4.out.2.2.1.cells
        go_wp2_with fail
        exact rRat_ret rfl (HP4.out.2.2.1.store trivial trivial trivial) ⟨_, rfl, ⟨_, _, rfl, HP4.out.1.1.store3 HP4.out.2.2.1 _ _ _, by rw [show den0' d = d from if_neg H1.out]; exact HP4.out.1.2.store3 HP4.out.2.2.1 _ _ _⟩, below_set3 HP4.out.2.2.2 (Nat.le_succ _)⟩
end Go.Proofs.YtdinpeglclkjhaaDoor
