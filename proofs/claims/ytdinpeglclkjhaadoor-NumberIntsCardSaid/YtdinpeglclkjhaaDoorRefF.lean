/- The rational numbers of the specification: Make, the short ways. -/
import Derived.Test.YtdinpeglclkjhaaDoorRefE
namespace Go.Proofs.YtdinpeglclkjhaaDoor
open Go.RowKit Dg

def QNorm (w : World) (v : Value) (t : Bool × Nat × Nat) : Prop := QRep w v t.1 t.2.1 t.2.2
theorem QNorm.below {w w' : World} {v : Value} {t : Bool × Nat × Nat} (h : QNorm w v t) (hb : Below w.heap.size w w') : QNorm w' v t := QRep.below h hb
/-- The rational number with the sign s, the numerator n and the denominator d; 0 where d is 0. -/
def mkq (s : Bool) (n d : Nat) : Bool × Nat × Nat := if n = 0 ∨ d = 0 then (false, 0, 1) else frac s n d
theorem mkq_one {s : Bool} {n : Nat} (h : n ≠ 0) : mkq s n 1 = (s, n, 1) := by
  unfold mkq frac
  rw [if_neg (by omega), Nat.gcd_one_right]
  simp [h]

theorem slc_news {w : World} {b o k : Nat} {f : Nat → Nat} (h : Slc w (some ⟨b, o, none⟩) k f) : ∀ j u, ((List.range k).map (fun j => Value.int .u32 (f j : Nat)))[j]? = some u → w.cell? ((⟨b, o, none⟩ : Addr).add j) = some u := fun j u hu => by
  have hadd : (⟨b, o, none⟩ : Addr).add j = ⟨b, o + j, none⟩ := by unfold Addr.add; split <;> simp_all
  have hj : j < k := by
    have := (List.getElem?_eq_some_iff.1 hu).1
    simpa using this
  rw [List.getElem?_map, List.getElem?_range hj] at hu
  obtain ⟨b', o', hp, hc⟩ := h (by omega)
  simp at hp
  obtain ⟨rfl, rfl⟩ := hp
  rw [hadd, hc j hj, ← hu]
  rfl
theorem own_empty (w : World) (base : Nat) (hb : base ≤ w.heap.size) : (w.alloc (.cells #[] 58)).ownsRow base 58 1 (.slice (some ⟨w.heap.size, 0, none⟩) 0 0) 0 [] :=
  ⟨rfl, .inr ⟨w.heap.size, 0, #[], rfl, hb, heap_alloc_new w _, Nat.le_refl _, by unfold maxLen; omega, rfl, rfl⟩⟩

theorem Make_ret {W : World} {B : Nat} {x y z : Value} {tm : Array Value} {R : Ending → World → Prop} (h2 : tm[6]?.getD undef = .pointer (some ⟨B, 0, none⟩)) (hV : Var3 W B x y z) (hR : R (.returned (.agg #[x, y, z])) W) :
    bodyPost Tryd.prog Tryd.f60 R .ret { tmps := tm, defers := [] } W := by
  obtain ⟨c0, c1, c2, _, _, _⟩ := hV.cells
  exact bodyPost_ret (v := .agg #[x, y, z]) (by simp [results, Tryd.results60, go_sem, h2, c0, c1, c2]) rfl hR

set_option maxHeartbeats 2000000 in
set_option maxRecDepth 100000 in
theorem Make_short (s : Bool) (vn vd : Value) (n d : Nat) (w : World) (hn : Rep B16 w vn n) (hd : Rep B16 w vd d) (hnB : n < B16 ^ 1000000000) (hc : n = 0 ∨ d ≤ 1) :
    Calls Tryd.prog 60 #[.bool s, vn, vd] w fun e w' => ∃ v, e = .returned v ∧ QNorm w' v (mkq s n d) ∧ Below w.heap.size w w' := by
  obtain ⟨i0, hi, hz0, hz1, hz2⟩ := info_parts Tryd.infoU32
  obtain ⟨p1, k1, c1, rfl, hk1, hl1, hs1⟩ := hn
  obtain ⟨p2, k2, c2, rfl, hk2, hl2, hs2⟩ := hd
  have hz1' := hl1.zero_iff B16_pos
  have hz2' := hl2.zero_iff B16_pos
  have ho2 := one_of_len16 hl2
  have hb1 := hl1.le B16_pos hnB
  by_cases h0 : n = 0 ∨ d = 0
  · have hm : mkq s n d = (false, 0, 1) := if_pos h0
    rw [hm]
    have hcs : k1 = 0 ∨ (((k1 : Int) == 0) = false ∧ k2 = 0) := by
      by_cases h : k1 = 0
      · exact .inl h
      · exact .inr ⟨by simpa using h, hz2'.1 (h0.resolve_left fun h' => h (hz1'.1 h'))⟩
    clear hz1' hz2' ho2 hl1 hl2 hs1 hs2 hm h0 hc hnB
    rcases hcs with rfl | ⟨hf, rfl⟩
    all_goals
      go_enter Tryd.func60, Tryd.ntmps60
      go_wp2_with fail
      refine (NatOf_any 1 _ (by decide)).mono ?_
      rintro e w1 ⟨v1, rfl, hR1, hB1⟩
      have hV := (Var3.alloc w (x := .bool false) (y := .slice none 0 0) (z := .slice none 0 0) 34 trivial trivial trivial).below hB1
      have HP := hid (And.intro hR1 (And.intro hV (((Below.refl _ _).alloc (Nat.le_refl _) (.cells #[.bool false, .slice none 0 0, .slice none 0 0] 34)).trans (hB1.mono (by rw [World.size_alloc]; omega)))))
      obtain ⟨x0, x1, x2, y0, y1, y2⟩ := hV.cells
      obtain ⟨pb, kb, cb, rfl, _⟩ := id hR1
      clear hR1 hV hB1
      go_wp2_with fail
      exact Make_ret rfl (HP.out.2.1.store trivial trivial trivial) ⟨_, rfl, ⟨_, _, rfl, Rep.nil, HP.out.1.store3 HP.out.2.1 _ _ _⟩, below_set3 HP.out.2.2 (Nat.le_refl _)⟩
  · have hd1 : d = 1 := by omega
    have hn0 : n ≠ 0 := fun h => h0 (.inl h)
    subst hd1
    rw [mkq_one hn0]
    obtain ⟨rfl, hdg⟩ := ho2.1 rfl
    obtain ⟨b2, o2, rfl, hc2⟩ := hs2 (by omega)
    have hc20 := hc2 0 (by omega)
    rw [hdg, Nat.add_zero] at hc20
    have hk10 : k1 ≠ 0 := fun h => hn0 (hz1'.2 h)
    have hf : ((k1 : Int) == 0) = false := by simpa using hk10
    obtain ⟨b1, o1, rfl, hc1⟩ := hs1 (by omega)
    have hcell : (w.alloc (.cells #[.bool false, .slice none 0 0, .slice none 0 0] 34)).cell? ⟨b2, o2, none⟩ = some (.int .u32 1) := by rw [World.cell?_alloc_lt _ _ _ (World.block_lt_of_cell? _ _ hc20)]; exact hc20
    have hV0 := Var3.alloc w (x := .bool false) (y := .slice none 0 0) (z := .slice none 0 0) 34 trivial trivial trivial
    have hB0 := (Below.refl w.heap.size w).alloc (Nat.le_refl _) (.cells #[.bool false, .slice none 0 0, .slice none 0 0] 34)
    have HS := hid (And.intro hs1 (And.intro hl1 (And.intro hV0 hB0)))
    have Hc1 := hid hc1
    clear hz1' hz2' ho2 hl1 hl2 hs1 hs2 h0 hc hnB hdg hc2 hn0 hc20 hc1 hV0 hB0
    go_enter Tryd.func60, Tryd.ntmps60
    go_upto_region 4 with fail
    generalize w.alloc (.cells #[.bool false, .slice none 0 0, .slice none 0 0] 34) = W0 at *
    have hK1 := HS.out.2.2.2.alloc HS.out.2.2.2.size (.cells #[] 58)
    have hnews := hid (slc_news (HS.out.1.below hK1))
    have hown := hid (own_empty W0 w.heap.size HS.out.2.2.2.size)
    go_wp2_with (first
      | (at_builtin; refine wpList_append_own _ rfl _ _ 32 rfl w.heap.size 58 i0 (.int .u32 0) 1 4 Tryd.underlying32 hi hz0 hz1 hz2 rfl (by decide) _ _ _ rfl hown.out ⟨b1, o1, none⟩ k1 c1 ((List.range k1).map (fun j => Value.int .u32 (dg B16 n j : Nat))) rfl (by simp) hnews.out (fun x hx => by simp at hx; obtain ⟨_, _, rfl⟩ := hx; rfl) (by unfold maxLen; omega) (by omega) (by rw [World.size_alloc]; have := HS.out.2.2.2.size; omega) ?_; intro v' w3 hown' hgrow3 hnil3))
    have hB3 : Below W0.heap.size W0 w3 := ((Below.refl W0.heap.size W0).alloc (Nat.le_refl _) (.cells #[] 58)).grown (show (W0.alloc (.cells #[] 58)).grownBy w3 (Value.ownBlock (.slice (some ⟨W0.heap.size, 0, none⟩) 0 0)) from hgrow3) (by rw [World.size_alloc]; omega) (fun q hq => by simp only [Value.ownBlock, Option.some.injEq] at hq; omega)
    have hO3 : Own w3 w.heap.size v' k1 (dg B16 n) := by simpa [Own] using hown'
    clear hown' hgrow3 hnil3 hnews hown hK1 hcell Hc1
    obtain ⟨p3, c3, rfl, hkc, hsl3⟩ := hO3.slc
    have HP3 := hid (And.intro (show Rep B16 w3 (.slice p3 k1 c3) n from ⟨p3, k1, c3, rfl, hkc, HS.out.2.1, hsl3⟩) (And.intro (HS.out.2.2.1.below hB3) (HS.out.2.2.2.trans (hB3.mono HS.out.2.2.2.size))))
    clear hB3 hO3 hsl3
    refine (NatOf_any 1 _ (by decide)).mono ?_
    rintro e w4 ⟨v1, rfl, hR1, hB4⟩
    have hV := HP3.out.2.1.below hB4
    have HP := hid (And.intro hR1 (And.intro (HP3.out.1.below hB4) (And.intro hV (HP3.out.2.2.trans (hB4.mono HP3.out.2.2.size)))))
    obtain ⟨x0, x1, x2, y0, y1, y2⟩ := hV.cells
    obtain ⟨pb, kb, cb, rfl, _⟩ := id hR1
    clear hR1 hV hB4 HP3
    go_wp2_with fail
    exact Make_ret rfl (HP.out.2.2.1.store trivial trivial trivial) ⟨_, rfl, ⟨_, _, rfl, HP.out.2.1.store3 HP.out.2.2.1 _ _ _, HP.out.1.store3 HP.out.2.2.1 _ _ _⟩, below_set3 HP.out.2.2.2 (Nat.le_refl _)⟩
end Go.Proofs.YtdinpeglclkjhaaDoor
