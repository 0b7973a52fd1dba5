/- The natural numbers of the specification: NatDiv. -/
import Derived.Test.YtdinpeglclkjhaaDoorRefO
namespace Go.Proofs.YtdinpeglclkjhaaDoor
open Go.RowKit Dg

theorem But.below {b B : Nat} {w0 w w' : World} (h : But b w w') (hB : B ≤ b) (hb : Below B w0 w) (hs : B ≤ w.heap.size) : Below B w0 w' :=
  hb.trans ⟨h.os, h.tape, h.output, h.size, fun k hk => h.block k (by omega) (by omega)⟩
theorem URow.but {b c L D : Nat} {w w' : World} (h : But b w w') (hc : c ≠ b) (hr : URow w c L D) : URow w' c L D := by
  obtain ⟨cur, h0, h1⟩ := hr
  exact ⟨cur, by rw [h.block c (Array.getElem?_eq_some_iff.1 h0).1 hc]; exact h0, h1⟩
theorem own_urow {w : World} {base : Nat} {v : Value} {n x : Nat} (h : Own w base v n (dg B16 x)) (hn : 0 < n) : ∃ g cap, v = .slice (some ⟨g, 0, none⟩) n cap ∧ base ≤ g ∧ n ≤ cap ∧ cap ≤ maxLen ∧ URow w g n x := by
  obtain ⟨_, h2⟩ := h
  rcases h2 with ⟨_, h0⟩ | ⟨g, cap, cur, hv, hb, hg, hc, hm, hs, ht⟩
  · omega
  · refine ⟨g, cap, hv, hb, hc, hm, cur, hg, fun j hj => ?_⟩
    rw [Nat.mul_one] at ht
    have h3 := congrArg (fun l => l[j]?) ht
    simp only [List.getElem?_take_of_lt hj, List.getElem?_map, List.getElem?_range hj, Option.map_some] at h3
    rw [← Array.getElem?_toList]
    exact h3
theorem urow_made (w : World) (N : Nat) : URow (w.alloc (.cells (madeCells #[.int .u32 0] N) 58)) w.heap.size N 0 :=
  ⟨_, heap_alloc_new w _, fun j hj => by
    have h := (World.rowIs_made w (.int .u32 0) N 58).cell hj
    simp only [World.cell?, heap_alloc_new] at h
    rw [show (madeCells #[Value.int .u32 0] N)[j]? = some (Value.int .u32 0) from h]
    simp [dg]⟩

def DivRel (w0 : World) (g qb b1 o1 n L T A V : Nat) (jv : Value) (wr : World) : Prop :=
  ∃ t Z D : Nat, t ≤ T ∧ jv = .int .i64 ((t : Int) - 1) ∧ D = A % B16 ^ t + B16 ^ t * ((A / B16 ^ t) % V) ∧ Z = B16 ^ t * ((A / B16 ^ t) / V) ∧ URow wr g L D ∧ URow wr qb T Z ∧ Slc wr (some ⟨b1, o1, none⟩) n (dg B16 V) ∧ Below w0.heap.size w0 wr

theorem div_P {A V t : Nat} : (A % B16 ^ (t + 1) + B16 ^ (t + 1) * ((A / B16 ^ (t + 1)) % V)) / B16 ^ t = (A / B16 ^ (t + 1)) % V * B16 + dg B16 A t ∧ (A % B16 ^ (t + 1) + B16 ^ (t + 1) * ((A / B16 ^ (t + 1)) % V)) % B16 ^ t = A % B16 ^ t := by
  have hp : 0 < B16 ^ t := Nat.pow_pos B16_pos
  generalize (A / B16 ^ (t + 1)) % V = R
  rw [mod_succ, Nat.pow_succ]
  have e : A % B16 ^ t + B16 ^ t * dg B16 A t + B16 ^ t * B16 * R = A % B16 ^ t + B16 ^ t * (R * B16 + dg B16 A t) := by grind
  rw [e]
  constructor
  · rw [Nat.add_mul_div_left _ _ hp, Nat.div_eq_of_lt (Nat.mod_lt _ hp), Nat.zero_add]
  · rw [Nat.add_mul_mod_self_left, Nat.mod_mod]
theorem div_P_lt {R V g : Nat} (hR : R < V) (hg : g < B16) : R * B16 + g < B16 * V := by
  have h : (R + 1) * B16 ≤ V * B16 := Nat.mul_le_mul_right _ hR
  rw [Nat.add_mul, Nat.one_mul] at h
  rw [Nat.mul_comm B16]
  omega
theorem div_start {A V m n T : Nat} (hA : A < B16 ^ m) (hV : Len B16 V n) (hn : 0 < n) (hT : T + n = m + 1) : A = A % B16 ^ T + B16 ^ T * ((A / B16 ^ T) % V) ∧ 0 = B16 ^ T * ((A / B16 ^ T) / V) := by
  have hlt : A / B16 ^ T < V := by
    have h1 : A / B16 ^ T < B16 ^ (n - 1) := Nat.div_lt_of_lt_mul (by rw [← Nat.pow_add, show T + (n - 1) = m by omega]; exact hA)
    exact Nat.lt_of_lt_of_le h1 (hV.2 hn)
  rw [Nat.mod_eq_of_lt hlt, Nat.div_eq_of_lt hlt, Nat.mod_add_div]
  exact ⟨rfl, rfl⟩
theorem norm_pos {d s : Nat} (hd : 0 < d) (h : d * 2 ^ s < 65536) : s < 16 := by
  rcases Nat.lt_or_ge s 16 with h1 | h1
  · exact h1
  · have h2 : 2 ^ 16 ≤ 2 ^ s := Nat.pow_le_pow_right (by omega) h1
    have h3 : 1 * 2 ^ s ≤ d * 2 ^ s := Nat.mul_le_mul_right _ hd
    omega
theorem norm_len {y k s : Nat} (hy : Len B16 y k) (hk : 0 < k) (h : dg B16 y (k - 1) * 2 ^ s < 65536) : Len B16 (y * 2 ^ s) k := by
  obtain ⟨t, rfl⟩ : ∃ t, k = t + 1 := ⟨k - 1, by omega⟩
  rw [show t + 1 - 1 = t by omega] at h
  have e : dg B16 y t = y / B16 ^ t := dg_top hy.1
  constructor
  · have h1 : y < (dg B16 y t + 1) * B16 ^ t := by rw [e]; have := Nat.lt_div_mul_add (a := y) (Nat.pow_pos (n := t) B16_pos); rw [Nat.add_mul, Nat.one_mul]; omega
    have h2 : y * 2 ^ s < (dg B16 y t + 1) * B16 ^ t * 2 ^ s := Nat.mul_lt_mul_of_pos_right h1 (Nat.pow_pos (by omega))
    have h3 : (dg B16 y t + 1) * 2 ^ s ≤ 65536 := by
      have hdv : 2 ^ s ∣ 65536 := by
        have hs := norm_pos (Nat.pos_of_ne_zero (hy.top B16_pos (by omega))) h
        exact ⟨2 ^ (16 - s), by rw [← Nat.pow_add, show s + (16 - s) = 16 by omega]⟩
      obtain ⟨c, hc⟩ := hdv
      rw [hc, Nat.mul_comm (2 ^ s)] at h
      have := Nat.lt_of_mul_lt_mul_right h
      rw [hc, Nat.mul_comm (2 ^ s)]
      exact Nat.mul_le_mul_right _ this
    have h4 : (dg B16 y t + 1) * B16 ^ t * 2 ^ s ≤ B16 ^ (t + 1) := by
      rw [Nat.pow_succ, Nat.mul_right_comm, Nat.mul_comm (B16 ^ t)]
      exact Nat.mul_le_mul_right _ h3
    omega
  · intro _
    exact Nat.le_trans (hy.2 (by omega)) (Nat.le_mul_of_pos_right _ (Nat.pow_pos (by omega)))

set_option maxHeartbeats 4000000 in
set_option maxRecDepth 100000 in
theorem NatDiv_less (va vb : Value) (x y : Nat) (w : World) (ha : Rep B16 w va x) (hb : Rep B16 w vb y) (hx : x < B16 ^ 1000000000) (hy : y < B16 ^ 1000000000) (hxy : x < y) :
    Calls Tryd.prog 98 #[va, vb] w fun e w' => ∃ v1 v2, e = .returned (.tuple #[v1, v2]) ∧ Rep B16 w' v1 (x / y) ∧ Rep B16 w' v2 (x % y) ∧ Below w.heap.size w w' := by
  obtain ⟨i0, hi, hz0, hz1, hz2⟩ := info_parts Tryd.infoU32
  have HC := hid (NatCmp_any va vb x y w ha hb hx hy)
  obtain ⟨p1, k1, c1, rfl, hk1, hl1, hs1⟩ := ha
  obtain ⟨p2, k2, c2, rfl, hk2, hl2, hs2⟩ := hb
  have hb1 := hl1.le B16_pos hx
  have h20 : ((k2 : Int) == 0) = false := by
    have h : k2 ≠ 0 := fun h => by have := (hl2.zero_iff B16_pos).2 h; omega
    simpa using h
  have HS := hid (And.intro hs1 hl1)
  rw [Nat.div_eq_of_lt hxy, Nat.mod_eq_of_lt hxy]
  have hcm : cmp3 x y = -1 := cmp3_lt hxy
  rw [hcm] at HC
  clear hcm hxy hx hy hl2 hs2 hk2
  by_cases h0 : k1 = 0
  · subst h0
    clear hs1 hl1
    go_enter Tryd.func98, Tryd.ntmps98
    go_wp2_with fail
    refine HC.out.mono ?_
    rintro e w' ⟨rfl, q, rfl⟩
    have hB1 := (below_drewN (Below.refl w.heap.size w) q)
    go_wp2_with (first
      | (at_builtin; refine wpList_append_run rfl _ _ _ rfl _ _ _ rfl rfl (Tryd.app0 _ _ p1 c1) ?_))
    go_ret2
    exact ⟨_, _, rfl, Rep.nil, ⟨_, 0, 0, rfl, Nat.le_refl _, HS.out.2, Slc.zero⟩, hB1.alloc hB1.size _⟩
  · obtain ⟨b1, o1, rfl, hc1⟩ := hs1 (by omega)
    clear hc1 hs1 hl1
    go_enter Tryd.func98, Tryd.ntmps98
    go_wp2_with fail
    refine HC.out.mono ?_
    rintro e w' ⟨rfl, q, rfl⟩
    have hB1 := (below_drewN (Below.refl w.heap.size w) q)
    have hs1' := HS.out.1.below hB1
    generalize w.drewN q = W at *
    have hal := hB1.alloc hB1.size (.cells #[] 58)
    have hnews := hid (slc_news (hs1'.below ((Below.refl W.heap.size W).alloc (Nat.le_refl _) (.cells #[] 58))))
    have hown := hid (own_empty W w.heap.size hB1.size)
    have hsz := hB1.size
    go_wp2_with (first
      | (at_builtin; refine wpList_append_own _ rfl _ _ 32 rfl w.heap.size 58 i0 (.int .u32 0) 1 4 Tryd.underlying32 hi hz0 hz1 hz2 rfl (by decide) _ _ _ rfl hown.out ⟨b1, o1, none⟩ k1 c1 ((List.range k1).map (fun j => Value.int .u32 (dg B16 x j : Nat))) rfl (by simp) hnews.out (fun x hx => by simp at hx; obtain ⟨_, _, rfl⟩ := hx; rfl) (by unfold maxLen; omega) (by omega) (by rw [World.size_alloc]; omega) ?_; intro v' w3 hown' hgrow3 hnil3))
    have hB3 : Below w.heap.size w w3 := hal.grown (show (W.alloc (.cells #[] 58)).grownBy w3 (Value.ownBlock (.slice (some ⟨W.heap.size, 0, none⟩) 0 0)) from hgrow3) (by rw [World.size_alloc]; omega) (fun q hq => by simp only [Value.ownBlock, Option.some.injEq] at hq; omega)
    have hO3 : Own w3 w.heap.size v' k1 (dg B16 x) := by simpa [Own] using hown'
    clear hown' hgrow3 hnil3 hnews hown hal
    obtain ⟨p3, c3, rfl, hkc, hsl3⟩ := hO3.slc
    have HF := hid (And.intro hsl3 hB3)
    clear hO3 hsl3 hB3 hs1'
    go_wp2_with fail
    go_ret2
    exact ⟨_, _, rfl, Rep.nil, ⟨p3, k1, c3, rfl, hkc, HS.out.2, HF.out.1⟩, HF.out.2⟩

set_option maxHeartbeats 4000000 in
set_option maxRecDepth 100000 in
theorem NatDiv_small (va vb : Value) (x y : Nat) (w : World) (ha : Rep B16 w va x) (hb : Rep B16 w vb y) (hx : x < B16 ^ 1000000000) (hy : y < 65536) (hy0 : 0 < y) (hxy : y ≤ x) :
    Calls Tryd.prog 98 #[va, vb] w fun e w' => ∃ v1 v2, e = .returned (.tuple #[v1, v2]) ∧ Rep B16 w' v1 (x / y) ∧ Rep B16 w' v2 (x % y) ∧ Below w.heap.size w w' := by
  have HC := hid (NatCmp_any va vb x y w ha hb hx (lt_16 (show y < B16 ^ 1 by rw [Nat.pow_one]; exact hy) (by omega)))
  have HSm := hid (fun (W : World) (hB : Below w.heap.size w W) => small_any va x y W (ha.below hB) hx hy0 hy)
  have hr : x % y < 65536 := Nat.lt_trans (Nat.mod_lt _ hy0) hy
  have HN := hid (fun W => NatOf_any (x % y) W (by omega))
  obtain ⟨p1, k1, c1, rfl, hk1, hl1, hs1⟩ := ha
  obtain ⟨p2, k2, c2, rfl, hk2, hl2, hs2⟩ := hb
  have hk : k2 = 1 := by
    have h1 := hl2.le B16_pos (show y < B16 ^ 1 by rw [Nat.pow_one]; exact hy)
    have h2 : k2 ≠ 0 := fun h => by have := (hl2.zero_iff B16_pos).2 h; omega
    omega
  subst hk
  obtain ⟨b2, o2, rfl, hc2⟩ := hs2 (by omega)
  have hc20 := hc2 0 (by omega)
  rw [show dg B16 y 0 = y by unfold dg; rw [Nat.pow_zero, Nat.div_one]; exact Nat.mod_eq_of_lt hy, Nat.add_zero] at hc20
  have hcm : (cmp3 x y < 0) = False := eq_false (by unfold cmp3; rw [if_neg (by omega)]; split <;> decide)
  have HC20 := hid hc20
  obtain ⟨r, hrr⟩ : ∃ r, r = cmp3 x y := ⟨_, rfl⟩
  rw [← hrr] at HC hcm
  have hcd : decide (r < 0) = false := by simp [hcm]
  clear hrr hcm hc2 hc20 hl1 hs1 hl2 hs2 hk1 hx hxy hy hy0
  go_enter Tryd.func98, Tryd.ntmps98
  go_wp2_with fail
  refine HC.out.mono ?_
  rintro e w' ⟨rfl, q, rfl⟩
  have hB1 := (below_drewN (Below.refl w.heap.size w) q)
  have hc20 := (below_drewN (Below.refl w.heap.size w) q).cell (p := ⟨b2, o2, none⟩) (World.block_lt_of_cell? _ _ HC20.out)
  rw [HC20.out] at hc20
  generalize w.drewN q = W at *
  go_wp2_with fail
  refine (HSm.out W hB1).mono ?_
  rintro e w2 ⟨v1, rfl, hR1, hB2⟩
  have HB2 := hid (hB1.trans (hB2.mono hB1.size))
  clear hc20 hB1 hB2
  go_wp2_with fail
  refine (HN.out w2).mono ?_
  rintro e w3 ⟨v2, rfl, hR2, hB3⟩
  have HF := hid (And.intro (hR1.below hB3) (And.intro hR2 (HB2.out.trans (hB3.mono HB2.out.size))))
  clear hR1 hR2 hB3 HB2
  go_wp2_with fail
  go_ret2
  exact ⟨_, _, rfl, HF.out.1, HF.out.2.1, HF.out.2.2⟩
end Go.Proofs.YtdinpeglclkjhaaDoor
