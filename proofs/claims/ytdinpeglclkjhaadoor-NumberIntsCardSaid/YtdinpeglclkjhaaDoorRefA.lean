/- The natural numbers of the specification (base 65536): rows that grow, trim, NatOf. -/
import Derived.Test.YtdinpeglclkjhaaDoorNatW
import Derived.Deep.AppendLies
namespace Go.Proofs.YtdinpeglclkjhaaDoor
open Go.RowKit Dg

def B16 : Nat := 65536
theorem B16_pos : 0 < B16 := by decide
theorem B16_one : 1 < B16 := by decide
theorem B16_val : B16 = 65536 := rfl

/-- A row of the call's own that holds the numbers f 0, .., f (n - 1). -/
def Own (w : World) (base : Nat) (v : Value) (n : Nat) (f : Nat → Nat) : Prop := w.ownsRow base 58 1 v n ((List.range n).map (fun j => Value.int .u32 (f j : Nat)))
theorem Own.nil (w : World) (base : Nat) (f : Nat → Nat) : Own w base (.slice none 0 0) 0 f := World.ownsRow_nil w base _ 1
theorem Own.slc {w : World} {base : Nat} {v : Value} {n : Nat} {f : Nat → Nat} (h : Own w base v n f) : ∃ p cap, v = .slice p n cap ∧ n ≤ cap ∧ Slc w p n f := by
  rcases h.2 with ⟨hv, h0⟩ | ⟨g, cap, cur, hv, hb, hg, hn, _, hsz, htk⟩
  · subst h0; exact ⟨none, 0, hv, Nat.le_refl _, Slc.zero⟩
  · refine ⟨_, cap, hv, hn, fun _ => ⟨g, 0, rfl, fun j hj => ?_⟩⟩
    rw [Nat.zero_add, cell_of_row w g j cur _ _ hg]
    have h1 : (cur.toList.take (n * 1))[j]? = ((List.range n).map (fun j => Value.int .u32 (f j : Nat)))[j]? := by rw [htk]
    rw [List.getElem?_take_of_lt (by omega), List.getElem?_map, List.getElem?_range hj] at h1
    simpa using h1
theorem Own.push {w : World} {base : Nat} {v : Value} {n : Nat} {f : Nat → Nat} {z : Int} (h : w.ownsRow base 58 1 v (n + 1) ((List.range n).map (fun j => Value.int .u32 (f j : Nat)) ++ [.int .u32 z])) (hz : z = (f n : Nat)) : Own w base v (n + 1) f := by
  unfold Own; rw [List.range_succ, List.map_append, List.map_singleton, ← hz]; exact h
theorem Own.congr {w : World} {base : Nat} {v : Value} {n : Nat} {f g : Nat → Nat} (h : Own w base v n f) (e : ∀ j, j < n → f j = g j) : Own w base v n g := by
  unfold Own
  rw [show (List.range n).map (fun j => Value.int .u32 (g j : Nat)) = (List.range n).map (fun j => Value.int .u32 (f j : Nat)) from List.map_congr_left fun j hj => by rw [e j (List.mem_range.1 hj)]]
  exact h

set_option maxHeartbeats 400000 in
theorem trim_any (p : Option Addr) (n cap x : Nat) (w : World) (hn : n ≤ 4000000000000) (hnc : n ≤ cap) (hx : x < B16 ^ n) (hs : Slc w p n (dg B16 x)) :
    Calls Tryd.prog 96 #[.slice p n cap] w fun e w' => ∃ m, e = .returned (.slice p m cap) ∧ m ≤ n ∧ Len B16 x m ∧ w = w' := by
  go_enter Tryd.func96, Tryd.ntmps96
  go_wp2
  go_loop [3] (fun i => ∃ m : Nat, m ≤ n ∧ i = .int .i64 m ∧ x < B16 ^ m) (fun i => (intOf i).toNat)
  case atStart => exact ⟨n, Nat.le_refl _, rfl, hx⟩
  case round =>
    obtain ⟨m, hm, rfl, hxm⟩ := hrel
    rcases Nat.eq_zero_or_pos m with h0 | h0
    · subst h0
      have hl : Len B16 x 0 := ⟨hxm, fun h => absurd h (by omega)⟩
      clear hs hx hxm
      go_wp2
      go_ret
      exact ⟨0, rfl, Nat.zero_le _, hl, rfl⟩
    · obtain ⟨b, off, rfl, hc⟩ := hs (by omega)
      obtain ⟨k, rfl⟩ : ∃ k, m = k + 1 := ⟨m - 1, by omega⟩
      have hck := hc k (by omega)
      by_cases ht : dg B16 x k = 0
      · have hlt : x < B16 ^ k := lt_of_top_zero B16_pos hxm ht
        rw [ht] at hck
        clear hs hx hxm hc ht
        have e1 : ((k + 1 : Nat) : Int) - 1 = k := by omega
        go_wp2
        go_round
        case rel => exact ⟨k, by omega, by go_num, hlt⟩
        case measure => simp [intOf]
      · have hl : Len B16 x (k + 1) := Len.of_top hxm ht
        have ht' : ((dg B16 x k : Nat) : Int) ≠ 0 := by omega
        clear hs hx hxm hc
        have e1 : ((k + 1 : Nat) : Int) - 1 = k := by omega
        go_wp2
        go_ret
        exact ⟨k + 1, rfl, hm, hl, rfl⟩

/-- The loop of NatOf. -/
def OfRel (w0 : World) (x : Nat) (a v : Value) (wr : World) : Prop :=
  ∃ k n : Nat, a = .int .u64 n ∧ n = x / B16 ^ k ∧ k ≤ 4 ∧ (k = 0 ∨ B16 ^ (k - 1) ≤ x) ∧ Own wr w0.heap.size v k (dg B16 x) ∧ Below w0.heap.size w0 wr

set_option maxHeartbeats 1000000 in
set_option maxRecDepth 100000 in
theorem NatOf_any (x : Nat) (w : World) (hx : x < 18446744073709551616) :
    Calls Tryd.prog 59 #[.int .u64 x] w fun e w' => ∃ v, e = .returned v ∧ Rep B16 w' v x ∧ Below w.heap.size w w' := by
  obtain ⟨i0, hi, hz0, hz1, hz2⟩ := info_parts Tryd.infoU32
  go_enter Tryd.func59, Tryd.ntmps59
  go_wp2_with fail
  go_loopw [0, 3] (fun a v wr => OfRel w x a v wr) (fun a _ _ => (intOf a).toNat)
  case atStart => exact ⟨0, x, rfl, by simp, by omega, .inl rfl, Own.nil _ _ _, Below.refl _ _⟩
  case round =>
    obtain ⟨k, n, rfl, hnx, hk, hkx, hown, hB⟩ := hrel
    by_cases h0 : n = 0
    · subst h0
      have hlt : x < B16 ^ k := by
        have h1 := hnx.symm
        rcases (Nat.div_eq_zero_iff).1 h1 with h | h
        · exact absurd h (Nat.pos_iff_ne_zero.1 (Nat.pow_pos B16_pos))
        · exact h
      obtain ⟨p, cap, rfl, hkc, hsl⟩ := hown.slc
      have HF := hid (And.intro (show Rep B16 wr (.slice p k cap) x from ⟨p, k, cap, rfl, hkc, ⟨hlt, fun h => (hkx.resolve_left (by omega))⟩, hsl⟩) hB)
      clear hnx hkx hown hB hlt hsl
      go_wp2_with fail
      go_ret
      exact ⟨_, rfl, HF.out.1, HF.out.2⟩
    · have hk4 : k < 4 := by
        rcases Nat.lt_or_ge k 4 with h | h
        · exact h
        · have h1 : k = 4 := by omega
          subst h1
          rw [show B16 ^ 4 = 18446744073709551616 by decide] at hnx
          omega
      have hle : B16 ^ k ≤ x := by
        rcases Nat.lt_or_ge x (B16 ^ k) with h | h
        · rw [Nat.div_eq_of_lt h] at hnx; exact absurd hnx h0
        · exact h
      have hd : n % 65536 = dg B16 x k := by rw [hnx]; rfl
      have hn' : n / 65536 = x / B16 ^ (k + 1) := by rw [hnx, Nat.div_div_eq_div_mul, Nat.pow_succ]; rfl
      have hn64 : n < 18446744073709551616 := by rw [hnx]; exact Nat.lt_of_le_of_lt (Nat.div_le_self _ _) hx
      have hsize := hB.size
      have hlt := fun q hq => (World.ownsRow.lt hown q hq).1
      have hal := (show wr.ownsRow w.heap.size 58 1 u3 k ((List.range k).map (fun j => Value.int .u32 (dg B16 x j : Nat))) from hown).alloc (.cells #[.int .u32 ((n : Int) % 65536)] 58)
      have HX := hid (And.intro hd (And.intro hn' (And.intro hle hlt)))
      have HA := hid (And.intro hal hB)
      clear hal hown hnx hkx hd hn' hle hx hB hlt
      go_wp2_with (first
        | (at_builtin; refine wpList_append_own _ rfl _ _ 32 rfl w.heap.size 58 i0 (.int .u32 0) 1 4 Tryd.underlying32 hi hz0 hz1 hz2 rfl (by decide) _ _ _ rfl HA.out.1 ⟨wr.heap.size, 0, none⟩ 1 1 [.int .u32 ((n : Int) % 65536)] rfl rfl (cell_one_new _ _ _) (fun x hx => by simp at hx; subst hx; rfl) (by unfold maxLen; omega) (by omega) (by simp; omega) ?_; intro v' w3 hown' hgrow3 hnil3))
      refine ⟨⟨k + 1, n / 65536, by simp, HX.out.2.1, by omega, .inr HX.out.2.2.1, Own.push hown' (by rw [← HX.out.1]; simp), ?_⟩, by simp only [intOf]; omega⟩
      exact (HA.out.2.alloc hsize _).grown (show (wr.alloc _).grownBy w3 u3.ownBlock from hgrow3) (by rw [World.size_alloc]; omega) HX.out.2.2.2
end Go.Proofs.YtdinpeglclkjhaaDoor
