/- The natural numbers of the program: words, Of, Add. -/
import Derived.Test.YtdinpeglclkjhaaDoorProg
import Derived.Test.YtdinpeglclkjhaaDoorBase
namespace Go.Proofs.YtdinpeglclkjhaaDoor
open Go.RowKit Dg

def W32 : Nat := 4294967296
theorem W32_pos : 0 < W32 := by decide
theorem W32_one : 1 < W32 := by decide

theorem dg_u32 (x j : Nat) : dg W32 x j < 4294967296 := dg_lt W32_pos

set_option maxHeartbeats 400000 in
theorem word_any (p : Option Addr) (n cap x k : Nat) (w : World) (hn : n ≤ 1099511627776) (hk : k ≤ 1099511627776) (hx : x < W32 ^ n) (hs : Slc w p n (dg W32 x)) :
    Calls Tryd.prog 128 #[.slice p n cap, .int .i64 k] w fun e w' => e = .returned (.int .u32 (dg W32 x k)) ∧ w = w' := by
  by_cases h : k < n
  · obtain ⟨b, off, rfl, hc⟩ := hs (by omega)
    have hck := hc k h
    clear hs hc hx
    go_enter Tryd.func128, Tryd.ntmps128
    go_wp2
    go_ret
    exact ⟨rfl, rfl⟩
  · have hz : dg W32 x k = 0 := dg_zero' W32_pos hx (by omega)
    rw [hz]
    clear hs hx hz
    go_enter Tryd.func128, Tryd.ntmps128
    go_wp2
    go_ret
    exact ⟨rfl, rfl⟩

set_option maxHeartbeats 400000 in
theorem Of_any (p : Option Addr) (n cap x : Nat) (w : World) (hn : n ≤ 1099511627776) (hnc : n ≤ cap) (hx : x < W32 ^ n) (hs : Slc w p n (dg W32 x)) :
    Calls Tryd.prog 109 #[.slice p n cap] w fun e w' => ∃ m, e = .returned (.slice p m cap) ∧ m ≤ n ∧ Len W32 x m ∧ w = w' := by
  go_enter Tryd.func109, Tryd.ntmps109
  go_wp2
  go_loop [3] (fun i => ∃ m : Nat, m ≤ n ∧ i = .int .i64 m ∧ x < W32 ^ m) (fun i => (intOf i).toNat)
  case atStart => exact ⟨n, Nat.le_refl _, rfl, hx⟩
  case round =>
    obtain ⟨m, hm, rfl, hxm⟩ := hrel
    rcases Nat.eq_zero_or_pos m with h0 | h0
    · subst h0
      have hl : Len W32 x 0 := ⟨hxm, fun h => absurd h (by omega)⟩
      clear hs hx hxm
      go_wp2
      go_ret
      exact ⟨0, rfl, Nat.zero_le _, hl, rfl⟩
    · obtain ⟨b, off, rfl, hc⟩ := hs (by omega)
      obtain ⟨k, rfl⟩ : ∃ k, m = k + 1 := ⟨m - 1, by omega⟩
      have hck := hc k (by omega)
      by_cases ht : dg W32 x k = 0
      · have hlt : x < W32 ^ k := lt_of_top_zero W32_pos hxm ht
        rw [ht] at hck
        clear hs hx hxm hc ht
        have e1 : ((k + 1 : Nat) : Int) - 1 = k := by omega
        go_wp2
        go_round
        case rel => exact ⟨k, by omega, by go_num, hlt⟩
        case measure => simp [intOf]
      · have hl : Len W32 x (k + 1) := Len.of_top hxm ht
        have ht' : ((dg W32 x k : Nat) : Int) ≠ 0 := by omega
        have hb : (((dg W32 x k : Nat) : Int) == 0) = false := by simpa using ht
        clear hs hx hxm hc ht
        go_wp2
        go_ret
        exact ⟨k + 1, by go_num, hm, hl, rfl⟩
end Go.Proofs.YtdinpeglclkjhaaDoor
