/- Which texts are decimal; the law's calls on them. -/
import Derived.Test.YtjnfnngobkjneaaDoorDecA
namespace Go.Proofs.YtjnfnngobkjneaaDoor
open Go.RowKit Dg Dc

def decb (l : List UInt8) : Bool := l.all isDig && (decide (0 < l.length) && decide (l.length ≤ 30))
theorem decb_yes {l : List UInt8} (h : decb l = true) : DigS l := by
  unfold decb at h
  rw [Bool.and_eq_true, Bool.and_eq_true, List.all_eq_true] at h
  exact ⟨h.1, of_decide_eq_true h.2.1, of_decide_eq_true h.2.2⟩
theorem decb_no {l : List UInt8} {k : Nat} (hk : k < l.length) (h : isDig l[k] = false) : decb l = false := by
  unfold decb
  rw [show l.all isDig = false by rw [List.all_eq_false]; exact ⟨l[k], List.getElem_mem hk, by rw [h]; decide⟩]
  rfl
theorem decb_all {l : List UInt8} (h : ∀ j (h : j < l.length), isDig l[j] = true) : decb l = (decide (0 < l.length) && decide (l.length ≤ 30)) := by
  unfold decb
  rw [show l.all isDig = true by rw [List.all_eq_true]; intro c hc; obtain ⟨j, hj, rfl⟩ := List.getElem_of_mem hc; exact h j hj]
  rfl

set_option maxHeartbeats 2000000 in
set_option maxRecDepth 100000 in
theorem decimal_any (S : ByteArray) (w : World) (hSle : S.size ≤ 9223372036854775807) :
    Calls Tryd.prog 12 #[.string S] w fun e w' => e = .returned (.bool (decb S.data.toList)) ∧ w = w' := by
  obtain ⟨l, hl⟩ : ∃ l, l = S.data.toList := ⟨_, rfl⟩
  have hS : S.size = l.length := by rw [hl]; simp
  have HAT := hid (show ∀ k (h : k < l.length) (h' : k < S.size), S[k] = l[k] by subst hl; exact fun k h _ => rfl)
  have HS := hid hS
  rw [← hl]
  clear hl hS
  go_enter Tryd.func12, Tryd.ntmps12
  go_wp2_with fail
  go_loop [6] (fun i => ∃ k : Nat, k ≤ S.size ∧ i = .int .i64 k ∧ ∀ j (h : j < l.length), j < k → isDig l[j] = true) (fun i => S.size - (intOf i).toNat)
  case atStart => exact ⟨0, Nat.zero_le _, rfl, fun j _ h => absurd h (by omega)⟩
  case round =>
    obtain ⟨k, hk, rfl, hall⟩ := hrel
    have HALL := hid hall
    clear hall
    by_cases hlt : k < S.size
    · have hkl : k < l.length := by rw [← HS.out]; exact hlt
      have hSk := HAT.out k hkl hlt
      cases hd : isDig l[k]
      · have hno := isDig_no hd
        have hdn := hid (decb_no hkl hd)
        have hc : S[k].toNat < 48 ∨ 57 < S[k].toNat := by rw [hSk]; exact hno
        clear hno hd hSk
        rcases hc with h | h
        all_goals
          first
            | have h48 : decide ((S[k].toNat : Int) < 48) = true := by simp; omega
            | (have h48 : decide ((S[k].toNat : Int) < 48) = false := by simp; omega
               have h57 : decide ((S[k].toNat : Int) > 57) = true := by simp; omega)
          go_wp2_with fail
          go_ret
          exact ⟨by rw [hdn.out]; rfl, rfl⟩
      · have hyes := isDig_yes hd
        have hall' := hid (show ∀ j (h : j < l.length), j < k + 1 → isDig l[j] = true from fun j h hj => by
          by_cases hjk : j < k
          · exact HALL.out j h hjk
          · obtain rfl : j = k := by omega
            exact hd)
        have h48 : decide ((S[k].toNat : Int) < 48) = false := by rw [hSk]; simp; omega
        have h57 : decide ((S[k].toNat : Int) > 57) = false := by rw [hSk]; simp; omega
        clear hyes hd hSk
        go_wp2_with fail
        go_round
        case rel => exact ⟨k + 1, by omega, by go_num, hall'.out⟩
        case measure => simp [intOf]; omega
    · obtain rfl : k = S.size := by omega
      have hdn := hid (decb_all (fun j h => HALL.out j h (by rw [HS.out]; exact h)))
      rw [← HS.out] at hdn
      by_cases h0 : 0 < S.size
      · by_cases h30 : S.size ≤ 30
        · have hd := hid (show decb l = true by rw [hdn.out, decide_eq_true h0, decide_eq_true h30]; rfl)
          have hb : decide ((S.size : Int) ≤ 30) = true := by simp; omega
          clear hdn
          go_wp2_with fail
          go_ret
          exact ⟨by rw [hd.out]; rfl, rfl⟩
        · have hd := hid (show decb l = false by rw [hdn.out, decide_eq_false h30, Bool.and_false])
          have hb : decide ((S.size : Int) ≤ 30) = false := by simp; omega
          clear hdn
          go_wp2_with fail
          go_ret
          exact ⟨by rw [hd.out]; rfl, rfl⟩
      · have hd := hid (show decb l = false by rw [hdn.out, decide_eq_false h0, Bool.false_and])
        have hb : decide (0 < S.size) = false := decide_eq_false h0
        clear hdn
        go_wp2_with fail
        go_ret
        exact ⟨by rw [hd.out]; rfl, rfl⟩

/-- What a text denotes that is no error. -/
theorem t_of {l : List UInt8} {s : Bool} {n d k : Nat} (hl : l.length ≤ 1240) (hn : neg? l = s) (hr : rat (body l) = some (n, d)) (hd : d ≠ 0) (h1 : n < 10 ^ k) (h2 : d < 10 ^ k) (hk : k ≤ 9 * 64) :
    tcode l = 0 ∧ resT (tcode l) (ttrip l) = outF (frac s n d) := by
  have h := tcode_some (by omega) hr hd
  rw [hn] at h
  have hb : tcode l = 0 := by
    rw [h.1, h.2, (sm_frac (s := s) h1 h2).big hk]; rfl
  refine ⟨hb, ?_⟩
  rw [hb, h.2]; rfl
theorem t_plain {l : List UInt8} (h : DigS l) : tcode l = 0 ∧ resT (tcode l) (ttrip l) = (false, val l, 0) := by
  have hn : neg? l = false := by have := neg_dig (m := []) h.1 h.2.1; rwa [List.append_nil] at this
  have hr : rat (body l) = some (val l, 1) := by rw [body_no hn]; exact rat_plain h.1 h.2.1
  have ht := t_of (k := 31) (by have := h.2.2; omega) hn hr (by decide) (Nat.lt_of_lt_of_le (val_lt l h.1) (ten_le (by have := h.2.2; omega))) (Nat.one_lt_pow (by omega) (by decide)) (by omega)
  refine ⟨ht.1, ht.2.trans ?_⟩
  have := fr_int false (val l)
  unfold fr at this
  rw [show (frac false (val l) 1) = (false && decide (val l ≠ 0), val l, 1) from this]
  rfl
section
variable {la lb : List UInt8} (ha : DigS la) (hb : DigS lb)
include ha hb
theorem v_lt : val (la ++ lb) < 10 ^ 61 := by
  have h := val_lt (la ++ lb) (fun c hc => (List.mem_append.1 hc).elim (ha.1 c) (hb.1 c))
  rw [List.length_append] at h
  exact Nat.lt_of_lt_of_le h (ten_le (by have := ha.2.2; have := hb.2.2; omega))
omit ha in
theorem t_lt : 10 ^ lb.length < 10 ^ 61 := Nat.pow_lt_pow_right (by decide) (by have := hb.2.2; omega)
theorem rat_point : rat (la ++ 46 :: lb) = some (val (la ++ lb), 10 ^ lb.length) := by
  rw [rat_cut ha.1 ha.2.1 hb.1 hb.2.1 (by decide), if_pos rfl]
theorem t_point : tcode (la ++ 46 :: lb) = 0 ∧ resT (tcode (la ++ 46 :: lb)) (ttrip (la ++ 46 :: lb)) = outF (frac false (val (la ++ lb)) (10 ^ lb.length)) := by
  have hn := neg_dig (m := 46 :: lb) ha.1 ha.2.1
  exact t_of (k := 61) (by rw [List.length_append, List.length_cons]; have := ha.2.2; have := hb.2.2; omega) hn (by rw [body_no hn]; exact rat_point ha hb) (Nat.ne_of_gt (Nat.pow_pos (by decide))) (v_lt ha hb) (t_lt hb) (by omega)
theorem t_neg : tcode (45 :: (la ++ 46 :: lb)) = 0 ∧ resT (tcode (45 :: (la ++ 46 :: lb))) (ttrip (45 :: (la ++ 46 :: lb))) = outF (frac true (val (la ++ lb)) (10 ^ lb.length)) := by
  have hn : neg? (45 :: (la ++ 46 :: lb)) = true := rfl
  have hbd : body (45 :: (la ++ 46 :: lb)) = la ++ 46 :: lb := rfl
  exact t_of (k := 61) (by rw [List.length_cons, List.length_append, List.length_cons]; have := ha.2.2; have := hb.2.2; omega) hn (by rw [hbd]; exact rat_point ha hb) (Nat.ne_of_gt (Nat.pow_pos (by decide))) (v_lt ha hb) (t_lt hb) (by omega)
theorem t_slash : tcode (la ++ 47 :: lb) = (if val lb = 0 then 10 else 0) ∧ resT (tcode (la ++ 47 :: lb)) (ttrip (la ++ 47 :: lb)) = resT (if val lb = 0 then 10 else 0) (frac false (val la) (val lb)) := by
  have hn := neg_dig (m := 47 :: lb) ha.1 ha.2.1
  have hl : (la ++ 47 :: lb).length ≤ 1240 := by rw [List.length_append, List.length_cons]; have := ha.2.2; have := hb.2.2; omega
  have hr : rat (body (la ++ 47 :: lb)) = some (val la, val lb) := by
    rw [body_no hn, rat_cut ha.1 ha.2.1 hb.1 hb.2.1 (by decide), if_neg (by decide), if_pos rfl]
  by_cases h0 : val lb = 0
  · rw [h0] at hr
    have hc := tcode_zero (by omega) hr
    rw [hc, if_pos h0]
    exact ⟨rfl, rfl⟩
  · rw [if_neg h0]
    exact t_of (k := 31) hl hn hr h0 (Nat.lt_of_lt_of_le (val_lt la ha.1) (ten_le (by have := ha.2.2; omega))) (Nat.lt_of_lt_of_le (val_lt lb hb.1) (ten_le (by have := hb.2.2; omega))) (by omega)
end
end Go.Proofs.YtjnfnngobkjneaaDoor
