/- Texts of numbers of the program: cutDigits, CutPrefix, FromDecimal. -/
import Derived.Test.YtjnfnngobkjneaaGreatDoorStrP
import Derived.Test.YtjnfnngobkjneaaGreatDoorPrsM
import Derived.Test.YtjnfnngobkjneaaGreatDoorFracX
import Derived.Lib.PathFns
import Derived.Deep.QuietTactic
import Derived.BigQuiet
namespace Go.Proofs.YtjnfnngobkjneaaGreatDoor
open Go.RowKit Dg Dc

theorem cut_lo (l : List UInt8) (k : Nat) (hk : k ≤ l.length) (w : World) : (Instr.slice 9 (.string ⟨l.toArray⟩) none (some (.int .i64 (k : Int))) none).run Tryz.prog w = .ok (str (l.take k)) w := by
  have hs := str_size l
  rw [run_slice_string_to_if _ _ _ _ _ Tryz.underlying9, if_pos (by rw [hs]; omega), Int.toNat_natCast, Lib.Pa.extract_upto]
  rfl
theorem cut_hi (l : List UInt8) (k : Nat) (hk : k ≤ l.length) (w : World) : (Instr.slice 9 (.string ⟨l.toArray⟩) (some (.int .i64 (k : Int))) none none).run Tryz.prog w = .ok (str (l.drop k)) w := by
  have hs := str_size l
  rw [run_slice_string_from_if _ _ _ _ _ Tryz.underlying9, if_pos (by rw [hs]; omega), Int.toNat_natCast, Lib.Pa.extract_from]
  rfl
/-- The byte at a place of a text. -/
theorem str_at (l : List UInt8) (k : Nat) (h : k < l.length) : ((⟨l.toArray⟩ : ByteArray)[k]'(by rw [str_size]; exact h)) = l[k] := rfl

theorem isDig_yes {c : UInt8} (h : isDig c = true) : 48 ≤ c.toNat ∧ c.toNat ≤ 57 := by
  unfold isDig at h
  simpa using h
theorem isDig_no {c : UInt8} (h : isDig c = false) : c.toNat < 48 ∨ 57 < c.toNat := by
  unfold isDig at h
  simp at h
  omega

set_option maxHeartbeats 2000000 in
set_option maxRecDepth 100000 in
theorem cutDigits_any (l : List UInt8) (w : World) (hl : l.length ≤ 1000000) :
    Calls Tryz.prog 80 #[str l] w fun e w' => e = .returned (.tuple #[str (l.take (dn l)), str (l.drop (dn l))]) ∧ ∃ q, w' = w.drewN q := by
  have hS := str_size l
  have hat := str_at l
  have HLO := hid (fun k hk w => cut_lo l k hk w)
  have HHI := hid (fun k hk w => cut_hi l k hk w)
  unfold str at *
  obtain ⟨S, hSe⟩ : ∃ S : ByteArray, S = ⟨l.toArray⟩ := ⟨_, rfl⟩
  rw [← hSe] at HLO HHI hS ⊢
  have HAT := hid (show ∀ k (h : k < l.length) (h' : k < S.size), S[k] = l[k] by subst hSe; exact fun k h _ => hat k h)
  clear hSe hat
  have hSle : S.size ≤ 1000000 := by omega
  go_enter Tryz.func80, Tryz.ntmps80
  go_wp2_with fail
  go_loop [4] (fun i => ∃ k : Nat, k ≤ S.size ∧ i = .int .i64 k ∧ ∀ j (h : j < l.length), j < k → isDig l[j] = true) (fun i => S.size - (intOf i).toNat)
  case atStart => exact ⟨0, Nat.zero_le _, rfl, fun j _ h => absurd h (by omega)⟩
  case round =>
    obtain ⟨k, hk, rfl, hall⟩ := hrel
    have HALL := hid hall
    clear hall
    by_cases hlt : k < S.size
    · have hkl : k < l.length := by omega
      have hSk := HAT.out k hkl hlt
      cases hd : isDig l[k]
      · have hno := isDig_no hd
        have hdn := hid (dn_eq l k HALL.out (by omega) (fun _ => hd))
        have hc : S[k].toNat < 48 ∨ 57 < S[k].toNat := by rw [hSk]; exact hno
        have hlo := HLO.out k (by omega)
        have hhi := HHI.out k (by omega)
        clear hno hd hSk hS
        rcases hc with h | h
        all_goals
          first
            | have h48 : decide ((S[k].toNat : Int) ≥ 48) = false := by simp; omega
            | (have h48 : decide ((S[k].toNat : Int) ≥ 48) = true := by simp; omega
               have h57 : decide ((S[k].toNat : Int) ≤ 57) = false := by simp; omega)
          go_wp2_with fail
          go_quiet (fail)
          go_wp2_with fail
          go_ret2
          exact ⟨by rw [hdn.out]; rfl, _, rfl⟩
      · have hyes := isDig_yes hd
        have hall' := hid (show ∀ j (h : j < l.length), j < k + 1 → isDig l[j] = true from fun j h hj => by
          by_cases hjk : j < k
          · exact HALL.out j h hjk
          · obtain rfl : j = k := by omega
            exact hd)
        have hc : 48 ≤ S[k].toNat ∧ S[k].toNat ≤ 57 := by rw [hSk]; exact hyes
        obtain ⟨hc1, hc2⟩ := hc
        clear hyes hd hSk hS
        go_wp2_with fail
        go_round
        case rel => exact ⟨k + 1, by omega, by go_num, hall'.out⟩
        case measure => simp [intOf]; omega
    · obtain rfl : k = S.size := by omega
      have hdn := hid (dn_eq l S.size HALL.out (by omega) (fun h => absurd h (by omega)))
      have hlo := HLO.out S.size (by omega)
      have hhi := HHI.out S.size (by omega)
      clear hS
      go_wp2_with fail
      go_quiet (fail)
      go_wp2_with fail
      go_ret2
      exact ⟨by rw [hdn.out]; rfl, _, rfl⟩

/-- The text without the sign, and whether there was one. -/
theorem neg_size {l : List UInt8} : neg? l = true ↔ ∃ h : 0 < l.length, l[0] = 45 := by
  cases l with
  | nil => simp [neg?]
  | cons c r => simp [neg?]

set_option maxHeartbeats 2000000 in
set_option maxRecDepth 100000 in
theorem CutPrefix_any (l : List UInt8) (w : World) (hl : l.length ≤ 1000000) :
    Calls Tryz.prog 37 #[str l, .string ⟨#[45]⟩] w fun e w' => e = .returned (.tuple #[str (body l), .bool (neg? l)]) ∧ w = w' := by
  have hS := str_size l
  have HHI := hid (fun k hk w => cut_hi l k hk w)
  have HLO := hid (fun k hk w => cut_lo l k hk w)
  unfold str at *
  obtain ⟨S, hSe⟩ : ∃ S : ByteArray, S = ⟨l.toArray⟩ := ⟨_, rfl⟩
  rw [← hSe] at HLO HHI hS ⊢
  have hSle : S.size ≤ 1000000 := by omega
  by_cases h0 : S.size = 0
  · have hb := hid (show body l = l ∧ neg? l = false by
      obtain rfl : l = [] := List.eq_nil_of_length_eq_zero (by omega)
      exact ⟨rfl, rfl⟩)
    have hg : decide ((S.size : Int) ≥ 1) = false := by simp; omega
    have HS := hid hSe
    clear hSe hS
    go_enter Tryz.func37, Tryz.ntmps37
    go_wp2
    go_ret2
    exact ⟨by rw [hb.out.1, hb.out.2, ← HS.out]; rfl, rfl⟩
  · obtain ⟨c, r, hcr⟩ : ∃ c r, l = c :: r := by
      cases l with
      | nil => exact absurd (by rw [hS]; rfl) h0
      | cons c r => exact ⟨c, r, rfl⟩
    have h1 : (1 : Int) ≤ (S.size : Int) := by omega
    have hg : decide ((S.size : Int) ≥ 1) = true := by simp; omega
    have hL : (S.extract 0 1).toList = [c] := by
      rw [Lib.toList_data, Lib.Pa.extract_upto, hSe, hcr]
      rfl
    have hD := hid (show S.extract 1 S.size = ⟨(l.drop 1).toArray⟩ by rw [Lib.Pa.extract_from, hSe])
    have HS := hid (And.intro hSe hcr)
    clear hSe hS h0 hcr HLO HHI
    by_cases hc : c = 45
    · have hq : ((S.extract 0 1).toList == [45]) = true := by rw [hL, hc]; rfl
      have hb := hid (show body l = l.drop 1 ∧ neg? l = true by
        have h1 : neg? l = true := by rw [HS.out.2, hc]; rfl
        exact ⟨by rw [body, if_pos h1], h1⟩)
      clear hc hL
      go_enter Tryz.func37, Tryz.ntmps37
      go_wp2
      go_ret2
      exact ⟨by rw [hb.out.1, hb.out.2, ← hD.out]; rfl, rfl⟩
    · have hq : ((S.extract 0 1).toList == [45]) = false := by rw [hL]; simpa using hc
      have hb := hid (show body l = l ∧ neg? l = false by
        have h1 : neg? l = false := by rw [HS.out.2, neg_cons]; simpa using hc
        exact ⟨by rw [body, h1]; rfl, h1⟩)
      clear hc hL
      go_enter Tryz.func37, Tryz.ntmps37
      go_wp2
      go_ret2
      exact ⟨by rw [hb.out.1, hb.out.2, ← HS.out.1]; rfl, rfl⟩
end Go.Proofs.YtjnfnngobkjneaaGreatDoor
