/- Texts of numbers come back. -/
import Derived.Test.YtjnfnngobkjneaaGreatDoorLawParses
import Derived.Test.YtjnfnngobkjneaaGreatDoorDecA
import Derived.Test.YtjnfnngobkjneaaGreatDoorStrF
namespace Go.Proofs.YtjnfnngobkjneaaGreatDoor
open Go.RowKit Dg Dc

theorem fr_idem {t : Bool × Nat × Nat} (h : IsFr t) : frac t.1 t.2.1 t.2.2 = t := by
  obtain ⟨s, n, d, hd, rfl⟩ := h
  have hg := frac_gcd (s := s) (n := n) hd
  have hz := frac_zero_sign (s := s) (n := n) hd
  generalize frac s n d = t at *
  unfold frac
  rw [hg, Nat.div_one, Nat.div_one]
  have e2 : (t.1 && decide (t.2.1 ≠ 0)) = t.1 := by
    by_cases h : t.2.1 = 0
    · rw [hz h]; rfl
    · simp [h]
  rw [e2]
theorem fr_outT {t : Bool × Nat × Nat} (h : IsFr t) : fr (outF t) = t := by
  have hp := h.pos
  have e : den1 (den0 t.2.2) = t.2.2 := by unfold den1 den0; by_cases h : t.2.2 = 1 <;> simp [h] <;> omega
  show frac t.1 t.2.1 (den1 (den0 t.2.2)) = t
  rw [e]
  exact fr_idem h
theorem w64_617 : W32 ^ 64 < 10 ^ 617 := by decide +kernel
theorem dec_617 {x : Nat} (h : x < W32 ^ 64) : (Lib.decDigits x).length ≤ 617 := by
  rw [Lib.decDigits_length]
  exact nDigits_le (Nat.lt_trans h w64_617) (by omega)
theorem dec_pos (x : Nat) : 0 < (Lib.decDigits x).length := List.length_pos_iff.2 (dec_ne_nil x)

theorem rat_ftxt (n d : Nat) : rat (Lib.decDigits n ++ (if d = 1 then [] else 47 :: Lib.decDigits d)) = some (n, d) := by
  by_cases h : d = 1
  · rw [if_pos h, List.append_nil, rat_plain (dec_isDig n) (dec_pos n), val_dec, h]
  · rw [if_neg h, rat_cut (dec_isDig n) (dec_pos n) (dec_isDig d) (dec_pos d) (by decide), if_neg (by decide), if_pos rfl, val_dec, val_dec]
theorem ftxt_neg (t : Bool × Nat × Nat) : neg? (ftxt t) = t.1 ∧ body (ftxt t) = Lib.decDigits t.2.1 ++ (if t.2.2 = 1 then [] else 47 :: Lib.decDigits t.2.2) := by
  unfold ftxt
  cases t.1
  · have e : (if false = true then [45] else []) ++ Lib.decDigits t.2.1 = Lib.decDigits t.2.1 := rfl
    rw [e]
    have hn := neg_dig (m := if t.2.2 = 1 then [] else 47 :: Lib.decDigits t.2.2) (dec_isDig t.2.1) (dec_pos t.2.1)
    exact ⟨hn, body_no hn⟩
  · exact ⟨rfl, rfl⟩
theorem ftxt_len {t : Bool × Nat × Nat} (h1 : t.2.1 < W32 ^ 64) (h2 : t.2.2 < W32 ^ 64) : (ftxt t).length ≤ 1240 := by
  have l1 := dec_617 h1
  have l2 := dec_617 h2
  unfold ftxt
  rw [List.length_append, List.length_append]
  have l3 : (if t.1 = true then [(45 : UInt8)] else []).length ≤ 1 := by split <;> simp
  have l4 : (if t.2.2 = 1 then [] else (47 : UInt8) :: Lib.decDigits t.2.2).length ≤ 618 := by
    split
    · simp
    · rw [List.length_cons]; omega
  omega
/-- A fraction's text denotes it. -/
theorem parse_ftxt {t : Bool × Nat × Nat} (h : IsFr t) (hb : big t.2.1 t.2.2 = false) : tcode (ftxt t) = 0 ∧ resT (tcode (ftxt t)) (ttrip (ftxt t)) = outF t := by
  have h2 := big_lt hb
  have hl := ftxt_len h2.1 h2.2
  have hn := ftxt_neg t
  have hs := tcode_some (l := ftxt t) (by omega) (by rw [hn.2]; exact rat_ftxt t.2.1 t.2.2) (Nat.ne_of_gt h.pos)
  rw [hn.1, fr_idem h] at hs
  have hc : tcode (ftxt t) = 0 := by rw [hs.1, hs.2, hb]; rfl
  refine ⟨hc, ?_⟩
  rw [hc, hs.2]; rfl
theorem large_big {a : Bool × Nat × Nat} (h : large a.2.1 a.2.2 = false) : big (fr a).2.1 (fr a).2.2 = false := by
  unfold large at h
  rw [Bool.or_eq_false_iff] at h
  exact h.2
theorem out_large {t : Bool × Nat × Nat} (h : IsFr t) (hb : big t.2.1 t.2.2 = false) : large (outF t).2.1 (outF t).2.2 = false := by
  have h2 := big_lt hb
  have hw : W32 ^ 64 ≤ W32 ^ 256 := Nat.pow_le_pow_right W32_pos (by omega)
  have hd : den0 t.2.2 < W32 ^ 64 := by unfold den0; split; exact Nat.lt_of_le_of_lt (Nat.zero_le _) h2.2; exact h2.2
  have e := fr_outT h
  show large t.2.1 (den0 t.2.2) = false
  rw [large_short (decide_eq_false (by omega))]
  show big (fr (outF t)).2.1 (fr (outF t)).2.2 = false
  rw [e]
  exact hb
theorem fnorm_nrep {t : Bool × Nat × Nat} {w : World} {v : Value} (hb : big t.2.1 t.2.2 = false) (h : FNorm w v (outF t)) : NRep w v (outF t) := by
  have h2 := big_lt hb
  have hd : den0 t.2.2 < W32 ^ 64 := by unfold den0; split; exact Nat.lt_of_le_of_lt (Nat.zero_le _) h2.2; exact h2.2
  exact FRep.arep h (lt_big h2.1 (by omega)) (lt_big hd (by omega))
theorem canon_call {t : Bool × Nat × Nat} (h : IsFr t) (hb : big t.2.1 t.2.2 = false) (W : World) (v : Value) (hv : FNorm W v (outF t)) :
    Calls Tryz.prog 13 #[v] W fun e w' => e = .returned (.bool true) ∧ Below W.heap.size W w' := by
  have hr := res_ok h hb
  exact Canonical_any v _ _ _ W hv (few_100 hr.2.1) (few_100 hr.2.2) hr.1 (few_make hr.2.1 hr.2.2)
theorem same_call {a : Bool × Nat × Nat} (hL : large a.2.1 a.2.2 = false) (W : World) (v u : Value) (hv : NRep W v a) (hu : FNorm W u (outF (fr a))) :
    Calls Tryz.prog 14 #[v, u] W fun e w' => e = .returned (.bool true) ∧ Below W.heap.size W w' := by
  have hb := large_big hL
  exact Equal_u v u a (outF (fr a)) W hv (fnorm_nrep hb hu) (few_large hL) (res_ok (IsFr.fr a) hb).2 (IsQ.same (IsQ.self a) (out_IsQ (fq_FQ (IsQ.self a))) rfl)
theorem parse_at {l : List UInt8} {S : ByteArray} {c : Int} {r : Bool × Nat × Nat} (hS : str l = .string S) (h : tcode l = c ∧ resT (tcode l) (ttrip l) = r) (W : World) (ht : TabOk W) :
    Calls Tryz.prog 12 #[.string S] W fun e w' => Below W.heap.size W w' ∧ URF w' e c r := by
  obtain ⟨rfl, rfl⟩ := h
  rw [← hS]
  exact nParse_any l W ht
end Go.Proofs.YtjnfnngobkjneaaGreatDoor
