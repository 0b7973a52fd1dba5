/- The law NumberParses. -/
import Derived.Test.YtjnfnngobkjneaaGreatDoorPrsU
namespace Go.Proofs.YtjnfnngobkjneaaGreatDoor
open Go.RowKit Dg Dc

theorem tcode_ok {l : List UInt8} (h : tcode l = 0) : IsFr (ttrip l) ∧ big (ttrip l).2.1 (ttrip l).2.2 = false := by
  by_cases hl : 1240 < l.length
  · rw [tcode_long hl] at h; exact absurd h (by decide)
  · rcases hr : rat (body l) with _ | ⟨n, d⟩
    · rw [tcode_none hl hr] at h; exact absurd h (by decide)
    · by_cases hd : d = 0
      · subst hd
        rw [tcode_zero hl hr] at h; exact absurd h (by decide)
      · have h1 := tcode_some hl hr hd
        refine ⟨⟨neg? l, n, d, Nat.pos_of_ne_zero hd, h1.2⟩, ?_⟩
        rw [h1.1] at h
        cases hb : big (ttrip l).2.1 (ttrip l).2.2
        · rfl
        · rw [hb, if_pos rfl] at h; exact absurd h (by decide)
theorem ttrip_ok {l : List UInt8} : tcode l = 0 → Canon (resT (tcode l) (ttrip l)).1 (resT (tcode l) (ttrip l)).2.1 (resT (tcode l) (ttrip l)).2.2 ∧ Few (resT (tcode l) (ttrip l)) :=
  fun h => resT_ok (tcode_ok h).1 (fun _ => (tcode_ok h).2) h
theorem str_data (s : ByteArray) : str s.data.toList = .string s := rfl

end Go.Proofs.YtjnfnngobkjneaaGreatDoor
