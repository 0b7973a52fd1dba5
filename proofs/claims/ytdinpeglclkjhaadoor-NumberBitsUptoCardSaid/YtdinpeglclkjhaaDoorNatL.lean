/- The natural numbers of the program: copies of digits, the tail. -/
import Derived.Test.YtdinpeglclkjhaaDoorNatK
import Derived.Laws.CopyOwn
namespace Go.Proofs.YtdinpeglclkjhaaDoor
open Go.RowKit Dg

theorem Slc.alloc {w : World} {p : Option Addr} {n : Nat} {f : Nat → Nat} (h : Slc w p n f) (o : Obj) : Slc (w.alloc o) p n f := h.below ((Below.refl _ _).alloc (Nat.le_refl _) o)
theorem Tryd.sizeU32 : (Tryd.prog.info? 58).map (·.size) = some 1 := by kernel_rfl

/-- 'copy' of digits into a new row of zeros. -/
theorem wpList_copy_digits {B N n cap x dT sT : Nat} {p : Option Addr} {w0 w : World} {ops : Array Oper} {rest : List Oper} {o : Oper} {a : Act} {Q : Exit → Act → World → Prop} (hgd : o.guard = none) (d s : Operand)
    (ho : o.op = .call { callee := .builtin .copy, args := #[d, s], argTypes := #[dT, sT] }) (hu : Tryd.prog.underlying dT = some (.slice 58))
    (hd : a.eval d = .slice (some ⟨w0.heap.size, 0, none⟩) N N) (hs : a.eval s = .slice p n cap) (hB : 0 < B) (hM : Mk B w0 w N 0) (hsl : Slc w p n (dg B x)) (hn0 : 0 < n)
    (h : ∀ w', Mk B w0 w' N (x % B ^ min n N) → wpList Tryd.prog ops Q rest (a.put o.dst (goInt ((min n N : Nat) : Int))) w') :
    wpList Tryd.prog ops Q (o :: rest) a w := by
  obtain ⟨b, off, rfl, hc⟩ := hsl hn0
  obtain ⟨c, hg, hcN, hcc⟩ := hM.row
  have hlen : ((List.range (min n N)).map fun j => Value.int .u32 (dg B x j : Nat)).length = min n N := by simp
  refine wpList_copy_own hgd d s dT sT ho 58 hu Tryd.sizeU32 w0.heap.size 0 N N ⟨b, off, none⟩ n cap hd hs c 58 hg ((List.range (min n N)).map fun j => Value.int .u32 (dg B x j : Nat)) (by rw [hlen]) ?_ (by rw [hlen]; omega) ?_ ?_
  · intro j v hj
    obtain ⟨hlt, hv⟩ := List.getElem?_eq_some_iff.1 hj
    rw [hlen] at hlt
    simp only [List.getElem_map, List.getElem_range] at hv
    subst hv
    rw [Addr.add_lit]
    exact hc j (by omega)
  · intro v hv
    obtain ⟨j, _, rfl⟩ := List.mem_map.1 hv
    rfl
  · rw [hlen]
    refine h _ ⟨below_setRow hM.bel (Nat.le_refl _) _, _, setRow_heap w _ _ _ _ _ hg, ?_, ?_⟩
    · simp; omega
    · intro i hi
      simp only [List.take_zero, List.nil_append, Nat.zero_add, List.getElem?_toArray]
      by_cases h1 : i < min n N
      · rw [List.getElem?_append_left (by simpa using h1)]
        have e : dg B (x % B ^ min n N) i = dg B x i := by
          have e := Nat.mod_add_div x (B ^ min n N)
          conv => rhs; rw [← e]
          rw [dg_add_lt hB h1]
        rw [e]
        simp [h1]
      · rw [List.getElem?_append_right (by simp; omega)]
        have e : dg B (x % B ^ min n N) i = 0 := dg_zero' hB (Nat.mod_lt _ (Nat.pow_pos hB)) (by omega)
        rw [e]
        have := hcc i hi
        simp [List.getElem?_drop, dg] at this ⊢
        rw [show min n N + (i - min n N) = i by omega]
        exact this

theorem and_mask (d t : Nat) (hd : d < 4294967296) (ht : t < 32) : bits .and .u32 (d : Int) ((2 ^ t - 1) % 4294967296) = ((d % 2 ^ t : Nat) : Int) := by
  have h1 : 0 < 2 ^ t := Nat.pow_pos (by omega)
  have h2 : 2 ^ t < 2 ^ 32 := Nat.pow_lt_pow_right (by omega) ht
  have e : ((2 : Int) ^ t - 1) % 4294967296 = ((2 ^ t - 1 : Nat) : Int) := by
    have : (2 : Int) ^ t = ((2 ^ t : Nat) : Int) := by rw [Int.natCast_pow]; rfl
    rw [this]; omega
  rw [e, u32_and_nat _ _ hd (by omega), Nat.and_two_pow_sub_one_eq_mod]

theorem tail_val {x s t : Nat} (ht : t < 32) : setd W32 (x % W32 ^ (s + 1)) s (dg W32 (x % W32 ^ (s + 1)) s % 2 ^ t) = x % 2 ^ (32 * s + t) ∧ x % 2 ^ (32 * s + t) < W32 ^ (s + 1) := by
  have hW := W32_mul t ht
  have hP : 0 < W32 ^ s := Nat.pow_pos W32_pos
  have e1 : dg W32 (x % W32 ^ (s + 1)) s = dg W32 x s := by
    have e := Nat.mod_add_div x (W32 ^ (s + 1))
    conv => rhs; rw [← e]
    rw [dg_add_lt W32_pos (Nat.lt_succ_self s)]
  have e2 : x % W32 ^ (s + 1) % W32 ^ s = x % W32 ^ s := Nat.mod_mod_of_dvd _ ⟨W32, by rw [Nat.pow_succ]⟩
  have e3 : x % W32 ^ (s + 1) / W32 ^ (s + 1) = 0 := Nat.div_eq_of_lt (Nat.mod_lt _ (Nat.pow_pos W32_pos))
  refine ⟨?_, ?_⟩
  · unfold setd
    rw [e1, e2, e3, Nat.mul_zero, Nat.add_zero, pow_split, Nat.mod_mul]
    unfold dg
    rw [Nat.mod_mod_of_dvd _ ⟨2 ^ (32 - t), hW⟩]
  · rw [pow_split]
    refine Nat.lt_of_lt_of_le (Nat.mod_lt _ (Nat.mul_pos hP (Nat.pow_pos (by omega)))) ?_
    rw [Nat.pow_succ]
    refine Nat.mul_le_mul_left _ ?_
    rw [W32_val]
    exact Nat.pow_le_pow_right (n := 2) (by omega) (Nat.le_of_lt ht)

set_option maxHeartbeats 1000000 in
set_option maxRecDepth 100000 in
theorem tail_any (va : Value) (x n : Nat) (w : World) (ha : Rep W32 w va x) (hx : x < W32 ^ 1000000000) (hn : 2 ^ n ≤ x) :
    Calls Tryd.prog 133 #[va, .int .i64 n] w fun e w' => ∃ v, e = .returned v ∧ Rep W32 w' v (x % 2 ^ n) ∧ Below w.heap.size w w' := by
  obtain ⟨pa, na, ca, rfl, hca, hla, hsa⟩ := ha
  have hna := hla.le W32_pos hx
  clear hx
  have hn2 : n < 32 * na := by
    have h1 := hla.1
    rw [W32_pow] at h1
    exact (Nat.pow_lt_pow_iff_right (by omega)).1 (Nat.lt_of_le_of_lt hn h1)
  obtain ⟨s, t, hst, ht⟩ : ∃ s t, n = 32 * s + t ∧ t < 32 := ⟨n / 32, n % 32, by omega, by omega⟩
  have hsn : s < na := by omega
  have hq : (n : Int) / 32 = (s : Int) := by omega
  have hnt : n % 32 = t := by omega
  have Hnt := hid hnt
  have Hst := hid hst
  have hmk := Tryd.mk (s + 1) (by omega)
  simp only [Int.natCast_add, Int.cast_ofNat_Int] at hmk
  have hn3 : n ≤ 32000000000 := by omega
  clear hst hn hnt hn2
  go_enter Tryd.func133, Tryd.ntmps133
  have HM0 := hid (Mk.start W32 w (s + 1))
  have Hsa := hid (hsa.alloc (.cells (madeCells #[.int .u32 0] (s + 1)) 58))
  have hna0 : 0 < na := by omega
  clear hsa
  go_wp2_with (with_reducible refine wpList_copy_digits (dT := 22) (sT := 52) (B := W32) (w0 := w) (N := s + 1) (n := na) (cap := ca) (p := pa) (x := x) rfl (.tmp 15) (.tmp 16) rfl Tryd.underlying22 rfl rfl W32_pos HM0.out Hsa.out hna0 ?_)
  intro w1 hM
  clear hmk hq
  go_wp2_with fail
  have hcell := hM.cell (Nat.lt_succ_self s)
  have hfrz := hM.row.frozen s
  have Hv := hid (tail_val (x := x) (s := s) ht)
  have hmin : min na (s + 1) = s + 1 := by omega
  rw [hmin] at hM hcell
  clear hmin
  go_region
  go_wp2_with fail
  have hd := dg_u32 (x % W32 ^ (s + 1)) s
  have hlt : dg W32 (x % W32 ^ (s + 1)) s % 2 ^ t < W32 := Nat.lt_of_le_of_lt (Nat.mod_le _ _) hd
  have hM2 := hM.set W32_pos s _ hlt
  rw [Hv.out.1, ← Hst.out] at hM2
  rw [Hnt.out, and_mask _ t hd ht]
  have hM3 := hM2.drewN 1
  rw [← World.drew_is_drewN] at hM3
  refine (Of_any _ _ _ (x % 2 ^ n) _ (by omega) (Nat.le_refl _) (by rw [Hst.out]; exact Hv.out.2) hM3.slc).mono ?_
  rintro e w' ⟨m, rfl, hm, hlen, rfl⟩
  go_wp2_with fail
  go_ret
  exact ⟨_, rfl, ⟨_, _, _, rfl, hm, hlen, hM3.slc.take (by omega)⟩, hM3.bel⟩
end Go.Proofs.YtdinpeglclkjhaaDoor
