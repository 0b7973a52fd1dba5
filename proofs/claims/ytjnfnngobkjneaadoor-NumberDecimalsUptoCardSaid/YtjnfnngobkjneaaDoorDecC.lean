/- All calls of the law on two decimal texts. -/
import Derived.Test.YtjnfnngobkjneaaDoorDecB
namespace Go.Proofs.YtjnfnngobkjneaaDoor
open Go.RowKit Dg Dc

abbrev T3 := Bool × Nat × Nat
/-- A call that gives a pair. -/
def CallsU (f : FuncId) (args : Array Value) (W : World) (c : Int) (r : T3) : Prop :=
  Calls Tryd.prog f args W fun e w' => Below W.heap.size W w' ∧ URF w' e c r
def CallsT (f : FuncId) (args : Array Value) (W : World) : Prop :=
  Calls Tryd.prog f args W fun e w' => e = .returned (.bool true) ∧ Below W.heap.size W w'
/-- The law's calls on two decimal texts: none has an error but the last two, which agree. -/
structure DecOk (S1 S2 P1 P2 P3 : ByteArray) (m : Nat) (r0 rx ry rt rf rs rp rm rn rq : T3) (cq : Int) : Prop where
  x : ∀ W, TabOk W → CallsU 6 #[.string S1] W 0 rx
  y : ∀ W, TabOk W → CallsU 6 #[.string S2] W 0 ry
  i : ∀ W, Calls Tryd.prog 14 #[.int .i64 10] W fun e w' => ∃ v, e = .returned v ∧ FNorm w' v r0 ∧ Below W.heap.size W w'
  t : ∀ W v, FNorm W v r0 → TabOk W → CallsU 13 #[v, .int .i64 m] W 0 rt
  f : ∀ W v u, FNorm W v ry → FNorm W u rt → TabOk W → CallsU 15 #[v, u] W 0 rf
  s : ∀ W v u, FNorm W v rx → FNorm W u rf → TabOk W → CallsU 16 #[v, u] W 0 rs
  p : ∀ W, TabOk W → CallsU 6 #[.string P1] W 0 rp
  m : ∀ W, TabOk W → CallsU 6 #[.string P2] W 0 rm
  n : ∀ W v, FNorm W v rs → TabOk W → CallsU 17 #[v] W 0 rn
  e1 : ∀ W v u, FNorm W v rs → FNorm W u rp → CallsT 18 #[v, u] W
  e2 : ∀ W v u, FNorm W v rm → FNorm W u rn → CallsT 18 #[v, u] W
  d : ∀ W v u, FNorm W v rx → FNorm W u ry → TabOk W → CallsU 15 #[v, u] W cq rq
  q : ∀ W, TabOk W → CallsU 6 #[.string P3] W cq rq
  z : ∀ W v u, FNorm W v rq → FNorm W u rq → CallsT 8 #[v, .int .i64 cq, u, .int .i64 cq] W

theorem parse_of {l : List UInt8} {S : ByteArray} {c : Int} {r : T3} (hS : S = ⟨l.toArray⟩) (h : tcode l = c ∧ resT (tcode l) (ttrip l) = r) (W : World) (ht : TabOk W) : CallsU 6 #[.string S] W c r := by
  obtain ⟨rfl, rfl⟩ := h
  subst hS
  exact nParse_any l W ht
theorem bytes_list (S : ByteArray) : S = ⟨S.data.toList.toArray⟩ := by
  apply ByteArray.ext
  simp
theorem cat3 (S1 S2 : ByteArray) (c : UInt8) : S1 ++ ⟨#[c]⟩ ++ S2 = ⟨(S1.data.toList ++ c :: S2.data.toList).toArray⟩ := by
  conv => lhs; rw [bytes_list S1, bytes_list S2]
  rw [show (⟨#[c]⟩ : ByteArray) = ⟨[c].toArray⟩ from rfl, str_append, str_append, List.append_assoc]
  rfl
theorem cat4 (S1 S2 : ByteArray) : ⟨#[45]⟩ ++ S1 ++ ⟨#[46]⟩ ++ S2 = ⟨(45 :: (S1.data.toList ++ 46 :: S2.data.toList)).toArray⟩ := by
  conv => lhs; rw [bytes_list S1, bytes_list S2]
  rw [show (⟨#[45]⟩ : ByteArray) = ⟨[45].toArray⟩ from rfl, show (⟨#[46]⟩ : ByteArray) = ⟨[46].toArray⟩ from rfl, str_append, str_append, str_append, List.append_assoc, List.append_assoc]
  rfl

theorem isq_int (n : Nat) : IsQ (false, n, 0) (n : Int) 1 := ⟨by decide, by simp [sv, den1]⟩
theorem isq_frac (s : Bool) {n d : Nat} (hd : d ≠ 0) : IsQ (outF (frac s n d)) (sv s n) (d : Int) :=
  out_IsQ (frac_FQ (Nat.pos_of_ne_zero hd) (by omega) rfl)

theorem dec_ok (S1 S2 : ByteArray) (h1 : decb S1.data.toList = true) (h2 : decb S2.data.toList = true) :
    ∃ r0 rx ry rt rf rs rp rm rn rq cq, DecOk S1 S2 (S1 ++ ⟨#[46]⟩ ++ S2) (⟨#[45]⟩ ++ S1 ++ ⟨#[46]⟩ ++ S2) (S1 ++ ⟨#[47]⟩ ++ S2) S2.size r0 rx ry rt rf rs rp rm rn rq cq := by
  have ha := decb_yes h1
  have hb := decb_yes h2
  have c1 := bytes_list S1
  have c2 := bytes_list S2
  have c3 := cat3 S1 S2 46
  have c4 := cat4 S1 S2
  have c5 := cat3 S1 S2 47
  have hsz : S2.size = S2.data.toList.length := by simp
  generalize S1 ++ ⟨#[46]⟩ ++ S2 = P1 at *
  generalize ⟨#[45]⟩ ++ S1 ++ ⟨#[46]⟩ ++ S2 = P2 at *
  generalize S1 ++ ⟨#[47]⟩ ++ S2 = P3 at *
  generalize S1.data.toList = la at *
  generalize S2.data.toList = lb at *
  have hva : val la < 10 ^ 31 := Nat.lt_of_lt_of_le (val_lt la ha.1) (ten_le (by have := ha.2.2; omega))
  have hvb : val lb < 10 ^ 31 := Nat.lt_of_lt_of_le (val_lt lb hb.1) (ten_le (by have := hb.2.2; omega))
  have hT : 10 ^ lb.length < 10 ^ 31 := Nat.pow_lt_pow_right (by decide) (by have := hb.2.2; omega)
  have hT0 : 10 ^ lb.length ≠ 0 := Nat.ne_of_gt (Nat.pow_pos (by decide))
  have h0 : (0 : Nat) < 10 ^ 31 := Nat.pow_pos (by decide)
  have sx : Sm (false, val la, 0) 31 := ⟨hva, h0⟩
  have sy : Sm (false, val lb, 0) 31 := ⟨hvb, h0⟩
  have st : Sm (false, 10 ^ lb.length, 0) 31 := ⟨hT, h0⟩
  have hft : (fr (false, 10 ^ lb.length, 0)).2.1 ≠ 0 := by rw [fr_int]; exact hT0
  have sf := ((sy.fr (by omega)).mul (st.fr (by omega)).inv).out
  have ss := ((sx.fr (by omega)).add (sf.fr (by omega))).out
  have sp := (sm_frac (s := false) (v_lt ha hb) (t_lt hb)).out
  have sm := (sm_frac (s := true) (v_lt ha hb) (t_lt hb)).out
  have sn := (ss.fr (by omega)).neg.out
  have qx := isq_int (val la)
  have qy := isq_int (val lb)
  have qt := isq_int (10 ^ lb.length)
  have qf := out_IsQ (fmul_FQ (fq_FQ qy) (finv_FQ (fq_FQ qt) hft))
  have qs := out_IsQ (fadd_FQ (fq_FQ qx) (fq_FQ qf))
  have qp := isq_frac false (n := val (la ++ lb)) hT0
  have qm := isq_frac true (n := val (la ++ lb)) hT0
  have qn := out_IsQ (fneg_FQ (fq_FQ qs))
  have hV : (val (la ++ lb) : Int) = (val la : Int) * (10 ^ lb.length : Nat) + (val lb : Int) := by rw [val_append]; push_cast; rfl
  have hfy : (fr (false, val lb, 0)).2.1 = val lb := by rw [fr_int]
  have hdq : fmul (fr (false, val la, 0)) (finv (fr (false, val lb, 0))) = frac false (val la) (val lb) := by
    rw [fr_int, fr_int]
    unfold fmul finv
    simp
  refine ⟨(false, 10, 0), (false, val la, 0), (false, val lb, 0), (false, 10 ^ lb.length, 0), (outF (fmul (fr (false, val lb, 0)) (finv (fr (false, 10 ^ lb.length, 0))))), (outF (fadd (fr (false, val la, 0)) (fr (outF (fmul (fr (false, val lb, 0)) (finv (fr (false, 10 ^ lb.length, 0)))))))), (outF (frac false (val (la ++ lb)) (10 ^ lb.length))), (outF (frac true (val (la ++ lb)) (10 ^ lb.length))), (outF (fneg (fr (outF (fadd (fr (false, val la, 0)) (fr (outF (fmul (fr (false, val lb, 0)) (finv (fr (false, 10 ^ lb.length, 0))))))))))), resT (if val lb = 0 then 10 else 0) (frac false (val la) (val lb)), (if val lb = 0 then 10 else 0), ?_⟩
  exact
    { x := parse_of c1 (t_plain ha)
      y := parse_of c2 (t_plain hb)
      i := fun W => nFromInt_any 10 W (by decide) (by decide)
      t := fun W v hv ht => by rw [hsz]; exact pow0 hb.2.2 hv ht
      f := fun W v u hv hu ht => by
        have h := div0 sy st (by omega) (by omega) (by omega) hv hu ht
        rw [if_neg hft] at h
        exact h
      s := fun W v u hv hu ht => add0 sx sf (by omega) (by omega) (by omega) hv hu ht
      p := parse_of c3 (t_point ha hb)
      m := parse_of c4 (t_neg ha hb)
      n := fun W v hv ht => neg0 ss (by omega) (by omega) hv ht
      e1 := fun W v u hv hu => eq0 ss sp (by omega) (by omega) qs qp (by
        show _ = (sv false (val (la ++ lb))) * _
        rw [show sv false (val (la ++ lb)) = (val (la ++ lb) : Int) from rfl, hV]
        grind) hv hu
      e2 := fun W v u hv hu => eq0 sm sn (by omega) (by omega) qm qn (by
        rw [show sv true (val (la ++ lb)) = -(val (la ++ lb) : Int) from rfl, hV]
        grind) hv hu
      d := fun W v u hv hu ht => by
        have h := div0 sx sy (by omega) (by omega) (by omega) hv hu ht
        rw [hfy, hdq] at h
        exact h
      q := parse_of c5 (t_slash ha hb)
      z := fun W v u hv hu => Is_same v u _ _ W hv hu (fun hc => by
        have hb0 : val lb ≠ 0 := fun h => by rw [if_pos h] at hc; exact absurd hc (by decide)
        exact resT_ok ⟨_, _, _, Nat.pos_of_ne_zero hb0, rfl⟩ (fun _ => (sm_frac hva hvb).big (by omega)) hc) resT_no }
end Go.Proofs.YtjnfnngobkjneaaDoor
