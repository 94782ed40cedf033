import Derived.Test.YtjfdcgpnjjhhoaaQ
set_option linter.unusedVariables false
namespace Go.Proofs.Ytjfdcgpnjjhhoaa
open Go.RowKit
def evens : List Int → Nat → List Int
  | _, 0 => []
  | bs, k + 1 => evens bs k ++ (if k % 2 = 0 then [bs.getD k 0] else [])
def odds : List Int → Nat → List Int
  | _, 0 => []
  | bs, k + 1 => odds bs k ++ (if k % 2 = 0 then [] else [bs.getD k 0])
theorem evens_len (bs : List Int) : ∀ k, (evens bs k).length = (k + 1) / 2
  | 0 => rfl
  | k + 1 => by simp only [evens, List.length_append, evens_len bs k]; split <;> simp <;> omega
theorem odds_len (bs : List Int) : ∀ k, (odds bs k).length = k / 2
  | 0 => rfl
  | k + 1 => by simp only [odds, List.length_append, odds_len bs k]; split <;> simp <;> omega
theorem one_byt {bs : List Int} (h : Byts bs) (k : Nat) : Byts [bs.getD k 0] := by
  intro b hb
  simp only [List.mem_singleton] at hb
  subst hb
  exact h.getD k
theorem evens_byts {bs : List Int} (h : Byts bs) : ∀ k, Byts (evens bs k)
  | 0 => Byts.nil
  | k + 1 => by
    simp only [evens]
    refine (evens_byts h k).append ?_
    split
    · exact one_byt h k
    · exact Byts.nil
theorem odds_byts {bs : List Int} (h : Byts bs) : ∀ k, Byts (odds bs k)
  | 0 => Byts.nil
  | k + 1 => by
    simp only [odds]
    refine (odds_byts h k).append ?_
    split
    · exact Byts.nil
    · exact one_byt h k
/-- The sum of the bytes of a list. -/
def tot (bs : List Int) : Int := bs.foldl (· + ·) 0
theorem tot_app (a b : List Int) : tot (a ++ b) = tot a + tot b := by
  have h : ∀ (b : List Int) (s : Int), b.foldl (· + ·) s = s + b.foldl (· + ·) 0 := by
    intro b
    induction b with
    | nil => intro s; simp
    | cons x xs ih => intro s; rw [List.foldl_cons, List.foldl_cons, ih, ih (0 + x)]; omega
  simp only [tot, List.foldl_append]
  exact h b _
theorem SW1 (bs : List Int) (big : Bool) : ∀ i, i ≤ bs.length → SW bs 1 big i = tot (bs.take i)
  | 0, _ => rfl
  | i + 1, h => by
    rw [List.take_succ_eq_append_getElem (by omega), tot_app]
    simp only [SW]
    rw [SW1 bs big i (by omega), wordAt1 bs big i (by omega), List.getD_eq_getElem?_getD, List.getElem?_eq_getElem (by omega)]
    simp [tot]
theorem tot_bd : ∀ {bs : List Int}, Byts bs → 0 ≤ tot bs ∧ tot bs ≤ 255 * bs.length
  | [], _ => by simp [tot]
  | x :: xs, h => by
    have e : tot (x :: xs) = x + tot xs := by rw [show x :: xs = [x] ++ xs from rfl, tot_app]; simp [tot]
    have := tot_bd (bs := xs) (fun b hb => h b (by simp [hb]))
    have := h x (by simp)
    rw [e, List.length_cons]
    omega
theorem word2 {bs : List Int} {i : Nat} (h : 2 * i + 1 < bs.length) (big : Bool) : wordAt bs 2 big i = (if big then 256 * bs.getD (2 * i) 0 + bs.getD (2 * i + 1) 0 else bs.getD (2 * i) 0 + 256 * bs.getD (2 * i + 1) 0) := by
  have e : (bs.drop (2 * i)).take 2 = [bs.getD (2 * i) 0, bs.getD (2 * i + 1) 0] := by
    rw [List.drop_eq_getElem_cons (by omega), List.take_succ_cons, List.drop_eq_getElem_cons (by omega), List.take_succ_cons, List.take_zero,
      List.getD_eq_getElem?_getD, List.getElem?_eq_getElem (by omega), List.getD_eq_getElem?_getD, List.getElem?_eq_getElem (by omega)]
    rfl
  unfold wordAt
  rw [e]
  cases big <;> simp [takeTo, shf] <;> omega
theorem SW2 {bs : List Int} (big : Bool) : ∀ i, 2 * i ≤ bs.length → SW bs 2 big i = (if big then 256 * tot (evens bs (2 * i)) + tot (odds bs (2 * i)) else tot (evens bs (2 * i)) + 256 * tot (odds bs (2 * i)))
  | 0, _ => by cases big <;> rfl
  | i + 1, h => by
    have e1 : evens bs (2 * (i + 1)) = evens bs (2 * i) ++ [bs.getD (2 * i) 0] := by
      rw [show 2 * (i + 1) = 2 * i + 1 + 1 by omega]
      simp only [evens]
      rw [if_pos (by omega), if_neg (by omega), List.append_nil]
    have e2 : odds bs (2 * (i + 1)) = odds bs (2 * i) ++ [bs.getD (2 * i + 1) 0] := by
      rw [show 2 * (i + 1) = 2 * i + 1 + 1 by omega]
      simp only [odds]
      rw [if_pos (by omega), if_neg (by omega), List.append_nil]
    rw [e1, e2, tot_app, tot_app]
    simp only [SW]
    rw [SW2 big i (by omega), word2 (by omega)]
    have t1 : ∀ x : Int, tot [x] = x := fun x => by simp [tot]
    rw [t1, t1]
    cases big <;> simp <;> omega
theorem tot_split {bs : List Int} : ∀ i, 2 * i ≤ bs.length → tot (bs.take (2 * i)) = tot (evens bs (2 * i)) + tot (odds bs (2 * i))
  | 0, _ => rfl
  | i + 1, h => by
    have e1 : evens bs (2 * (i + 1)) = evens bs (2 * i) ++ [bs.getD (2 * i) 0] := by
      rw [show 2 * (i + 1) = 2 * i + 1 + 1 by omega]
      simp only [evens]
      rw [if_pos (by omega), if_neg (by omega), List.append_nil]
    have e2 : odds bs (2 * (i + 1)) = odds bs (2 * i) ++ [bs.getD (2 * i + 1) 0] := by
      rw [show 2 * (i + 1) = 2 * i + 1 + 1 by omega]
      simp only [odds]
      rw [if_pos (by omega), if_neg (by omega), List.append_nil]
    have e3 : bs.take (2 * (i + 1)) = bs.take (2 * i) ++ [bs.getD (2 * i) 0, bs.getD (2 * i + 1) 0] := by
      rw [show 2 * (i + 1) = 2 * i + 1 + 1 by omega, List.take_succ_eq_append_getElem (by omega), List.take_succ_eq_append_getElem (by omega), List.append_assoc,
        List.getD_eq_getElem?_getD, List.getElem?_eq_getElem (by omega), List.getD_eq_getElem?_getD, List.getElem?_eq_getElem (by omega)]
      rfl
    rw [e1, e2, e3, tot_app, tot_app, tot_app, tot_split i (by omega)]
    simp [tot]
    omega
theorem words_facts {X : List Int} {q d : Nat} (hx : Byts X) (hl : X.length = q) (hq : q = 2 * d) (h3 : q ≤ 300) :
    ∃ p r : Int, (0 ≤ p ∧ p < 100000) ∧ (0 ≤ r ∧ r < 100000) ∧ sumV ⟨2, 0, 27, 4294967295, 0⟩ true X = 256 * p + r ∧ sumV ⟨2, 0, 27, 4294967295, 0⟩ false X = 256 * r + p ∧
      sumV ⟨1, 0, 27, 4294967295, 0⟩ true (evens X q) = p ∧ sumV ⟨1, 0, 27, 4294967295, 0⟩ true (odds X q) = r ∧ sumV ⟨1, 0, 27, 4294967295, 0⟩ false X = p + r := by
  have a2 : addW ⟨2, 0, 27, 4294967295, 0⟩ := ⟨rfl, rfl, by simp, rfl, by simp⟩
  have a1 : addW ⟨1, 0, 27, 4294967295, 0⟩ := ⟨rfl, rfl, by simp, rfl, by simp⟩
  have be := evens_byts hx q
  have bo := odds_byts hx q
  have t1 := tot_bd be
  have t2 := tot_bd bo
  rw [evens_len] at t1
  rw [odds_len] at t2
  have hd : X.length / 2 = d := by omega
  have s2t := SW2 (bs := X) true d (by omega)
  have s2f := SW2 (bs := X) false d (by omega)
  have ts := tot_split (bs := X) d (by omega)
  rw [← hq] at s2t s2f ts
  rw [List.take_of_length_le (by omega)] at ts
  refine ⟨tot (evens X q), tot (odds X q), by omega, by omega, ?_, ?_, ?_, ?_, ?_⟩
  · rw [sumV_SW a2 true hx]; show SW X 2 true (X.length / 2) % _ = _; rw [hd, s2t]; simp; omega
  · rw [sumV_SW a2 false hx]; show SW X 2 false (X.length / 2) % _ = _; rw [hd, s2f]; simp; omega
  · rw [sumV_SW a1 true be]; show SW _ 1 true (_ / 1) % _ = _; rw [Nat.div_one, SW1 _ _ _ (Nat.le_refl _), List.take_length]; simp; omega
  · rw [sumV_SW a1 true bo]; show SW _ 1 true (_ / 1) % _ = _; rw [Nat.div_one, SW1 _ _ _ (Nat.le_refl _), List.take_length]; simp; omega
  · rw [sumV_SW a1 false hx]; show SW _ 1 false (_ / 1) % _ = _; rw [Nat.div_one, SW1 _ _ _ (Nat.le_refl _), List.take_length, ts]; simp; omega
end Go.Proofs.Ytjfdcgpnjjhhoaa
