import Derived.Test.YtnbcmlphnllgeaaA
set_option linter.unusedVariables false
set_option linter.unusedSimpArgs false
namespace Go.Proofs.Ytnbcmlphnllgeaa
open Go.RowKit
theorem eqn_none (n c : Nat) (W : World) : (binOp .eql 30 (.slice none n c) (.slice none 0 0)).run Try.prog W = .ok (.bool true) W := by kernel_rfl
theorem eqn_some (ad : Addr) (n c : Nat) (W : World) : (binOp .eql 30 (.slice (some ad) n c) (.slice none 0 0)).run Try.prog W = .ok (.bool false) W := by kernel_rfl
theorem cl_any {w : World} {A : Option Addr} {n : Nat} (c : Nat) {bs : List Int} (hr : Rd w A n bs) (hn : n ≤ 100000) :
    Calls Try.prog 21 #[.slice A n c] w fun e w' => ∃ v, e = .returned v ∧ Ext w w' ∧ w'.ownsRow w.heap.size 5 1 v n (u8s bs) := by
  rcases A with _ | ad
  · have h0 : n = 0 := by
      rcases Nat.eq_zero_or_pos n with h | h
      · exact h
      · obtain ⟨_, e, _⟩ := hr.shows.2 h; cases e
    subst h0
    have hb : bs = [] := List.eq_nil_of_length_eq_zero hr.len
    subst hb
    have hen := eqn_none
    go_enter Try.func21, Try.ntmps21
    go_wp2
    go_ret
    exact ⟨_, rfl, Ext.refl w, ⟨rfl, .inl ⟨rfl, rfl⟩⟩⟩
  · have hs := hr.shows
    have hes := eqn_some
    go_enter Try.func21, Try.ntmps21
    go_wp2_with (at_builtin; refine wpList_app el36 rfl _ _ rfl (World.ownsRow_made w #[] 0 (Nat.le_refl _) (by simp) rfl) rfl (hs.ext ((Ext.refl w).alloc _)) rfl (u8s_one _) (le_max (by omega)) (by omega) rfl ((Ext.refl w).alloc _) ?_; intro v9 w9 hown9 x9 hg9 hat9; simp only [List.nil_append, Nat.zero_add] at hown9)
    go_ret
    exact ⟨_, rfl, x9, hown9⟩
def samp (l : List Pk) : Bool := l.all (fun p => decide (p.code < 64)) && decide (0 < l.length)
theorem all_take {α : Type} {p : α → Bool} {l : List α} {k : Nat} {a : α} (h : (l.take k).all p = true) (ha : l[k]? = some a) (hp : p a = true) : (l.take (k + 1)).all p = true := by
  rw [List.take_add_one, ha]
  simp [List.all_append, h, hp]
def QS.new (n : Nat) : QS := ⟨n, [], [false, false, false, false]⟩
theorem qu_new {w : World} {ty : TypeId} {g n : Nat} (K : w.heap[g]? = some (.cells #[.int .i64 (n : Int), .slice none 0 0, .bool false, .bool false, .bool false, .bool false] ty (0, 0))) (h1 : 1 ≤ n) (h2 : n ≤ 64) :
    QuC w ty g (.new n) [] (fun t => if t = (0, 0, 0) then .slice (some ⟨g, 0, none⟩) 1 1 else .slice none 0 0) (fun b => if b = g then some (0, 0, 0) else none) := by
  have hcase : ∀ t p, qspec ty (.new n) [] (fun t => if t = (0, 0, 0) then .slice (some ⟨g, 0, none⟩) 1 1 else .slice none 0 0) t = some p → (t = (0, 0, 0) ∧ p = ⟨ty, 6, 1, [.int .i64 (n : Int), .slice none 0 0, .bool false, .bool false, .bool false, .bool false]⟩) ∨ (t = (1, 0, 0) ∧ p = ⟨32, 3, 0, []⟩) := by
    rintro ⟨a, x, y⟩ p hp
    match a with
    | 0 => simp [qspec, qobj, QS.new] at hp; obtain ⟨⟨rfl, rfl⟩, hp⟩ := hp; exact .inl ⟨rfl, hp.symm⟩
    | 1 => simp [qspec, rps] at hp; obtain ⟨⟨rfl, rfl⟩, hp⟩ := hp; exact .inr ⟨rfl, hp.symm⟩
    | n + 2 => simp [qspec] at hp
  refine ⟨⟨fun t p hp => ?_, fun t p hp b hb => ?_, fun b t hb => ?_⟩, by simp, rfl, ⟨h1, h2, Nat.zero_le _, rfl⟩, by simp, by simp⟩
  · rcases hcase t p hp with ⟨rfl, rfl⟩ | ⟨rfl, rfl⟩
    · simp only [if_true]
      exact obj_own (xs := [.int .i64 (n : Int), .slice none 0 0, .bool false, .bool false, .bool false, .bool false]) K (Nat.zero_le _) rfl
    · simp; exact ⟨rfl, .inl ⟨rfl, rfl⟩⟩
  · rcases hcase t p hp with ⟨rfl, rfl⟩ | ⟨rfl, rfl⟩
    · simp [Value.ownBlock] at hb; simp [hb]
    · simp [Value.ownBlock] at hb
  · by_cases e : b = g
    · subst e; exact blk_lt K
    · simp [e] at hb
theorem new_no16 (n : Int) (h : n < 1 ∨ 64 < n) (w : World) : Calls Try.prog 16 #[.int .i64 n] w fun e w' => e = .returned (.tuple #[.pointer none, .int .i64 1]) ∧ w = w' := by
  by_cases h1 : n < 1
  · clear h
    go_enter Try.func16, Try.ntmps16
    go_wp2
    go_ret2
    exact ⟨rfl, rfl⟩
  · have h2 : 64 < n := by omega
    clear h
    go_enter Try.func16, Try.ntmps16
    go_wp2
    go_ret2
    exact ⟨rfl, rfl⟩
theorem new_yes16 {n : Nat} (h1 : 1 ≤ n) (h2 : n ≤ 64) (w : World) : Calls Try.prog 16 #[.int .i64 (n : Int)] w fun e w' => ∃ g rs va T, e = .returned (.tuple #[.pointer (some ⟨g, 0, none⟩), .int .i64 0]) ∧ Ext w w' ∧ QuC w' 58 g (.new n) rs va T ∧ ∀ b t, T b = some t → w.heap.size ≤ b := by
  have d1 : ¬ (n : Int) < 1 := by omega
  have d2 : ¬ (64 : Int) < n := by omega
  go_enter Try.func16, Try.ntmps16
  go_wp2
  go_ret2
  exact ⟨_, rfl, (Ext.refl _).alloc _, [], _, _, qu_new (heap_alloc_new _ _) h1 h2, by intro b x1 x2 x3 hb; (by_cases e : b = w.heap.size); omega; simp [e] at hb⟩
end Go.Proofs.Ytnbcmlphnllgeaa
