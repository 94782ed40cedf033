import Derived.Test.YtjfdcgpnjjhhoaaC
set_option linter.unusedVariables false
set_option linter.unusedSimpArgs false
namespace Go.Proofs.Ytjfdcgpnjjhhoaa
open Go.RowKit
theorem way_some {kind : Int} {y : Way} (h : wayK kind = some y) (w : World) : Calls Try.prog 15 #[.int .u8 kind] w fun e w' => ∃ g, e = .returned (.agg #[.int .i64 y.word, .int .u32 y.start, .func (.func y.fn) #[] #[.pointer (some ⟨g, 0, none⟩)], .int .u32 y.turn]) ∧ Ext w w' ∧ w.heap.size ≤ g ∧ w'.heap[g]? = some (.cells #[.int .u32 y.m] 23 (0, 0)) :=
  (way_any kind w).mono fun e w' h' => by unfold WayPost at h'; rw [h] at h'; exact h'
theorem way_none {kind : Int} (h : wayK kind = none) (w : World) : Calls Try.prog 15 #[.int .u8 kind] w fun e w' => e = .returned (.agg #[.int .i64 0, .int .u32 0, .nilFunc, .int .u32 0]) ∧ Ext w w' :=
  (way_any kind w).mono fun e w' h' => by unfold WayPost at h'; rw [h] at h'; exact h'
def wordK (kind : Int) : Nat := match wayK kind with | none => 0 | some y => y.word
theorem hfd (a b c : Int) (f : Value) (w : World) : (Instr.field 43 (.agg #[.int .i64 a, .int .u32 b, f, .int .u32 c]) 0).run Try.prog w = .ok (.int .i64 a) w := by kernel_rfl
theorem word_any (kind : Int) (w : World) : Calls Try.prog 13 #[.int .u8 kind] w fun e w' => e = .returned (.int .i64 (wordK kind)) ∧ Ext w w' := by
  unfold wordK
  have hfd := hfd
  rcases h : wayK kind with _ | y
  · have H := Lib.hid h
    clear h
    go_enter Try.func13, Try.ntmps13
    go_wp2_with (go_at_call 15; (refine (way_none H.out _).mono ?_); rintro e w1 ⟨rfl, x1⟩)
    go_ret
    exact ⟨rfl, x1⟩
  · have H := Lib.hid h
    clear h
    go_enter Try.func13, Try.ntmps13
    go_wp2_with (go_at_call 15; (refine (way_some H.out _).mono ?_); rintro e w1 ⟨g, rfl, x1, _, _⟩)
    go_ret
    exact ⟨rfl, x1⟩
theorem of_none (kind : Int) (A : Option Addr) (n c : Nat) (big : Bool) (w : World) (h : wayK kind = none) : Calls Try.prog 9 #[.int .u8 kind, .slice A n c, .bool big] w fun e w' => e = .returned (.tuple #[.int .u32 0, .int .i64 1]) ∧ Ext w w' := by
  have H := Lib.hid h
  clear h
  go_enter Try.func9, Try.ntmps9
  go_upto_region 2 with (go_at_call 15; (refine (way_none H.out _).mono ?_); rintro e w1 ⟨rfl, x1⟩)
  go_wp2
  go_ret2
  exact ⟨rfl, x1.trans ((Ext.refl _).alloc _)⟩
def stepW (fn : Nat) (m r x : Int) : Int := if fn = 27 then addS m r x else if fn = 28 then halfS m r x else dblS m r x
def wordAt (bs : List Int) (k : Nat) (big : Bool) (i : Nat) : Int := takeTo ((bs.drop (k * i)).take k) k big k
def sumTo (y : Way) (big : Bool) (bs : List Int) : Nat → Int
  | 0 => y.start
  | i + 1 => stepW y.fn y.m (sumTo y big bs i) (wordAt bs y.word big i)
def sumV (y : Way) (big : Bool) (bs : List Int) : Int := bits .xor .u32 (sumTo y big bs (bs.length / y.word)) y.turn
theorem wordAt_bd {bs : List Int} (hb : Byts bs) {k : Nat} (big : Bool) (i : Nat) (hk : k = 1 ∨ k = 2 ∨ k = 4) : 0 ≤ wordAt bs k big i ∧ wordAt bs k big i < 2 ^ (8 * k) := by
  have hw : isW k = true := by rw [isW_iff]; omega
  have h := refTo_bd (bs := (bs.drop (k * i)).take k) (fun b hb' => hb b (List.mem_of_mem_drop (List.mem_of_mem_take hb'))) k big k
  rw [refTo_eq _ k big hw] at h
  exact h
structure Way.ok (y : Way) : Prop where
  word : y.word = 1 ∨ y.word = 2 ∨ y.word = 4
  start : 0 ≤ y.start ∧ y.start < 4294967296
  m : 0 ≤ y.m ∧ y.m < 4294967296
  turn : 0 ≤ y.turn ∧ y.turn < 4294967296
  fn : y.fn = 27 ∨ y.fn = 28 ∨ (y.fn = 29 ∧ y.word = 1 ∧ y.start < 65536 ∧ y.m < 65536)
theorem way_cases {kind : Int} {y : Way} (h : wayK kind = some y) :
    (kind = 1 ∧ y = ⟨1, 0, 27, 255, 0⟩) ∨ (kind = 2 ∧ y = ⟨1, 0, 27, 65535, 0⟩) ∨ (kind = 3 ∧ y = ⟨1, 0, 27, 4294967295, 0⟩) ∨ (kind = 4 ∧ y = ⟨2, 0, 27, 65535, 0⟩) ∨ (kind = 5 ∧ y = ⟨2, 0, 27, 4294967295, 0⟩) ∨
    (kind = 6 ∧ y = ⟨4, 0, 27, 4294967295, 0⟩) ∨ (kind = 7 ∧ y = ⟨1, 0, 28, 40961, 0⟩) ∨ (kind = 9 ∧ y = ⟨1, 4294967295, 28, 3988292384, 4294967295⟩) ∨ (kind = 8 ∧ y = ⟨1, 65535, 29, 4129, 0⟩) := by
  unfold wayK at h
  repeat' split at h
  all_goals first | (injection h with h; subst h; simp [*]) | cases h
theorem way_ok {kind : Int} {y : Way} (h : wayK kind = some y) : y.ok := by
  rcases way_cases h with ⟨_, rfl⟩ | ⟨_, rfl⟩ | ⟨_, rfl⟩ | ⟨_, rfl⟩ | ⟨_, rfl⟩ | ⟨_, rfl⟩ | ⟨_, rfl⟩ | ⟨_, rfl⟩ | ⟨_, rfl⟩ <;> exact ⟨by simp, by simp, by simp, by simp, by simp⟩
theorem addS_bd {m r x : Int} (hm : 0 ≤ m ∧ m < 4294967296) : 0 ≤ addS m r x ∧ addS m r x < 4294967296 := by
  unfold addS
  rw [u32_and _ m (by omega) (by omega) hm.1 hm.2]
  have : ((r + x) % 4294967296).toNat &&& m.toNat ≤ m.toNat := Nat.and_le_right
  omega
theorem sumTo_bd {y : Way} (hy : y.ok) (big : Bool) {bs : List Int} (hb : Byts bs) : ∀ i, 0 ≤ sumTo y big bs i ∧ sumTo y big bs i < 4294967296 ∧ (y.fn = 29 → sumTo y big bs i < 65536)
  | 0 => ⟨hy.start.1, hy.start.2, fun h => by have := hy.fn; simp [sumTo]; omega⟩
  | i + 1 => by
    obtain ⟨h0, h1, h2⟩ := sumTo_bd hy big hb i
    obtain ⟨w0, w1⟩ := wordAt_bd hb big i hy.word
    have w32 : wordAt bs y.word big i < 4294967296 := by rcases hy.word with h | h | h <;> rw [h] at w1 <;> simp at w1 <;> rw [h] <;> omega
    unfold sumTo stepW
    split
    · rename_i hf
      have := addS_bd (r := sumTo y big bs i) (x := wordAt bs y.word big i) hy.m
      exact ⟨this.1, this.2, fun h => by omega⟩
    · split
      · rename_i hf
        have := halfS_bd hy.m ⟨h0, h1⟩ ⟨w0, w32⟩
        exact ⟨this.1, this.2, fun h => by omega⟩
      · rename_i hf1 hf2
        obtain ⟨e1, e2, e3, e4⟩ : y.fn = 29 ∧ y.word = 1 ∧ y.start < 65536 ∧ y.m < 65536 := by have := hy.fn; omega
        have w8 : wordAt bs y.word big i < 256 := by rw [e2] at w1 ⊢; simpa using w1
        have := dblS_bd (b := y.m) ⟨hy.m.1, e4⟩ ⟨h0, h2 e1⟩ ⟨w0, w8⟩
        exact ⟨this.1, by omega, fun _ => this.2⟩
end Go.Proofs.Ytjfdcgpnjjhhoaa
