import Derived.Test.YtnfipfgbckbaeaaNum
set_option linter.unusedVariables false
namespace Go.Proofs.Ytnfipfgbckbaeaa
open Go.RowKit
def sm (c : Int) : Nat := ([0,1,0,0,0,1,1,2,1,1,0,1,2,1,1,3,2,3,0,1,2,3,3,2,5,2,1] : List Nat).getD c.toNat 0
def gr (c : Int) : Bool := c == 5 || c == 7 || c == 11 || c == 14 || c == 23
def mo (c : Int) : Nat := if c == 8 || c == 9 || c == 13 then 6 else if c == 10 then 7 else 0
def ok (c : Int) : Bool := decide (1 ≤ c ∧ c ≤ 26)
def ShE (c : Int) (e : Ending) : Prop := e = .returned (.tuple #[.int .i64 (sm c), .bool (gr c), .int .i64 (mo c), .bool (ok c)])
theorem shE_of {c : Int} {s m : Nat} {g o : Bool} (h : s = sm c ∧ g = gr c ∧ m = mo c ∧ o = ok c) : ShE c (.returned (.tuple #[.int .i64 s, .bool g, .int .i64 m, .bool o])) := by
  obtain ⟨rfl, rfl, rfl, rfl⟩ := h; rfl
theorem results_tmp4 {fn : Func} {t u v x : Tmp} (h : fn.results = #[.tmp t, .tmp u, .tmp v, .tmp x]) (tmps : Array Value) (P : Program) (w : World) :
    (results fn tmps).run P w = .ok (.tuple #[tmps.getD t undef, tmps.getD u undef, tmps.getD v undef, tmps.getD x undef]) w := by
  simp [results, h]
theorem sh_out {c : Int} (h0 : 0 ≤ c) (h : c < 1 ∨ 26 < c) : 0 = sm c ∧ false = gr c ∧ 0 = mo c ∧ false = ok c := by
  rcases h with h | h
  · obtain rfl : c = 0 := by omega
    decide
  · refine ⟨?_, ?_, ?_, ?_⟩
    · unfold sm
      rw [List.getD, List.getElem?_eq_none (show 27 ≤ c.toNat by omega)]
      rfl
    · simp [gr]; omega
    · simp [mo, show ¬ c = 8 by omega, show ¬ c = 9 by omega, show ¬ c = 13 by omega, show ¬ c = 10 by omega]
    · simp [ok]; omega
theorem shape_any (c : Int) (w : World) (h0 : 0 ≤ c) (h1 : c < 256) :
    Calls Try.prog 11 #[.int .u8 c] w fun e w' => ShE c e ∧ w = w' := by
  go_enter Try.func11, Try.ntmps11
  go_wp2
  all_goals
    refine bodyPost_ret (results_tmp4 rfl _ _ _) rfl ⟨?_, rfl⟩
    simp only [beq_iff_eq, beq_eq_false_iff_ne, ne_eq] at *
    first | (subst_vars; exact shE_of (by decide)) | (exact shE_of (g := false) (m := 0) (s := 0) (o := false) (sh_out h0 (by omega)))
theorem rshape_any (c : Int) (w : World) (h0 : 0 ≤ c) (h1 : c < 256) :
    Calls Try.prog 12 #[.int .u8 c] w fun e w' => ShE c e ∧ w = w' := by
  go_enter Try.func12, Try.ntmps12
  go_wp2
  all_goals
    refine bodyPost_ret (results_tmp4 rfl _ _ _) rfl ⟨?_, rfl⟩
    simp only [beq_iff_eq, beq_eq_false_iff_ne, ne_eq] at *
    first | (subst_vars; exact shE_of (by decide)) | (exact shE_of (g := false) (m := 0) (s := 0) (o := false) (sh_out h0 (by omega)))
end Go.Proofs.Ytnfipfgbckbaeaa
