import Derived.Test.YtjcacemijnlmhaaO
namespace Go.Proofs.Ytjcacemijnlmhaa
open Go.RowKit
theorem putR_ge (kind code : Int) (bs : List Int) : 1 ≤ (putR kind code bs).length := by
  simp only [putR, headR, List.length_append]
  split <;> (try split) <;> (try split) <;> simp <;> omega
theorem RepPuts_law (w : World) (kind code : Int) (A : Option Addr) (n c : Nat) (bs : List Int) (k0 : 0 ≤ kind) (k1 : kind < 256) (c0 : 0 ≤ code) (c1 : code < 256) (hr : Rd w A n bs) (hnc : n ≤ c) (hcm : c ≤ maxLen) (er : Int) :
    Calls Try.prog 3 #[.agg #[.int .u8 kind, .int .u8 code, .slice A n c], .int .i64 er] w fun e w' => e = .returned (.bool true) ∧ Ext w w' := by
  have hr' := hr.take (k := min n 20) (by omega)
  have hF := fun w => few_any kind code A n c w hnc hcm
  generalize hmm : min n 20 = m at *
  have HM := Lib.hid hmm; clear hmm
  have HF := Lib.hid hF; clear hF
  cases hm : mayR kind code m
  · go_enter Try.func3, Try.ntmps3
    go_wp2_with (first
      | (go_at_call 9; (with_reducible refine (HF.out _).mono ?_); rintro e wf ⟨rfl, xf⟩)
      | (go_at_call 8; (with_reducible refine (put_no _ _ _ _ _ _ hm).mono ?_); rintro e w1 ⟨rfl, x1⟩; have y1 := xf.trans x1; obtain ⟨f0, f1, f2⟩ := cells3 (blk_of y1))
      | (go_at_call 10; (with_reducible refine (rput_no _ _ _ _ _ _ hm).mono ?_); rintro e w2 ⟨rfl, x2⟩; have y2 := y1.trans (xf.trans x2))
      | (go_at_call 11; (with_reducible refine (shown_any _).mono ?_); rintro e w3 ⟨rfl, x3⟩; have s0 := str (A := none) (c := 0) (w := w3) Rd.nil)
      | (go_at_call 12; (with_reducible refine (code_any _ _).mono ?_); rintro e w4 ⟨rfl, rfl⟩)
      | (go_at_call 13; (with_reducible refine (rcode_any _ _).mono ?_); rintro e w4 ⟨rfl, rfl⟩))
    all_goals go_ret
    all_goals exact ⟨by simp, ((Ext.refl _).alloc _).trans (y2.trans x3)⟩
  · have hc20 : m ≤ c := by have := HM.out; omega
    go_enter Try.func3, Try.ntmps3
    go_wp2_with (first
      | (go_at_call 9; (with_reducible refine (HF.out _).mono ?_); rintro e wf ⟨rfl, xf⟩)
      | (go_at_call 8; (with_reducible refine (put_yes _ _ _ _ _ _ _ (hr'.ext (((Ext.refl _).alloc _).trans xf)) c0 c1 hm).mono ?_); rintro e w1 ⟨A1, cc1, rfl, _, _, x1, r1⟩; have y1 := xf.trans x1; obtain ⟨f0, f1, f2⟩ := cells3 (blk_of y1))
      | (go_at_call 10; (with_reducible refine (rput_yes _ _ _ _ _ _ _ (hr'.ext ((((Ext.refl _).alloc _).trans y1).trans xf)) c0 c1 hm).mono ?_); rintro e w2 ⟨A2, cc2, rfl, _, _, x2, r2⟩; have z2 := xf.trans x2; have y2 := y1.trans z2)
      | (go_at_call 11; (with_reducible refine (shown_any _).mono ?_); rintro e w3 ⟨rfl, x3⟩; have s1 := str (c := cc1) (r1.ext (z2.trans x3)); have s2 := str (c := cc2) (r2.ext x3))
      | (go_at_call 12; (with_reducible refine (code_any _ _).mono ?_); rintro e w4 ⟨rfl, rfl⟩)
      | (go_at_call 13; (with_reducible refine (rcode_any _ _).mono ?_); rintro e w4 ⟨rfl, rfl⟩))
    all_goals go_ret
    all_goals exact ⟨by simp, ((Ext.refl _).alloc _).trans (y2.trans x3)⟩
end Go.Proofs.Ytjcacemijnlmhaa
