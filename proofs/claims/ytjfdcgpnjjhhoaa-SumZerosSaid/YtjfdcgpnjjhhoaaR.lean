import Derived.Test.YtjfdcgpnjjhhoaaQ
import Derived.Maps.OwnOps
import Derived.Maps.Views
set_option linter.unusedVariables false
namespace Go.Proofs.Ytjfdcgpnjjhhoaa
open Go.RowKit Go.Maps
theorem wpList_insert_own {H : Type} {P : Program} (w : World) {ops : Array Oper} {rest : List Oper} {o : Oper} {a : Act} {Q : Exit → Act → World → Prop}
    (hg : o.guard = none) (m x v : Operand) (t : TypeId) (hop : o.op = Op.insert t m x v)
    (k e : TypeId) (K : Keyed P k) (ht : P.underlying t = some (.map k e)) (R : Value → Option (DataW H × List MemPlace)) (b n : Nat) (D : DataW H)
    (hm : a.eval m = .map (some b)) (hown : w.ownsMap P k R b n D) (hn : n < maxLen) (key val : Value) (kl : Lit) (hx : a.eval x = key) (hv : a.eval v = val) (hkey : keyOf P k key = some kl)
    (d : DataW H) (ps : List MemPlace) (hval : R val = some (d, ps))
    (hK : ∀ w', w'.ownsMap P k R b (n + 1) (D.put kl d) → w.grownBy w' (some b) → wpList P ops Q rest (a.put o.dst undef) w') :
    wpList P ops Q (o :: rest) a w := by
  refine wpList_plain hg fun K' hK' => ?_
  obtain ⟨w', hrun, r1, r2⟩ := hown.update K ht hn hkey hval
  unfold Oper.wp
  simp [execOp, hop, hm, hx, hv, hrun, Result.andThen]
  exact hK' _ _ (hK w' r1 r2)
theorem law5 : Keyed Try.prog 5 := int_keyed Try.underlying5
theorem zero23 (w : World) : (zeroValue 23).run Try.prog w = .ok (.int .u32 0) w := by kernel_rfl
theorem look8 {k c : Int} (h0 : 0 ≤ k ∧ k < 256) (h : ((DataW.map []).put (H := Unit) (.int .u8 8) (.lit (.int .u32 65535))).atKey (.int .u8 k) (.lit (.int .u32 0)) = .lit (.int .u32 c)) : c = if k = 8 then 65535 else 0 := by
  by_cases hk : k = 8
  · subst hk
    rw [if_pos rfl]
    rw [atKey_put_same ⟨_, rfl⟩ (by simp [WideAt.IsKeyLit])] at h
    injection h with h; injection h with _ h; exact h.symm
  · rw [if_neg hk]
    rw [atKey_put_other (by intro e; injection e with _ e; exact hk e)] at h
    have e : (DataW.map [] : DataW Unit).atKey (.int .u8 k) (.lit (.int .u32 0)) = .lit (.int .u32 0) := rfl
    rw [e] at h
    injection h with h; injection h with _ h; exact h.symm
set_option maxRecDepth 100000 in
set_option maxHeartbeats 8000000 in
theorem SumZeros_law (w : World) (kind : Int) (A : Option Addr) (n c : Nat) (bs : List Int) (many : Int) (k0 : 0 ≤ kind) (k1 : kind < 256) (rdA : Rd w A n bs) (leA : n ≤ c) (cmA : c ≤ maxLen) (q0 : 0 ≤ many) (q1 : many < 256) :
    Calls Try.prog 7 #[.int .u8 kind, .slice A n c, .int .u8 many] w fun e w' => e = .returned (.bool true) ∧ Ext w w' := by
  have FA := fun W => Lib.hid (few_any A n c W leA cmA)
  have ra := rdA.take (k := min n 300) (by omega)
  have ha : min n 300 ≤ 300 ∧ min n 300 ≤ c := by omega
  clear rdA
  generalize min n 300 = n1 at *
  generalize bs.take n1 = b1 at *
  obtain ⟨dn, p, e1, e2, e3, e4, hd1, hp1⟩ := quart (n := n1)
  have rx := ra.take (k := p) e3
  clear ra e1 e2
  generalize b1.take p = X at *
  obtain ⟨ha1, ha2⟩ := ha
  have hpc : p ≤ c := by omega
  have hp300 : p ≤ 300 := by omega
  have lX := rx.len
  obtain ⟨kk, hkk⟩ : ∃ kk : Int, kind % 9 + 1 = kk := ⟨_, rfl⟩
  have hk9 : 1 ≤ kk ∧ kk ≤ 9 := by omega
  have hkt : kind.tmod 9 = kind % 9 := Int.tmod_eq_emod_of_nonneg k0
  obtain ⟨z, hz⟩ : ∃ z : Nat, many % 9 = z := ⟨(many % 9).toNat, by omega⟩
  have hz8 : z ≤ 8 := by omega
  have hmt : many.tmod 9 = z := by rw [Int.tmod_eq_emod_of_nonneg q0]; exact hz
  obtain ⟨y, hy, hw, hnil, hcase⟩ := way9 hk9 hz8 rx.byts (by rw [lX]; exact e4)
  have HY := Lib.hid hy
  obtain ⟨NV, hNV⟩ : ∃ NV : Int, NV = if kk = 8 then 65535 else 0 := ⟨_, rfl⟩
  rw [← hNV] at hnil
  have HNV := Lib.hid hNV
  clear hNV
  have HNIL := Lib.hid hnil
  have hm1 : p % y.word = 0 := by rcases hw with e | e | e <;> rw [e] <;> omega
  have hm2 : (4 * z + p) % y.word = 0 := by rcases hw with e | e | e <;> rw [e] <;> omega
  have hm0 : 0 % y.word = 0 := Nat.zero_mod _
  have HM1 := Lib.hid hm1
  have HM2 := Lib.hid hm2
  have HM0 := Lib.hid hm0
  have LX := Lib.hid lX
  obtain ⟨P, hP⟩ : ∃ P, P = sumV y true X := ⟨_, rfl⟩
  obtain ⟨Q, hQ⟩ : ∃ Q, Q = sumV y true (zs z ++ X) := ⟨_, rfl⟩
  rw [← hP, ← hQ] at hcase
  have HC := Lib.hid hcase
  have HP := Lib.hid hP.symm
  have HQ := Lib.hid hQ.symm
  clear hy hnil hm1 hm2 hm0 lX hP hQ hw hcase
  have hwr : ∀ z : Nat, z ≤ 1000 → IntKind.i64.wrap (z : Int) = z := fun z hz => by rw [IntKind.wrap_i64]; omega
  have hw1 := hwr dn (by omega)
  have hw2 := hwr p (by omega)
  have hpcI : (p : Int) ≤ c := by omega
  have hz0 : (0 : Int) ≤ 4 * (z : Int) := by omega
  have hzn : (4 * (z : Int)).toNat = 4 * z := by omega
  have hzs : Hid (List.replicate (4 * (z : Int)).toNat (Value.int .u8 0) = u8s (zs z)) := by show _ = _; rw [hzn]; simp [zs, u8s]
  have hzl : Hid ((u8s (zs z)).length = 4 * z) := by show _ = _; simp [zs, u8s]
  go_enter Try.func7, Try.ntmps7
  go_upto_region 2 with (go_at_call 12; (refine (shown_any _).mono ?_); rintro e w1 ⟨rfl, x1⟩)
  go_upto_region 4 with (go_at_call 10; (refine ((FA _).out).mono ?_); rintro e w2 ⟨rfl, rfl⟩)
  go_upto_region 5 with (fail)
  go_upto_region 6 with (go_at_call 9; (refine (of_any _ _ _ _ _ _ _ (rx.ext x1) (by omega) hpc cmA _ HY.out HM1.out).mono ?_); rintro e w3 ⟨rfl, x3⟩; rw [HP.out])
  have x13 := x1.trans x3
  have rx3 := rx.ext x13
  go_upto_region 7 with (first
    | (at_make; refine wpList_make1 el22 rfl rfl _ _ rfl rfl rfl hz0 (by omega) (by omega) ?_; intro w4 hg4 x4 hs4; have own4 := own_blk (w := w4) (base := w3.heap.size) hg4.out (Nat.le_refl _) (by rw [hzs.out, hzl.out]) (le_max (by omega)); rw [hzs.out] at own4)
    | (at_builtin; refine wpList_app el22 rfl _ _ rfl own4 rfl ((rx3.ext x4).shows) rfl (u8s_one _) (le_max (by omega)) (by omega) rfl x4 ?_; intro v5 w5 own5 x5 hg5 hat5; clear hg5 hat5; obtain ⟨A5, c5, rfl, l5, m5, r5⟩ := own_rd (bs := zs z ++ X) (by rw [u8s_append]; exact own5) ((zs_byts z).append rx3.byts))
    | (go_at_call 9; (refine (of_any _ _ _ _ _ _ _ r5 (by omega) l5 m5 _ HY.out HM2.out).mono ?_); rintro e w6 ⟨rfl, x6⟩; rw [HQ.out]))
  go_upto_region 8 with (go_at_call 9; (refine (of_any _ _ _ _ [] _ _ Rd.nil (by omega) (by omega) (by simp) _ HY.out HM0.out).mono ?_); rintro e w7 ⟨rfl, x7⟩; rw [HNIL.out])
  have xx := x13.trans (x5.trans (x6.trans x7))
  have hmm := @run_makeMap Try.prog
  have hwk : (Lit.int .u8 kk).wf = true := by simp [Lit.wf, IntKind.min, IntKind.max, IntKind.signed, IntKind.bits]; omega
  have HLK := fun c h => Lib.hid (look8 (k := kk) (c := c) (by omega) h)
  go_upto_region 9 with (first
    | (at_lookup; refine wpList_lookup_own_int _ rfl _ _ 37 rfl 5 23 .u32 law5 Try.underlying37 Try.underlying23 (zero23 _) w7.heap.size 1 _ rfl hownM _ _ rfl (keyOf_int_mk Try.underlying5 hwk) ?_; intro cc hat hwc; have hcc := (HLK cc hat).out; rw [← HNV.out] at hcc; clear hat; subst hcc)
    | (refine wpList_insert_own (H := Unit) _ rfl _ _ _ 37 rfl 5 23 law5 Try.underlying37 (plainElem Try.prog 23) w7.heap.size 0 _ rfl (World.ownsMap_made _ _ _ _) (by simp [maxLen]) _ _ (.int .u8 8) rfl rfl (keyOf_int_mk Try.underlying5 (by decide)) _ [] (plainElem_int Try.underlying23 (by decide)) ?_; intro w8 hownM hgM))
  have xM := Ext.of_grown ((Ext.refl w7).alloc (.map #[] 0)) hgM (fun k e => by injection e with e; omega)
  rcases HC.out with hk | hk | ⟨hk1, hk2, hk⟩
  · subst hk
    go_wp2
    go_ret
    exact ⟨by simp, xx.trans xM⟩
  · subst hk
    go_wp2
    go_ret
    exact ⟨by simp, xx.trans xM⟩
  · have b8 : (kk == 8) = false := by simpa using hk1
    have b9 : (kk == 9) = false := by simpa using hk2
    clear hk1 hk2
    go_wp2
    go_ret
    exact ⟨by simp, xx.trans xM⟩
end Go.Proofs.Ytjfdcgpnjjhhoaa
