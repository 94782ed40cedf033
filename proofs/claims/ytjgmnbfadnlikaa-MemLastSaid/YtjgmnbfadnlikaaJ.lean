import Derived.Test.YtjgmnbfadnlikaaI
set_option linter.unusedVariables false
set_option linter.unusedSimpArgs false
namespace Go.Proofs.Ytjgmnbfadnlikaa
open Go.RowKit
def stp (who : Nat) (k : Nat) (q : Sg) (page : Nat) : Sg := { q with a := if 1 ≤ k ∧ who ≠ 2 then page else q.a, x := if 2 ≤ k ∧ who ≠ 1 then page else q.x }
theorem seg_self {s : MS} {i : Nat} {q : Sg} (hq : s.segs[i]? = some q) : s.seg i q = s := by
  have hil : i < s.segs.length := (List.getElem?_eq_some_iff.1 hq).1
  have hge : s.segs[i] = q := (List.getElem?_eq_some_iff.1 hq).2
  unfold MS.seg
  rw [← hge, List.set_getElem_self]
theorem seg_seg {s : MS} {i : Nat} {q q' : Sg} : (s.seg i q).seg i q' = s.seg i q' := by simp [MS.seg]
theorem seg_get {s : MS} {i : Nat} {q q' : Sg} (hq : s.segs[i]? = some q) : (s.seg i q').segs[i]? = some q' := by
  have hil : i < s.segs.length := (List.getElem?_eq_some_iff.1 hq).1
  simp [MS.seg, hil]
theorem stp_ok {q : Sg} (h : q.ok) (who k : Nat) {page : Nat} (hp : page < q.pages.length) : (stp who k q page).ok :=
  ⟨h.l1, h.l2, h.p1, h.p2, by unfold stp; simp only; split; exact hp; exact h.a, by unfold stp; simp only; split; exact hp; exact h.x, h.pl, h.pb⟩
theorem info5 : ∃ i, Try.prog.info? 5 = some i ∧ i.size = 1 := by
  have h := size5
  cases hq : Try.prog.info? 5 with
  | none => simp [hq] at h
  | some i => exact ⟨i, rfl, by simpa [hq] using h⟩
def whos (k : Nat) : Int := if k = 0 then 1 else 2
theorem run_idx (k : Nat) (hk : k < 2) (W : World) : (Instr.index 77 (.agg #[.int .u8 1, .int .u8 2]) (.int .i64 k)).run Try.prog W = .ok (.int .u8 (whos k)) W := by
  obtain ⟨i, hi, hs⟩ := info5
  have e : k = 0 ∨ k = 1 := by omega
  rcases e with rfl | rfl <;> simp [Instr.index, asIntOf, run_underlying Try.underlying77, sizeOf, typeInfo, hi, hs, whos, part]
theorem wpList_idx {P : Program} {w : World} {ops : Array Oper} {rest : List Oper} {o : Oper} {a : Act} {Q : Exit → Act → World → Prop} {t : TypeId} {u v z : Value} (hgd : o.guard = none) (x y : Operand) (ho : o.op = .index t x y) (hx : a.eval x = u) (hy : a.eval y = v)
    (hr : ∀ W, (Instr.index t u v).run P W = .ok z W) (h : wpList P ops Q rest (a.put o.dst z) w) : wpList P ops Q (o :: rest) a w := by
  refine wpList_plain hgd fun _ hK => ?_
  unfold Oper.wp execOp
  simp only [ho, hx, hy, Sem.run_bind, hr, Sem.run_pure, Result.andThen_ok]
  exact hK _ _ h
theorem step_mem {w : World} {g : Nat} {s : MS} {va : Tg → Value} {T : Nat → Option Tg} {i who k page : Nat} {q : Sg} (M : MemC w g (s.seg i (stp who k q page)) va T) (hq : s.segs[i]? = some q) (hk : q.ok) (hp : page < q.pages.length) {sg n sc c : Nat} (hv : va (2, 0, 0) = .slice (some ⟨sg, 0, none⟩) n sc) (hc : c < 3)
    (hu : ([va (3, i, 0), .int .i64 ((stp who k q page).a : Int), .int .i64 ((stp who k q page).x : Int)] : List Value).set c (.int .i64 (page : Int)) = [va (3, i, 0), .int .i64 ((stp who (k + 1) q page).a : Int), .int .i64 ((stp who (k + 1) q page).x : Int)]) :
    MemC (w.setCell ⟨sg, i * 3 + c, none⟩ (.int .i64 (page : Int))) g (s.seg i (stp who (k + 1) q page)) va T ∧ Kept (fun b => T b ≠ none) w (w.setCell ⟨sg, i * 3 + c, none⟩ (.int .i64 (page : Int))) := by
  have := sees_mem M (seg_get hq) (q' := stp who (k + 1) q page) rfl (stp_ok hk who _ hp) c _ hc hu hv
  rwa [seg_seg] at this
set_option maxHeartbeats 2000000 in
theorem set_yes1 {w : World} {g : Nat} {s : MS} {va : Tg → Value} {T : Nat → Option Tg} (h : MemC w g s va T) {i page : Nat} {q : Sg} (hq : s.segs[i]? = some q) (hp : page < q.pages.length) : Calls Try.prog 25 #[.pointer (some ⟨g, 0, none⟩), .int .u8 1, .int .i64 (i : Int), .int .i64 (page : Int)] w fun e w' => e = .returned (.int .i64 0) ∧ MemC w' g (s.seg i (stp 1 2 q page)) va T ∧ Kept (fun b => T b ≠ none) w w' := by
  have hy := has_yes h i page hq hp
  have H0 : MemC w g (s.seg i (stp 1 0 q page)) va T := by rw [show stp 1 0 q page = q by simp [stp], seg_self hq]; exact h
  have HQ := Lib.hid hq
  have HP := Lib.hid hp
  have HK := Lib.hid (h.ok.g q (List.mem_of_getElem? hq))
  have HY := Lib.hid hy
  have HH := Lib.hid H0
  clear h hq hp hy H0
  go_enter Try.func25, Try.ntmps25
  go_upto_region 8 with (go_at_call 34; (refine HY.out.mono ?_); rintro e w1 ⟨rfl, rfl⟩)
  go_loopw [30] (fun v wr => ∃ k : Nat, k ≤ 2 ∧ v = .int .i64 k ∧ MemC wr g (s.seg i (stp 1 k q page)) va T ∧ Kept (fun b => T b ≠ none) w wr) (fun v _ => 2 - (intOf v).toNat)
  case atStart => exact ⟨0, by omega, rfl, HH.out, Kept.refl _ _⟩
  case round =>
    obtain ⟨k, hk, rfl, M, kp⟩ := hrel
    have hq2 := seg_get (q' := stp 1 k q page) HQ.out
    have hil := (List.getElem?_eq_some_iff.1 hq2).1
    obtain ⟨rA, rc, sA, sc, hr, hs, K⟩ := M.row2
    obtain ⟨k0, k1⟩ := cells2 K
    obtain ⟨sg, sc', P, pc, e, _, _, m0, m1, m2, f1, f2⟩ := M.at_ hq2
    rw [hs] at e
    injection e with e1 e2 e3
    subst e1 e3
    have h1 : (i : Int) < (s.seg i (stp 1 k q page)).segs.length := by omega
    have MM := Lib.hid M
    have HS := Lib.hid hs
    generalize (s.seg i (stp 1 k q page)).segs.length = sn at *
    clear hq2 hr hs M
    have hk3 : k = 0 ∨ k = 1 ∨ k = 2 := by omega
    rcases hk3 with rfl | rfl | rfl
    · go_upto_region 10 with (refine wpList_idx rfl _ _ rfl rfl rfl (fun W => run_idx 0 (by omega) W) ?_; simp only [whos, if_true])
      go_wp2_with (go_at_call 33; (refine (place_1 _).mono ?_); rintro e w1 ⟨rfl, rfl⟩)
      have st := step_mem (c := 1) MM.out HQ.out HK.out HP.out HS.out (by omega) (by simp [stp])
      exact ⟨⟨1, by omega, rfl, st.1, kp.trans' st.2⟩, by simp [intOf]⟩
    · go_upto_region 10 with (refine wpList_idx rfl _ _ rfl rfl rfl (fun W => run_idx 1 (by omega) W) ?_; simp only [whos, if_true])
      go_wp2_with (go_at_call 33; (refine (place_0 0 (by omega) (by omega) _).mono ?_); rintro e w1 ⟨rfl, rfl⟩)
      exact ⟨⟨2, by omega, rfl, by rw [show stp 1 2 q page = stp 1 1 q page by simp [stp]]; exact MM.out, kp⟩, by simp [intOf]⟩
    · go_wp2
      go_ret
      exact ⟨rfl, MM.out, kp⟩
set_option maxHeartbeats 2000000 in
theorem set_yes2 {w : World} {g : Nat} {s : MS} {va : Tg → Value} {T : Nat → Option Tg} (h : MemC w g s va T) {i page : Nat} {q : Sg} (hq : s.segs[i]? = some q) (hp : page < q.pages.length) : Calls Try.prog 25 #[.pointer (some ⟨g, 0, none⟩), .int .u8 2, .int .i64 (i : Int), .int .i64 (page : Int)] w fun e w' => e = .returned (.int .i64 0) ∧ MemC w' g (s.seg i (stp 2 2 q page)) va T ∧ Kept (fun b => T b ≠ none) w w' := by
  have hy := has_yes h i page hq hp
  have H0 : MemC w g (s.seg i (stp 2 0 q page)) va T := by rw [show stp 2 0 q page = q by simp [stp], seg_self hq]; exact h
  have HQ := Lib.hid hq
  have HP := Lib.hid hp
  have HK := Lib.hid (h.ok.g q (List.mem_of_getElem? hq))
  have HY := Lib.hid hy
  have HH := Lib.hid H0
  clear h hq hp hy H0
  go_enter Try.func25, Try.ntmps25
  go_upto_region 8 with (go_at_call 34; (refine HY.out.mono ?_); rintro e w1 ⟨rfl, rfl⟩)
  go_loopw [30] (fun v wr => ∃ k : Nat, k ≤ 2 ∧ v = .int .i64 k ∧ MemC wr g (s.seg i (stp 2 k q page)) va T ∧ Kept (fun b => T b ≠ none) w wr) (fun v _ => 2 - (intOf v).toNat)
  case atStart => exact ⟨0, by omega, rfl, HH.out, Kept.refl _ _⟩
  case round =>
    obtain ⟨k, hk, rfl, M, kp⟩ := hrel
    have hq2 := seg_get (q' := stp 2 k q page) HQ.out
    have hil := (List.getElem?_eq_some_iff.1 hq2).1
    obtain ⟨rA, rc, sA, sc, hr, hs, K⟩ := M.row2
    obtain ⟨k0, k1⟩ := cells2 K
    obtain ⟨sg, sc', P, pc, e, _, _, m0, m1, m2, f1, f2⟩ := M.at_ hq2
    rw [hs] at e
    injection e with e1 e2 e3
    subst e1 e3
    have h1 : (i : Int) < (s.seg i (stp 2 k q page)).segs.length := by omega
    have MM := Lib.hid M
    have HS := Lib.hid hs
    generalize (s.seg i (stp 2 k q page)).segs.length = sn at *
    clear hq2 hr hs M
    have hk3 : k = 0 ∨ k = 1 ∨ k = 2 := by omega
    rcases hk3 with rfl | rfl | rfl
    · go_upto_region 10 with (refine wpList_idx rfl _ _ rfl rfl rfl (fun W => run_idx 0 (by omega) W) ?_; simp only [whos, if_true])
      go_wp2_with (go_at_call 33; (refine (place_0 0 (by omega) (by omega) _).mono ?_); rintro e w1 ⟨rfl, rfl⟩)
      exact ⟨⟨1, by omega, rfl, by rw [show stp 2 1 q page = stp 2 0 q page by simp [stp]]; exact MM.out, kp⟩, by simp [intOf]⟩
    · go_upto_region 10 with (refine wpList_idx rfl _ _ rfl rfl rfl (fun W => run_idx 1 (by omega) W) ?_; simp only [whos, if_true])
      go_wp2_with (go_at_call 33; (refine (place_2 _).mono ?_); rintro e w1 ⟨rfl, rfl⟩)
      have st := step_mem (c := 2) MM.out HQ.out HK.out HP.out HS.out (by omega) (by simp [stp])
      exact ⟨⟨2, by omega, rfl, st.1, kp.trans' st.2⟩, by simp [intOf]⟩
    · go_wp2
      go_ret
      exact ⟨rfl, MM.out, kp⟩
set_option maxHeartbeats 2000000 in
theorem set_yes3 {w : World} {g : Nat} {s : MS} {va : Tg → Value} {T : Nat → Option Tg} (h : MemC w g s va T) {i page : Nat} {q : Sg} (hq : s.segs[i]? = some q) (hp : page < q.pages.length) : Calls Try.prog 25 #[.pointer (some ⟨g, 0, none⟩), .int .u8 3, .int .i64 (i : Int), .int .i64 (page : Int)] w fun e w' => e = .returned (.int .i64 0) ∧ MemC w' g (s.seg i (stp 3 2 q page)) va T ∧ Kept (fun b => T b ≠ none) w w' := by
  have hy := has_yes h i page hq hp
  have H0 : MemC w g (s.seg i (stp 3 0 q page)) va T := by rw [show stp 3 0 q page = q by simp [stp], seg_self hq]; exact h
  have HQ := Lib.hid hq
  have HP := Lib.hid hp
  have HK := Lib.hid (h.ok.g q (List.mem_of_getElem? hq))
  have HY := Lib.hid hy
  have HH := Lib.hid H0
  clear h hq hp hy H0
  go_enter Try.func25, Try.ntmps25
  go_upto_region 8 with (go_at_call 34; (refine HY.out.mono ?_); rintro e w1 ⟨rfl, rfl⟩)
  go_loopw [30] (fun v wr => ∃ k : Nat, k ≤ 2 ∧ v = .int .i64 k ∧ MemC wr g (s.seg i (stp 3 k q page)) va T ∧ Kept (fun b => T b ≠ none) w wr) (fun v _ => 2 - (intOf v).toNat)
  case atStart => exact ⟨0, by omega, rfl, HH.out, Kept.refl _ _⟩
  case round =>
    obtain ⟨k, hk, rfl, M, kp⟩ := hrel
    have hq2 := seg_get (q' := stp 3 k q page) HQ.out
    have hil := (List.getElem?_eq_some_iff.1 hq2).1
    obtain ⟨rA, rc, sA, sc, hr, hs, K⟩ := M.row2
    obtain ⟨k0, k1⟩ := cells2 K
    obtain ⟨sg, sc', P, pc, e, _, _, m0, m1, m2, f1, f2⟩ := M.at_ hq2
    rw [hs] at e
    injection e with e1 e2 e3
    subst e1 e3
    have h1 : (i : Int) < (s.seg i (stp 3 k q page)).segs.length := by omega
    have MM := Lib.hid M
    have HS := Lib.hid hs
    generalize (s.seg i (stp 3 k q page)).segs.length = sn at *
    clear hq2 hr hs M
    have hk3 : k = 0 ∨ k = 1 ∨ k = 2 := by omega
    rcases hk3 with rfl | rfl | rfl
    · go_upto_region 10 with (refine wpList_idx rfl _ _ rfl rfl rfl (fun W => run_idx 0 (by omega) W) ?_; simp only [whos, if_true])
      go_wp2_with (go_at_call 33; (refine (place_1 _).mono ?_); rintro e w1 ⟨rfl, rfl⟩)
      have st := step_mem (c := 1) MM.out HQ.out HK.out HP.out HS.out (by omega) (by simp [stp])
      exact ⟨⟨1, by omega, rfl, st.1, kp.trans' st.2⟩, by simp [intOf]⟩
    · go_upto_region 10 with (refine wpList_idx rfl _ _ rfl rfl rfl (fun W => run_idx 1 (by omega) W) ?_; simp only [whos, if_true])
      go_wp2_with (go_at_call 33; (refine (place_2 _).mono ?_); rintro e w1 ⟨rfl, rfl⟩)
      have st := step_mem (c := 2) MM.out HQ.out HK.out HP.out HS.out (by omega) (by simp [stp])
      exact ⟨⟨2, by omega, rfl, st.1, kp.trans' st.2⟩, by simp [intOf]⟩
    · go_wp2
      go_ret
      exact ⟨rfl, MM.out, kp⟩
end Go.Proofs.Ytjgmnbfadnlikaa
