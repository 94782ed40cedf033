import Derived.Test.YtnbcmlphnllgeaaGA
set_option linter.unusedVariables false
set_option linter.unusedSimpArgs false
namespace Go.Proofs.Ytnbcmlphnllgeaa
open Go.RowKit
/-- where a table is: list, place in it, whether it is measured. -/
def findG : List Gp → Nat → Option (Nat × Nat × Bool)
  | [], _ => none
  | x :: l, t => if t < x.tables then some (0, t, !x.stim) else (findG l (t - x.tables)).map fun r => (r.1 + 1, r.2.1, r.2.2)
def shiftG (k : Nat) (o : Option (Nat × Nat × Bool)) : Option (Nat × Nat × Bool) := o.map fun r => (r.1 + k, r.2.1, r.2.2)
theorem findG_drop {l : List Gp} {k : Nat} {x : Gp} (h : l[k]? = some x) (t : Nat) : findG (l.drop k) t = if t < x.tables then some (0, t, !x.stim) else (findG (l.drop (k + 1)) (t - x.tables)).map fun r => (r.1 + 1, r.2.1, r.2.2) := by
  have hl := (List.getElem?_eq_some_iff.1 h).1
  rw [List.drop_eq_getElem_cons hl]
  rw [List.getElem?_eq_getElem hl] at h
  injection h with h
  rw [h]
  rfl
theorem shiftG_succ (k : Nat) (o : Option (Nat × Nat × Bool)) : shiftG k (o.map fun r => (r.1 + 1, r.2.1, r.2.2)) = shiftG (k + 1) o := by
  cases o with
  | none => rfl
  | some r => simp [shiftG]; omega
theorem findG_lt : ∀ {l : List Gp} {t i k : Nat} {b : Bool}, findG l t = some (i, k, b) → ∃ x, l[i]? = some x ∧ k < x.tables ∧ b = !x.stim
  | [], _, _, _, _, h => by cases h
  | x :: l, t, i, k, b, h => by
    unfold findG at h
    split at h
    · injection h with h
      injection h with h1 h2
      injection h2 with h2 h3
      subst h1 h2 h3
      exact ⟨x, rfl, by assumption, rfl⟩
    · cases e : findG l (t - x.tables) with
      | none => rw [e] at h; cases h
      | some r =>
        obtain ⟨i', k', b'⟩ := r
        rw [e] at h
        injection h with h
        injection h with h1 h2
        injection h2 with h2 h3
        simp only at h1 h2 h3
        subst h1 h2 h3
        obtain ⟨y, h4, h5, h6⟩ := findG_lt e
        exact ⟨y, by simpa using h4, h5, h6⟩
theorem GaC.one {w : World} {g : Nat} {ls : List Gl} {lv : Value} {T : Nat → Option Nat} (h : GaC w g ls lv T) {i : Nat} {x : Gl} (hi : ls[i]? = some x) : ∀ u ∈ x.vals, u.oneCell' = true := by
  obtain ⟨A, c, e, _, _⟩ := (h.bl i x hi).form
  intro u hu
  simp only [Gl.vals, List.mem_cons, List.not_mem_nil, or_false] at hu
  rcases hu with rfl | rfl | rfl | rfl
  · rfl
  · rfl
  · rfl
  · rw [e]; rfl
def foundV (o : Option (Nat × Nat × Bool)) : Nat × Nat × Bool := o.getD (0, 0, false)
set_option maxRecDepth 100000 in
set_option maxHeartbeats 4000000 in
theorem find_any {w : World} {g : Nat} {ls : List Gl} {lv : Value} {T : Nat → Option Nat} (h : GaC w g ls lv T) (t : Nat) (ht : t < 256) :
    Calls Try.prog 20 #[.pointer (some ⟨g, 0, none⟩), .int .i64 (t : Int)] w fun e w' => e = .returned (.tuple #[.int .i64 ((foundV (findG (ls.map Gl.p) t)).1 : Int), .int .i64 ((foundV (findG (ls.map Gl.p) t)).2.1 : Int), .bool (foundV (findG (ls.map Gl.p) t)).2.2]) ∧ Ext w w' := by
  have HH := Lib.hid h
  have m0 := blk_cell (i := 0) (v := lv) h.obj rfl
  obtain ⟨lA, lc, hlv, hlc, hlm, _⟩ := own_form h.row
  rw [hlv] at m0
  obtain ⟨n, hn⟩ : ∃ n, n = ls.length := ⟨_, rfl⟩
  have hn100 : n ≤ 100 := by have := h.len; omega
  rw [← hn] at m0
  have HN := Lib.hid (And.intro hn hlv)
  clear h hlv hlc hlm hn
  go_enter Try.func20, Try.ntmps20
  go_upto_region 2 with (fail)
  clear m0
  go_loopw [1, 14] (fun v1 v14 wr => ∃ k t' : Nat, v1 = .int .i64 (t' : Int) ∧ v14 = .int .i64 (k : Int) ∧ k ≤ n ∧ t' < 256 ∧ Ext w wr ∧ findG (ls.map Gl.p) t = shiftG k (findG ((ls.map Gl.p).drop k) t')) (fun _ v14 _ => n - (intOf v14).toNat)
  case atStart => exact ⟨0, t, rfl, rfl, Nat.zero_le _, ht, Ext.refl _, by rw [List.drop_zero]; cases findG (ls.map Gl.p) t <;> rfl⟩
  case round =>
    obtain ⟨k, t', rfl, rfl, hk, ht', xr, hf⟩ := hrel
    obtain ⟨wo, rfl⟩ : ∃ z : World, z = wr := ⟨_, rfl⟩
    have HF := Lib.hid hf
    clear hf
    by_cases hlt : k < n
    · have hkn : (k : Int) < n := by omega
      obtain ⟨x, hx⟩ : ∃ x, ls[k]? = some x := ⟨_, List.getElem?_eq_getElem (by have := HN.out.1; omega)⟩
      have H1 := HH.out.ext xr
      obtain ⟨rb, rc, e1, _, _, _, hr, _⟩ := H1.at_ hx
      have ho := H1.one hx
      have htb := (H1.tb x (List.mem_of_getElem? hx)).1
      have hlA : lA = some ⟨rb, 0, none⟩ := by have := HN.out.2; rw [e1] at this; injection this with this; exact this.symm
      subst hlA
      have HX := Lib.hid (findG_drop (l := ls.map Gl.p) (k := k) (x := x.p) (by rw [List.getElem?_map, hx]; rfl) t')
      clear H1 e1 hx
      go_upto_region 4 with (first | refine wpList_load_mid rfl 69 _ rfl _ _ rfl x.vals _ hr Try.underlying69 rfl size69 ?_ | refine wpList_stnew rfl 69 _ _ rfl rfl x.vals rfl rfl size69 rfl ho ?_)
      obtain ⟨w5, hw5⟩ : ∃ V, V = wo.alloc (.cells x.vals.toArray 69) := ⟨_, rfl⟩
      have k5 : w5.heap[wo.heap.size]? = some (.cells #[.int .i64 (x.tables : Int), .bool x.stim, .bool x.lost, x.v] 69 (0, 0)) := by rw [hw5]; exact heap_alloc_new _ _
      have x5 : Ext wo w5 := by rw [hw5]; exact (Ext.refl _).alloc _
      rw [← hw5]
      clear hw5 hr ho
      have c0 : w5.cell? ⟨wo.heap.size, 0, none⟩ = some (.int .i64 (x.tables : Int)) := blk_cell k5 rfl
      have c1 : w5.cell? ⟨wo.heap.size, 1, none⟩ = some (.bool x.stim) := blk_cell k5 rfl
      clear k5
      by_cases hd : t' < x.tables
      · have hdI : (t' : Int) < x.tables := by omega
        have hv : foundV (findG (ls.map Gl.p) t) = (k, t', !x.stim) := by
          rw [HF.out, HX.out, if_pos (show t' < x.p.tables from hd)]
          simp [shiftG, foundV, Gl.p]
        have HV := Lib.hid hv
        clear hv
        go_upto_region 5 with (fail)
        go_quiet (fail)
        obtain ⟨w6, hWq⟩ : ∃ z : World, z = World.drewN w5 nq := ⟨_, rfl⟩
        rw [← hWq]
        have xw6 : Ext w5 w6 := by rw [hWq]; exact (Ext.refl _).drewN _
        clear hWq
        go_wp2
        go_ret3
        exact ⟨by rw [HV.out]; rfl, xr.trans (x5.trans xw6)⟩
      · have hdI : ¬ (t' : Int) < x.tables := by omega
        obtain ⟨t2, ht2⟩ : ∃ z, z = t' - x.tables := ⟨_, rfl⟩
        have ht2I : (t' : Int) - x.tables = (t2 : Int) := by omega
        have ut2 := wri t2 (by omega)
        have ht2l : t2 < 256 := by omega
        have HV := Lib.hid (show findG (ls.map Gl.p) t = shiftG (k + 1) (findG ((ls.map Gl.p).drop (k + 1)) t2) by
          rw [HF.out, HX.out, if_neg (show ¬ t' < x.p.tables from hd), shiftG_succ, ht2]
          rfl)
        clear ht2
        go_wp2
        go_roundw
        case rel => exact ⟨k + 1, t2, rfl, by go_num, by omega, ht2l, xr.trans x5, HV.out⟩
        case measure => simp [intOf]; omega
    · obtain rfl : k = n := by omega
      have hv : foundV (findG (ls.map Gl.p) t) = (0, 0, false) := by
        rw [HF.out, HN.out.1, List.drop_of_length_le (by simp)]
        rfl
      have HV := Lib.hid hv
      clear hv
      go_wp2
      go_ret3
      exact ⟨by rw [HV.out]; rfl, xr⟩
end Go.Proofs.Ytnbcmlphnllgeaa
