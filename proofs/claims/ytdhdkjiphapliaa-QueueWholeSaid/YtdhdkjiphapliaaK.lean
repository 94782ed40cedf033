import Derived.Test.YtdhdkjiphapliaaJ
set_option linter.unusedVariables false
set_option linter.unusedSimpArgs false
namespace Go.Proofs.Ytdhdkjiphapliaa
open Go.RowKit
/-- acts that few tells: lists of their own, of packets that were there. -/
structure AcL (wp w0 w : World) (v : Value) (ys : List Ac) : Prop where
  own : w.ownsRow w0.heap.size 34 3 v ys.length (acs ys)
  ok : ∀ a ∈ ys, (0 ≤ a.k ∧ a.k < 256) ∧ (-9223372036854775808 ≤ a.list ∧ a.list < 9223372036854775808) ∧ Shows w 3 a.A a.n (rps a.xs) ∧ a.n = a.xs.length ∧ a.n ≤ 6 ∧ a.n ≤ a.c ∧ a.c ≤ maxLen
  rok : ∀ a ∈ ys, ∀ x ∈ a.xs, x.ok wp ∧ x.n ≤ 10
  ne : ∀ a ∈ ys, ∀ ad, a.A = some ad → w0.heap.size ≤ ad.block ∧ ad.block < w.heap.size ∧ ∀ b, v.ownBlock = some b → ad.block ≠ b
theorem AcL.nil (wp w0 w : World) : AcL wp w0 w (.slice none 0 0) [] := ⟨⟨rfl, .inl ⟨rfl, rfl⟩⟩, by simp, by simp, by simp⟩
theorem AcL.ext {wp w0 w w' : World} {v : Value} {ys : List Ac} (h : AcL wp w0 w v ys) (x : Ext w w') : AcL wp w0 w' v ys :=
  ⟨own_ext h.own x, fun a ha => by obtain ⟨h1, h2, h3, h4⟩ := h.ok a ha; exact ⟨h1, h2, h3.ext x, h4⟩, h.rok, fun a ha ad e => ⟨(h.ne a ha ad e).1, Nat.lt_of_lt_of_le (h.ne a ha ad e).2.1 x.size, (h.ne a ha ad e).2.2⟩⟩
theorem acs_app (a b : List Ac) : acs (a ++ b) = acs a ++ acs b := by simp [acs]
theorem AcL.app {wp w0 w w' : World} {B : Nat} {v v' : Value} {ys : List Ac} (h : AcL wp w0 w v ys) {y : Ac} (hy : (0 ≤ y.k ∧ y.k < 256) ∧ (-9223372036854775808 ≤ y.list ∧ y.list < 9223372036854775808) ∧ Shows w 3 y.A y.n (rps y.xs) ∧ y.n = y.xs.length ∧ y.n ≤ 6 ∧ y.n ≤ y.c ∧ y.c ≤ maxLen) (hr : ∀ x ∈ y.xs, x.ok wp ∧ x.n ≤ 10)
    (hne : ∀ ad, y.A = some ad → w0.heap.size ≤ ad.block ∧ ad.block < w.heap.size ∧ ∀ b, v.ownBlock = some b → ad.block ≠ b)
    (own : w'.ownsRow w0.heap.size 34 3 v' (ys.length + 1) (acs ys ++ acs [y])) (gr : w.grownBy w' v.ownBlock) (hb : v'.ownBlock = some B) (hat : v'.ownBlock = v.ownBlock ∨ v'.ownBlock = some w.heap.size) : AcL wp w0 w' v' (ys ++ [y]) := by
  have k : Kept (fun b => v.ownBlock = some b) w w' := Kept.of_grown gr (fun b e => e)
  have key : ∀ a : Ac, (∀ ad, a.A = some ad → w0.heap.size ≤ ad.block ∧ ad.block < w.heap.size ∧ ∀ b, v.ownBlock = some b → ad.block ≠ b) → ∀ ad, a.A = some ad → w0.heap.size ≤ ad.block ∧ ad.block < w'.heap.size ∧ ∀ b, v'.ownBlock = some b → ad.block ≠ b := by
    intro a hn ad e
    refine ⟨(hn ad e).1, Nat.lt_of_lt_of_le (hn ad e).2.1 gr.size, fun b hb2 e2 => ?_⟩
    rcases hat with h1 | h1
    · exact (hn ad e).2.2 b (by rw [← h1]; exact hb2) e2
    · rw [h1] at hb2; injection hb2 with hb2; have := (hn ad e).2.1; omega
  refine ⟨by rw [List.length_append, acs_app]; exact own, fun a ha => ?_, fun a ha => ?_, fun a ha => ?_⟩
  · rcases List.mem_append.1 ha with ha | ha
    · obtain ⟨h1, h2, h3, h4⟩ := h.ok a ha
      exact ⟨h1, h2, h3.kept k (fun ad e h' => (h.ne a ha ad e).2.2 _ h' rfl), h4⟩
    · simp at ha; subst ha
      obtain ⟨h1, h2, h3, h4⟩ := hy
      exact ⟨h1, h2, h3.kept k (fun ad e h' => (hne ad e).2.2 _ h' rfl), h4⟩
  · rcases List.mem_append.1 ha with ha | ha
    · exact h.rok a ha
    · simp at ha; subst ha; exact hr
  · rcases List.mem_append.1 ha with ha | ha
    · exact key a (h.ne a ha)
    · simp at ha; subst ha; exact key a hne
theorem shows_ac {w : World} {g : Nat} {k list : Int} {A : Option Addr} {n c : Nat} {xs : List Rp} (h : g = w.heap.size) : Shows (w.alloc (.cells #[.int .u8 k, .int .i64 list, .slice A n c] 34)) 3 (some ⟨g, 0, none⟩) 1 (acs [⟨k, list, A, n, c, xs⟩]) := by
  subst h
  exact ⟨rfl, fun _ => ⟨_, rfl, by simp, World.news_of_block (heap_alloc_new w _)⟩⟩
theorem shows_rp {w : World} {g : Nat} {k code : Int} {A : Option Addr} {n c : Nat} {bs : List Int} (h : g = w.heap.size) : Shows (w.alloc (.cells #[.int .u8 k, .int .u8 code, .slice A n c] 38)) 3 (some ⟨g, 0, none⟩) 1 (rps [⟨k, code, A, n, c, bs⟩]) := by
  subst h
  exact ⟨rfl, fun _ => ⟨_, rfl, by simp, World.news_of_block (heap_alloc_new w _)⟩⟩
set_option maxRecDepth 100000 in
set_option maxHeartbeats 8000000 in
theorem few_any {wp w : World} {A : Option Addr} {n c : Nat} {l : List Ac} (hs : Shows w 3 A n (acs l)) (hn : n = l.length) (hnc : n ≤ c) (hcm : c ≤ maxLen) (hok : ∀ a ∈ l, a.ok w) (hxp : ∀ a ∈ l, ∀ x ∈ a.xs, x.ok wp) : Calls Try.prog 11 #[.slice A n c] w fun e w' => ∃ v ys, e = .returned v ∧ Ext w w' ∧ AcL wp w w' v ys := by
  have HL := Lib.hid (And.intro hs (And.intro hn hok))
  have hn63 : (n : Int) < 9223372036854775808 := by unfold maxLen at hcm; omega
  have HXP := Lib.hid hxp
  clear hs hn hok hnc hcm hxp
  go_enter Try.func11, Try.ntmps11
  go_upto_region 3 with (fail)
  go_loopw [3, 11] (fun pv v wr => ∃ (lv : Value) (k : Nat) (ys : List Ac), lv = pv ∧ v = .int .i64 k ∧ k ≤ n ∧ k ≤ 60 ∧ ys.length ≤ k ∧ AcL wp w wr lv ys ∧ Ext w wr) (fun _ v _ => n - (intOf v).toNat)
  case atStart => exact ⟨_, 0, [], rfl, rfl, Nat.zero_le _, Nat.zero_le _, Nat.le_refl _, AcL.nil _ _ _, Ext.refl _⟩
  case round =>
    obtain ⟨lv, k, ys, rfl, rfl, hk, hk60, hyk, hL, xr⟩ := hrel
    obtain ⟨wo, rfl⟩ : ∃ z : World, z = wr := ⟨_, rfl⟩
    have HA := Lib.hid hL
    clear hL
    by_cases hlt : k < n
    · have hkn : (k : Int) < n := by omega
      obtain ⟨y, hy⟩ : ∃ y, l[k]? = some y := ⟨_, List.getElem?_eq_getElem (by have := HL.out.2.1; omega)⟩
      obtain ⟨b, o, hA', hb, hr⟩ := Shows.row ac_len (by omega) (HL.out.1.ext xr) HL.out.2.1 hy
      have HY := Lib.hid (HL.out.2.2 y (List.mem_of_getElem? hy))
      have HYX := Lib.hid (HXP.out y (List.mem_of_getElem? hy))
      subst hA'
      clear hy
      go_upto_region 5 with (first | refine wpList_load_mid rfl 34 _ rfl _ _ rfl y.vals _ hr Try.underlying34 rfl size34 ?_ | refine wpList_stnew rfl 34 _ _ rfl rfl y.vals rfl rfl size34 rfl (ac_one y) ?_)
      obtain ⟨w4, hw4⟩ : ∃ V, V = wo.alloc (.cells y.vals.toArray 34) := ⟨_, rfl⟩
      have k4 : w4.heap[wo.heap.size]? = some (.cells #[.int .u8 y.k, .int .i64 y.list, .slice y.A y.n y.c] 34 (0, 0)) := by rw [hw4]; exact heap_alloc_new _ _
      have x4 : Ext wo w4 := by rw [hw4]; exact (Ext.refl _).alloc _
      rw [← hw4]
      clear hw4 hr
      have HK4 := Lib.hid k4
      by_cases h60 : (60 : Int) ≤ k
      · clear k4
        go_wp2
        go_ret
        exact ⟨_, ys, rfl, xr.trans x4, HA.out.ext x4⟩
      · obtain ⟨m0, m1, m2⟩ : w4.cell? ⟨wo.heap.size, 0, none⟩ = some (.int .u8 y.k) ∧ w4.cell? ⟨wo.heap.size, 1, none⟩ = some (.int .i64 y.list) ∧ w4.cell? ⟨wo.heap.size, 2, none⟩ = some (.slice y.A y.n y.c) := ⟨blk_cell k4 rfl, blk_cell k4 rfl, blk_cell k4 rfl⟩
        clear k4
        go_upto_region 8 with (fail)
        clear m0 m1 m2
        have hyn : (y.n : Int) < 9223372036854775808 := by have := HY.out.le; have := HY.out.cm; unfold maxLen at *; omega
        go_loopw [6, 21] (fun pv v wq => ∃ (xv : Value) (j : Nat) (xs : List Rp), xv = pv ∧ v = .int .i64 j ∧ j ≤ y.n ∧ wq.ownsRow w4.heap.size 38 3 xv xs.length (rps xs) ∧ (∀ x ∈ xs, x.ok wp ∧ x.n ≤ 10) ∧ xs.length ≤ min j 6 ∧ Ext w4 wq) (fun _ v _ => y.n - (intOf v).toNat)
        case atStart => exact ⟨_, 0, [], rfl, rfl, Nat.zero_le _, ⟨rfl, .inl ⟨rfl, rfl⟩⟩, by simp, by simp, Ext.refl _⟩
        case round =>
          obtain ⟨xv, j, xs, rfl, rfl, hj, own, hxs, hxl, xq⟩ := hrel
          obtain ⟨wi, rfl⟩ : ∃ z : World, z = wr := ⟨_, rfl⟩
          have xwi := xr.trans (x4.trans xq)
          by_cases hjt : j < y.n
          · have hjn : (j : Int) < y.n := by omega
            obtain ⟨r, hr⟩ : ∃ r, y.xs[j]? = some r := ⟨_, List.getElem?_eq_getElem (by have := HY.out.len; omega)⟩
            obtain ⟨b3, o3, hA3, _, hrr⟩ := Shows.row rp_len (by omega) (HY.out.sh.ext xwi) HY.out.len hr
            have hro := HYX.out r (List.mem_of_getElem? hr)
            have HR := Lib.hid hro
            have HX := Lib.hid (And.intro own (And.intro hxs hxl))
            have hle := hro.le
            have hcm := hro.cm
            have hlen := hro.rd.len
            unfold maxLen at hcm
            obtain ⟨kb, hkb⟩ : ∃ kb, kb = min r.n 10 := ⟨_, rfl⟩
            have hmin : (if (10 : Int) < r.n then (10 : Int) else r.n) = kb := by split <;> omega
            have hkc : kb ≤ r.c := by omega
            have hkc' : (kb : Int) ≤ r.c := by omega
            have hkn2 : kb ≤ r.n := by omega
            have hk10 : kb ≤ 10 := by omega
            have hrd := Lib.hid (hro.rd.take (k := kb) hkn2)
            rw [hA3] at *
            clear own hxs hr hro hlen hcm hle hkb hkn2
            go_upto_region 10 with (first | refine wpList_load_mid rfl 38 _ rfl _ _ rfl r.vals _ hrr Try.underlying38 rfl size38 ?_ | refine wpList_stnew rfl 38 _ _ rfl rfl r.vals rfl rfl size38 rfl (rp_one r) ?_)
            obtain ⟨w5, hw5⟩ : ∃ V, V = wi.alloc (.cells r.vals.toArray 38) := ⟨_, rfl⟩
            have k5 : w5.heap[wi.heap.size]? = some (.cells #[.int .u8 r.kind, .int .u8 r.code, .slice r.A r.n r.c] 38 (0, 0)) := by rw [hw5]; exact heap_alloc_new _ _
            have x5 : Ext wi w5 := by rw [hw5]; exact (Ext.refl _).alloc _
            rw [← hw5]
            clear hw5 hrr
            have HK5 := Lib.hid k5
            clear k5
            by_cases hj6 : j < 6
            · have hj6I : (j : Int) < 6 := by omega
              have c2 : w5.cell? ⟨wi.heap.size, 2, none⟩ = some (.slice r.A r.n r.c) := blk_cell HK5.out rfl
              have f2 : w5.frozen? ⟨wi.heap.size, 2, none⟩ = false := blk_free HK5.out
              go_upto_region 12 with (fail)
              obtain ⟨w6, hw6⟩ : ∃ V, V = w5.setCell ⟨wi.heap.size, 2, none⟩ (.slice r.A kb r.c) := ⟨_, rfl⟩
              have k6 : w6.heap[wi.heap.size]? = some (.cells #[.int .u8 r.kind, .int .u8 r.code, .slice r.A kb r.c] 38 (0, 0)) := by rw [hw6]; exact blk_set HK5.out
              have x6 : Ext wi w6 := by rw [hw6]; exact x5.setCell (Nat.le_refl _) _
              rw [← hw6]
              clear hw6 c2 f2 hmin hkc'
              obtain ⟨w7, hw7⟩ : ∃ V, V = w6.alloc (.cells #[.int .u8 r.kind, .int .u8 r.code, .slice r.A kb r.c] 38) := ⟨_, rfl⟩
              have x7 : Ext w6 w7 := by rw [hw7]; exact (Ext.refl _).alloc _
              have sh7 : Shows w7 3 (some ⟨w6.heap.size, 0, none⟩) 1 (rps [⟨r.kind, r.code, r.A, kb, r.c, r.bs.take kb⟩]) := by rw [hw7]; exact shows_rp rfl
              have own7 := own_ext HX.out.1 (x6.trans x7)
              have HX7 := Lib.hid (x6.trans x7)
              have hxs6 : xs.length ≤ 6 := by have := HX.out.2.2; omega
              have hbase : w4.heap.size ≤ w7.heap.size := Nat.le_trans xq.size (x6.trans x7).size
              go_wp2_with (first | refine wpList_ldrow rfl 38 (.tmp 8) rfl k6 rfl Try.underlying38 rfl (by kernel_rfl) ?_ | (at_builtin; go_loud (rw [← hw7]; refine wpList_appB el32 rfl _ _ rfl own7 rfl sh7 rfl (rps_one _) (le_max (by omega)) (by omega) hbase ?_; intro v9 w9 own9 gr9 at9)))
              have hx9 := Lib.hid (Ext.of_grown (xq.trans HX7.out) gr9 (fun b e => (HX.out.1.lt b e).1))
              have HO9 := Lib.hid own9
              clear own9 gr9 at9 own7 sh7 hw7 k6
              go_roundw
              case rel => exact ⟨_, j + 1, xs ++ [⟨r.kind, r.code, r.A, kb, r.c, r.bs.take kb⟩], rfl, by go_num, by omega, by rw [List.length_append, rps_app]; exact HO9.out, fun x hx => by
                rcases List.mem_append.1 hx with hx | hx
                · exact HX.out.2.1 x hx
                · simp at hx; subst hx; exact ⟨⟨HR.out.kind, HR.out.code, hrd.out, hkc, HR.out.cm⟩, hk10⟩, by simp; have := HX.out.2.2; omega, hx9.out⟩
              case measure => simp [intOf]; omega
            · have hj6I : ¬ (j : Int) < 6 := by omega
              go_wp2
              go_roundw
              case rel => exact ⟨_, j + 1, xs, rfl, by go_num, by omega, own_ext HX.out.1 x5, HX.out.2.1, by have := HX.out.2.2; omega, xq.trans x5⟩
              case measure => simp [intOf]; omega
          · obtain rfl : j = y.n := by omega
            have HX := Lib.hid (And.intro own (And.intro hxs hxl))
            obtain ⟨X, cx, rfl, hcx, hcm, _⟩ := own_form own
            have k4i := (xq.block _ (blk_lt HK4.out)).trans HK4.out
            have c2 : wi.cell? ⟨wo.heap.size, 2, none⟩ = some (.slice y.A y.n y.c) := blk_cell k4i rfl
            have f2 : wi.frozen? ⟨wo.heap.size, 2, none⟩ = false := blk_free k4i
            have HK4i := Lib.hid k4i
            clear own hxs hxl k4i
            go_upto_region 15 with (fail)
            obtain ⟨w6, hw6⟩ : ∃ V, V = wi.setCell ⟨wo.heap.size, 2, none⟩ (.slice X xs.length cx) := ⟨_, rfl⟩
            have k6 : w6.heap[wo.heap.size]? = some (.cells #[.int .u8 y.k, .int .i64 y.list, .slice X xs.length cx] 34 (0, 0)) := by rw [hw6]; exact blk_set HK4i.out
            have x6 : Ext wo w6 := by rw [hw6]; exact (x4.trans xq).setCell (Nat.le_refl _) _
            have kp6 : Kept (fun b => b = wo.heap.size) wi w6 := by rw [hw6]; exact Kept.of_set _ rfl
            rw [← hw6]
            clear hw6 c2 f2
            have own6 := own_keptF HX.out.1 kp6 (fun b hb e => by have := (HX.out.1.lt b hb).1; have := blk_lt HK4.out; omega)
            have HL6 := HA.out.ext x6
            obtain ⟨w7, hw7⟩ : ∃ V, V = w6.alloc (.cells #[.int .u8 y.k, .int .i64 y.list, .slice X xs.length cx] 34) := ⟨_, rfl⟩
            have x7 : Ext w6 w7 := by rw [hw7]; exact (Ext.refl _).alloc _
            obtain ⟨y7, hy7⟩ : ∃ y7 : Ac, y7 = ⟨y.k, y.list, X, xs.length, cx, xs⟩ := ⟨_, rfl⟩
            have sh7 : Shows w7 3 (some ⟨w6.heap.size, 0, none⟩) 1 (acs [y7]) := by rw [hw7, hy7]; exact shows_ac rfl
            have HL7 := Lib.hid (HL6.ext x7)
            have own7 := HL7.out.own
            have hne7 : ∀ ad, y7.A = some ad → w.heap.size ≤ ad.block ∧ ad.block < w7.heap.size ∧ ∀ b, lv.ownBlock = some b → ad.block ≠ b := by
              rw [hy7]
              intro ad e
              have h1 := own6.lt ad.block (by show (Value.slice X xs.length cx).ownBlock = _; rw [show X = some ad from e]; rfl)
              have s4 := blk_lt HK4.out
              have s1 := xr.size
              exact ⟨by omega, Nat.lt_of_lt_of_le h1.2 x7.size, fun b hb e2 => by have := (HA.out.own.lt b hb).2; omega⟩
            have hy7ok : (0 ≤ y7.k ∧ y7.k < 256) ∧ (-9223372036854775808 ≤ y7.list ∧ y7.list < 9223372036854775808) ∧ Shows w7 3 y7.A y7.n (rps y7.xs) ∧ y7.n = y7.xs.length ∧ y7.n ≤ 6 ∧ y7.n ≤ y7.c ∧ y7.c ≤ maxLen := by
              rw [hy7]
              exact ⟨HY.out.k, HY.out.list, (Shows.of_own own6).ext x7, rfl, by have := HX.out.2.2; show xs.length ≤ 6; omega, hcx, hcm⟩
            have HY7 := Lib.hid (And.intro hy7ok (And.intro hne7 (show ∀ x ∈ y7.xs, x.ok wp ∧ x.n ≤ 10 by rw [hy7]; exact HX.out.2.1)))
            have hbase : w.heap.size ≤ w7.heap.size := Nat.le_trans xr.size (x6.trans x7).size
            have HX67 := Lib.hid (xr.trans (x6.trans x7))
            have hys : ys.length ≤ 60 := by omega
            clear hy7ok hne7 hy7 own6 HL6 kp6
            go_wp2_with (first | refine wpList_ldrow rfl 34 (.tmp 5) rfl k6 rfl Try.underlying34 rfl (by kernel_rfl) ?_ | (at_builtin; go_loud (rw [← hw7]; refine wpList_appB el22 rfl _ _ rfl own7 rfl sh7 rfl (acs_one _) (le_max (by omega)) (by omega) hbase ?_; intro v9 w9 own9 gr9 at9; obtain ⟨B9, c9, rfl, _, _⟩ := own9.form (by omega))))
            have hL9 := HL7.out.app HY7.out.1 HY7.out.2.2 HY7.out.2.1 own9 gr9 rfl at9
            have hx9 := Lib.hid (Ext.of_grown HX67.out gr9 (fun b e => (HL7.out.own.lt b e).1))
            have HL9 := Lib.hid hL9
            clear own9 gr9 at9 own7 sh7 hw7 k6 hL9
            go_roundw
            case rel => exact ⟨_, k + 1, _, rfl, by go_num, by omega, by omega, by simp; omega, HL9.out, hx9.out⟩
            case measure => simp [intOf]; omega
    · obtain rfl : k = n := by omega
      go_wp2
      go_ret
      exact ⟨_, ys, rfl, xr, HA.out⟩
end Go.Proofs.Ytdhdkjiphapliaa
