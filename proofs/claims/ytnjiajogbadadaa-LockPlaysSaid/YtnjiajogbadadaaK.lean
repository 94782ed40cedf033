import Derived.Test.YtnjiajogbadadaaJ
set_option linter.unusedVariables false
set_option linter.unusedSimpArgs false
namespace Go.Proofs.Ytnjiajogbadadaa
open Go.RowKit
structure UOut where
  st : LSt
  err : Int
def LSt.doUnlock (s : LSt) (left : Int) (b : List Int) : UOut :=
  if mayC s.seed.length s.told s.key.length left b.length = false then ⟨s.clear, 90⟩
  else if s.key.length + b.length < s.seed.length then ⟨{ s with key := s.key ++ b }, 0⟩
  else if s.key ++ b = keyB s.res s.seed then ⟨{ s.clear with lk := bits .andNot .u8 s.lk s.res }, 0⟩
  else ⟨s.clear, 91⟩
def UnlPost (w : World) (g : Nat) (F : Nat → Prop) (o : UOut) (e : Ending) (w' : World) : Prop :=
  e = .returned (.int .i64 o.err) ∧ ∃ F', LkC w' g o.st F' ∧ Kept F w w' ∧ ∀ k, F' k → F k ∨ w.heap.size ≤ k
theorem unlock_nil (left : Int) (bA : Option Addr) (n c : Nat) (w : World) :
    Calls Try.prog 14 #[.pointer none, .int .i64 left, .slice bA n c] w fun e w' => e = .returned (.int .i64 2) ∧ w = w' := by
  go_enter Try.func14, Try.ntmps14
  go_wp2
  go_ret
  exact ⟨rfl, rfl⟩
theorem mayC_n {sn told kn : Nat} {left : Int} {n : Nat} (h : mayC sn told kn left n = true) (hs : sn ≤ 20) : n ≤ 6 ∧ told = sn ∧ 0 < sn ∧ left = ((sn - kn : Nat) : Int) ∧ n = min (sn - kn) 6 := by
  simp [mayC] at h
  obtain ⟨⟨⟨h1, h2⟩, h3⟩, h4⟩ := h
  subst h3
  split at h4 <;> omega
theorem andNot_bd {a b : Int} (ha : 0 ≤ a ∧ a < 256) (hb : 0 ≤ b ∧ b < 256) : 0 ≤ bits .andNot .u8 a b ∧ bits .andNot .u8 a b < 256 := by
  rw [u8_andNot a b ha.1 ha.2 hb.1 hb.2]
  have : a.toNat &&& (255 - b.toNat) ≤ a.toNat := Nat.and_le_left
  omega
set_option maxHeartbeats 1000000 in
theorem unlock_no (g : Nat) (s : LSt) (F : Nat → Prop) (left : Int) (bA : Option Addr) (n c : Nat) (w : World) (h : LkC w g s F) (hm : mayC s.seed.length s.told s.key.length left n = false) :
    Calls Try.prog 14 #[.pointer (some ⟨g, 0, none⟩), .int .i64 left, .slice bA n c] w (UnlPost w g F ⟨s.clear, 90⟩) := by
  obtain ⟨sA, sc, kA, kc, h⟩ := h
  have hl := h.ok.len
  have hk := h.ok.key
  have HM := Lib.hid hm
  clear hm
  go_enter Try.func14, Try.ntmps14
  go_wp2_with (first
    | (go_at_call 28; (refine (mayCome_any _ _ _ _ _ _ _ _ _ _ _ _ _ _ _ _ h.row (by omega) hk).mono ?_); rintro e w1 ⟨rfl, x1⟩; rw [HM.out]; have K1 := (x1.block _ (blk_lt h.row)).trans h.row)
    | (go_at_call 24; (refine (noSeed_any _ _ _ _ _ _ _ _ _ _ _ _ K1).mono ?_); rintro e w2 ⟨rfl, K2, x2⟩))
  go_ret
  have k : Kept F w w2 := Kept.trans' (.of_ext x1) (.of_grown x2 (fun b e => by injection e with e; subst e; exact h.fg))
  exact ⟨rfl, F, ⟨none, 0, none, 0, clear_of h K2 k.size⟩, k, fun i hi => .inl hi⟩
set_option maxHeartbeats 1000000 in
theorem unlock_yes (g : Nat) (s : LSt) (F : Nat → Prop) (left : Int) (bA : Option Addr) (n c : Nat) (bs : List Int) (w : World) (h : LkC w g s F) (hr : Rd w bA n bs) (hm : mayC s.seed.length s.told s.key.length left n = true) (o : UOut)
    (HO : Hid (o = if s.key.length + n < s.seed.length then ⟨{ s with key := s.key ++ bs }, 0⟩
  else if s.key ++ bs = keyB s.res s.seed then ⟨{ s.clear with lk := bits .andNot .u8 s.lk s.res }, 0⟩
  else ⟨s.clear, 91⟩)) :
    Calls Try.prog 14 #[.pointer (some ⟨g, 0, none⟩), .int .i64 left, .slice bA n c] w (UnlPost w g F o) := by
  obtain ⟨sA, sc, kA, kc, h⟩ := h
  have hl := h.ok.len
  have hk := h.ok.key
  obtain ⟨hn6, htold, hs0, hleft, hnmin⟩ := mayC_n hm hl
  have HM := Lib.hid hm
  clear hm htold hleft hnmin
  have HH := Lib.hid h
  go_enter Try.func14, Try.ntmps14
  go_upto_region 6 with (go_at_call 28; (refine (mayCome_any _ _ _ _ _ _ _ _ _ _ _ _ _ _ _ _ h.row (by omega) hk).mono ?_); rintro e w1 ⟨rfl, x1⟩; rw [HM.out])
  have K1 := (x1.block _ (blk_lt h.row)).trans h.row
  have own1 := own_ext h.own x1
  have r1 := hr.ext x1
  have sd1 := h.seed.ext x1
  obtain ⟨f0, f1, f2, f3, f4, f5⟩ := cells6 K1
  go_upto_region 7 with (at_builtin; refine wpList_appB el29 rfl _ _ rfl own1 rfl r1.shows rfl (u8s_one _) (by simp only [maxLen]; omega) (by omega) (Nat.zero_le _) ?_; intro v4 w4 own4 hg4 hat4; have hgne : some g ≠ Value.ownBlock (.slice kA s.key.length kc) := (fun e => (HH.out.fk _ e.symm).2.1 rfl); have K4 := grown_lt K1 hg4 hgne; obtain ⟨A4, c4, rfl, l4, m4, _⟩ := own_form own4; clear f0 f1 f2 f3 f4 f5; obtain ⟨f0, f1, f2, f3, f4, f5⟩ := cells6 K4; have z5 := blk_free (i := 5) K4)
  obtain ⟨w5, hw5, K5, x5⟩ := set_new 5 (.slice A4 (s.key.length + n) c4) K4
  rw [← hw5]; clear hw5
  have h := HH.out
  have hsz5 : w1.heap.size ≤ w5.heap.size := Nat.le_trans hg4.size x5.size
  have hnl := hr.len
  have hgl := blk_lt K1
  have k4 : Kept (fun k => F k ∨ Value.ownBlock (.slice kA s.key.length kc) = some k) w1 w5 := Kept.trans' (.of_grown hg4 (fun b e => .inr e)) (.of_grown x5 (fun b e => by injection e with e; subst e; exact .inl h.fg))
  have k4' : Kept F w1 w5 := k4.mono (fun i _ e => e.elim id (fun e => (h.fk i e).1))
  have hgB : ∀ b, Value.ownBlock (.slice A4 (s.key.length + n) c4) = some b → b ≠ g ∧ (∀ ad, sA = some ad → ad.block ≠ b) ∧ (F b ∨ w.heap.size ≤ b) := by
    intro b e
    rcases hat4 with e4 | e4
    · rw [e4] at e
      exact ⟨(h.fk b e).2.1, (h.fk b e).2.2, .inl (h.fk b e).1⟩
    · rw [e4] at e
      injection e with e
      subst e
      have := x1.size
      exact ⟨by omega, fun ad e => by have := h.lt _ (h.fs ad e).1; omega, .inr (by omega)⟩
  have kG : Kept (· = g) w4 w5 := .of_grown x5 (fun b e => by injection e with e; exact e.symm)
  have sd5 : Rd w5 sA s.seed.length s.seed := (sd1.grown hg4 (fun ad e he => (h.fk _ he.symm).2.2 ad e rfl)).kept kG (fun ad e => (h.fs ad e).2)
  have own5 : w5.ownsRow 0 5 1 (.slice A4 (s.key.length + n) c4) (s.key.length + n) (u8s (s.key ++ bs)) := by
    rw [u8s_append]
    exact own_keptF own4 kG (fun b e => (hgB b e).1)
  clear own4 sd1 own1 r1 f0 f1 f2 f3 f4 f5 z5
  have HB := Lib.hid hgB
  clear hgB hat4
  obtain ⟨m, hm⟩ : ∃ m, m = s.key.length + n := ⟨_, rfl⟩
  rw [← hm] at K5 own5 HB l4 HO ⊢
  have hmm : m ≤ 26 := by omega
  have HMm := Lib.hid hm
  clear hm
  have K5 : w5.heap[g]? = some (.cells #[.int .u8 s.all, .int .u8 s.lk, .slice sA s.seed.length sc, .int .u8 s.res, .int .i64 (s.told : Int), .slice A4 m c4] 48 (0, 0)) := K5
  obtain ⟨f0, f1, f2, f3, f4, f5⟩ := cells6 K5
  have hkb : Byts (s.key ++ bs) := h.kby.append hr.byts
  have HK := Lib.hid (show (s.key ++ bs).length = m by rw [List.length_append, hnl, HMm.out])
  have kF5 : Kept F w w5 := Kept.trans' (.of_ext x1) k4'
  by_cases hlt : m < s.seed.length
  · have ho := HO.out
    rw [if_pos hlt] at ho
    subst ho
    have b1 : (m : Int) < s.seed.length := by omega
    clear hlt
    go_upto_region 7 with (fail)
    go_quiet (fail)
    obtain ⟨w6, hWq⟩ : ∃ z : World, z = World.drewN w5 nq := ⟨_, rfl⟩
    rw [← hWq]
    have xw6 : Ext w5 w6 := by rw [hWq]; exact (Ext.refl _).drewN _
    clear hWq
    go_wp2
    go_ret
    have h := HH.out
    refine ⟨rfl, fun k => F k ∨ Value.ownBlock (.slice A4 m c4) = some k, ⟨sA, sc, A4, c4, ?_⟩, kF5.then xw6, ?_⟩
    · exact {
        row := by show w6.heap[g]? = some (.cells #[.int .u8 s.all, .int .u8 s.lk, .slice sA s.seed.length sc, .int .u8 s.res, .int .i64 (s.told : Int), .slice A4 ((s.key ++ bs).length) c4] 48 (0, 0)); rw [HK.out]; exact (xw6.block _ (blk_lt K5)).trans K5
        seed := sd5.ext xw6
        cap := h.cap
        own := by show w6.ownsRow 0 5 1 (.slice A4 ((s.key ++ bs).length) c4) ((s.key ++ bs).length) (u8s (s.key ++ bs)); rw [HK.out]; exact own_ext own5 xw6
        kby := hkb
        fg := .inl h.fg
        fs := fun ad e => ⟨.inl (h.fs ad e).1, (h.fs ad e).2⟩
        fk := by
          show ∀ b, Value.ownBlock (.slice A4 ((s.key ++ bs).length) c4) = some b → _
          rw [HK.out]
          exact fun b e => ⟨.inr e, (HB.out b e).1, (HB.out b e).2.1⟩
        lt := by
          rintro i (hi | hi)
          · have := h.lt i hi; have := kF5.size; have := xw6.size; omega
          · exact own_lt (own_ext own5 xw6) hi
        ok := ⟨h.ok.all, h.ok.lk, h.ok.res, h.ok.told, h.ok.len, by show (s.key ++ bs).length ≤ s.seed.length; rw [HK.out]; omega⟩ }
    · rintro i (hi | hi)
      · exact .inl hi
      · exact (HB.out i hi).2.2
  · have ho := HO.out
    rw [if_neg hlt] at ho
    have HO := Lib.hid ho
    clear ho
    have b1 : ¬ (m : Int) < s.seed.length := by omega
    clear hlt
    have hres := h.ok.res
    obtain ⟨r0, r1⟩ := hres
    go_upto_region 7 with (fail)
    go_quiet (fail)
    obtain ⟨w6, hWq⟩ : ∃ z : World, z = World.drewN w5 nq := ⟨_, rfl⟩
    rw [← hWq]
    have xw6 : Ext w5 w6 := by rw [hWq]; exact (Ext.refl _).drewN _
    clear hWq
    have K6 := (xw6.block _ (blk_lt K5)).trans K5
    have sd6 := sd5.ext xw6
    obtain ⟨A5, c5, e5, l5, m5, rk6⟩ := own_rd (own_ext own5 xw6) hkb
    injection e5 with e5a e5b e5c
    subst e5a e5c
    clear f0 f1 f2 f3 f4 f5
    go_upto_region 9 with (fail)
    refine wp_region_held_drew (S := Ext w6) (by kernel_rfl) ((Ext.refl _).drew) (fun hHeld => ?_)
    obtain ⟨wD1, hwD⟩ : ∃ V, V = World.drew w6 := ⟨_, rfl⟩
    rw [← hwD]
    clear hHeld
    have zz0 : Ext w6 wD1 := by rw [hwD]; exact (Ext.refl _).drew
    clear hwD
    refine wpAnyH_imp (S' := Ext wD1) (fun W h => Ext.trans zz0 h) _ _ _ _ ?_
    have hHeld := Ext.refl wD1
    refine wpAnyH_take (i := 0) (oi := { dst := some 38, op := Op.move (Operand.tmp 0), type := 24, pos := "lock.go:106", after := #[], guard := none }) (v := ?vv2_9_0) rfl (by kernel_rfl) (by kernel_rfl) (by kernel_rfl) (fun _ _ _ h => h) (Or.inl ⟨by rfl, ?yy2_9_0⟩) hHeld ?_
    case yy2_9_0 => (intro W hx; go_simp; try with_reducible rfl)
    simp only [Act.put, List.setIfInBounds_toArray, List.set_cons_zero, List.set_cons_succ]
    refine wpAnyH_take (i := 1) (oi := { dst := some 39, op := Op.nilCheck (Operand.tmp 38), type := 0, pos := "lock.go:106", after := #[{ on := 0, ground := Ground.data }], guard := none }) (v := ?vv3_9_1) rfl (by kernel_rfl) (by kernel_rfl) (by kernel_rfl) (fun _ _ _ h => h) (Or.inl ⟨by rfl, ?yy3_9_1⟩) hHeld ?_
    case yy3_9_1 => (intro W hx; go_simp; try with_reducible rfl)
    simp only [Act.put, List.setIfInBounds_toArray, List.set_cons_zero, List.set_cons_succ]
    refine wpAnyH_take (i := 2) (oi := { dst := some 40, op := Op.fieldAddr 48 (Operand.tmp 39) 5, type := 0, pos := "lock.go:106", after := #[{ on := 1, ground := Ground.data }], guard := none }) (v := ?vv4_9_2) rfl (by kernel_rfl) (by kernel_rfl) (by kernel_rfl) (fun _ _ _ h => h) (Or.inl ⟨by rfl, ?yy4_9_2⟩) hHeld ?_
    case yy4_9_2 => (intro W hx; go_simp; try with_reducible rfl)
    simp only [Act.put, List.setIfInBounds_toArray, List.set_cons_zero, List.set_cons_succ]
    refine wpAnyH_take (i := 3) (oi := { dst := some 41, op := Op.load 29 (Operand.tmp 40), type := 29, pos := "lock.go:106", after := #[{ on := 2, ground := Ground.data }], guard := none }) (v := ?vv5_9_3) rfl (by kernel_rfl) (by kernel_rfl) (by kernel_rfl) (fun _ _ _ h => h) (Or.inl ⟨by rfl, ?yy5_9_3⟩) hHeld ?_
    case yy5_9_3 => (intro W hx; have hz := zz0.trans hx; obtain ⟨f0, f1, f2, f3, f4, f5⟩ := cells6 ((hz.block _ (blk_lt K6)).trans K6); go_simp; try with_reducible rfl)
    simp only [Act.put, List.setIfInBounds_toArray, List.set_cons_zero, List.set_cons_succ]
    refine wpAnyH_take (i := 4) (oi := { dst := some 42, op := Op.move (Operand.tmp 0), type := 24, pos := "lock.go:106", after := #[], guard := none }) (v := ?vv6_9_4) rfl (by kernel_rfl) (by kernel_rfl) (by kernel_rfl) (fun _ _ _ h => h) (Or.inl ⟨by rfl, ?yy6_9_4⟩) hHeld ?_
    case yy6_9_4 => (intro W hx; go_simp; try with_reducible rfl)
    simp only [Act.put, List.setIfInBounds_toArray, List.set_cons_zero, List.set_cons_succ]
    refine wpAnyH_take (i := 5) (oi := { dst := some 43, op := Op.nilCheck (Operand.tmp 42), type := 0, pos := "lock.go:106", after := #[{ on := 4, ground := Ground.data }], guard := none }) (v := ?vv7_9_5) rfl (by kernel_rfl) (by kernel_rfl) (by kernel_rfl) (fun _ _ _ h => h) (Or.inl ⟨by rfl, ?yy7_9_5⟩) hHeld ?_
    case yy7_9_5 => (intro W hx; go_simp; try with_reducible rfl)
    simp only [Act.put, List.setIfInBounds_toArray, List.set_cons_zero, List.set_cons_succ]
    refine wpAnyH_take (i := 6) (oi := { dst := some 44, op := Op.fieldAddr 48 (Operand.tmp 43) 2, type := 0, pos := "lock.go:106", after := #[{ on := 5, ground := Ground.data }], guard := none }) (v := ?vv8_9_6) rfl (by kernel_rfl) (by kernel_rfl) (by kernel_rfl) (fun _ _ _ h => h) (Or.inl ⟨by rfl, ?yy8_9_6⟩) hHeld ?_
    case yy8_9_6 => (intro W hx; go_simp; try with_reducible rfl)
    simp only [Act.put, List.setIfInBounds_toArray, List.set_cons_zero, List.set_cons_succ]
    refine wpAnyH_take (i := 7) (oi := { dst := some 45, op := Op.load 29 (Operand.tmp 44), type := 29, pos := "lock.go:106", after := #[{ on := 6, ground := Ground.data }], guard := none }) (v := ?vv9_9_7) rfl (by kernel_rfl) (by kernel_rfl) (by kernel_rfl) (fun _ _ _ h => h) (Or.inl ⟨by rfl, ?yy9_9_7⟩) hHeld ?_
    case yy9_9_7 => (intro W hx; have hz := zz0.trans hx; obtain ⟨f0, f1, f2, f3, f4, f5⟩ := cells6 ((hz.block _ (blk_lt K6)).trans K6); go_simp; try with_reducible rfl)
    simp only [Act.put, List.setIfInBounds_toArray, List.set_cons_zero, List.set_cons_succ]
    refine wpAnyH_take (i := 8) (oi := { dst := some 46, op := Op.move (Operand.tmp 0), type := 24, pos := "lock.go:106", after := #[], guard := none }) (v := ?vv10_9_8) rfl (by kernel_rfl) (by kernel_rfl) (by kernel_rfl) (fun _ _ _ h => h) (Or.inl ⟨by rfl, ?yy10_9_8⟩) hHeld ?_
    case yy10_9_8 => (intro W hx; go_simp; try with_reducible rfl)
    simp only [Act.put, List.setIfInBounds_toArray, List.set_cons_zero, List.set_cons_succ]
    refine wpAnyH_take (i := 9) (oi := { dst := some 47, op := Op.nilCheck (Operand.tmp 46), type := 0, pos := "lock.go:106", after := #[{ on := 8, ground := Ground.data }], guard := none }) (v := ?vv11_9_9) rfl (by kernel_rfl) (by kernel_rfl) (by kernel_rfl) (fun _ _ _ h => h) (Or.inl ⟨by rfl, ?yy11_9_9⟩) hHeld ?_
    case yy11_9_9 => (intro W hx; go_simp; try with_reducible rfl)
    simp only [Act.put, List.setIfInBounds_toArray, List.set_cons_zero, List.set_cons_succ]
    refine wpAnyH_take (i := 10) (oi := { dst := some 48, op := Op.fieldAddr 48 (Operand.tmp 47) 3, type := 0, pos := "lock.go:106", after := #[{ on := 9, ground := Ground.data }], guard := none }) (v := ?vv12_9_10) rfl (by kernel_rfl) (by kernel_rfl) (by kernel_rfl) (fun _ _ _ h => h) (Or.inl ⟨by rfl, ?yy12_9_10⟩) hHeld ?_
    case yy12_9_10 => (intro W hx; go_simp; try with_reducible rfl)
    simp only [Act.put, List.setIfInBounds_toArray, List.set_cons_zero, List.set_cons_succ]
    refine wpAnyH_take (i := 11) (oi := { dst := some 49, op := Op.load 5 (Operand.tmp 48), type := 5, pos := "lock.go:106", after := #[{ on := 10, ground := Ground.data }], guard := none }) (v := ?vv13_9_11) rfl (by kernel_rfl) (by kernel_rfl) (by kernel_rfl) (fun _ _ _ h => h) (Or.inl ⟨by rfl, ?yy13_9_11⟩) hHeld ?_
    case yy13_9_11 => (intro W hx; have hz := zz0.trans hx; obtain ⟨f0, f1, f2, f3, f4, f5⟩ := cells6 ((hz.block _ (blk_lt K6)).trans K6); go_simp; try with_reducible rfl)
    simp only [Act.put, List.setIfInBounds_toArray, List.set_cons_zero, List.set_cons_succ]
    refine wpAnyH_take (i := 14) (oi := { dst := some 52, op := Op.move (Operand.tmp 0), type := 24, pos := "lock.go:106", after := #[{ on := 18, ground := Ground.gcOnly Departure.lateStores }], guard := none }) (v := ?vv14_9_14) rfl (by kernel_rfl) (by kernel_rfl) (by kernel_rfl) (fun _ _ _ h => h) (Or.inl ⟨by rfl, ?yy14_9_14⟩) hHeld ?_
    case yy14_9_14 => (intro W hx; go_simp; try with_reducible rfl)
    simp only [Act.put, List.setIfInBounds_toArray, List.set_cons_zero, List.set_cons_succ]
    refine wpAnyH_take (i := 15) (oi := { dst := some 53, op := Op.nilCheck (Operand.tmp 52), type := 0, pos := "lock.go:106", after := #[{ on := 14, ground := Ground.data }, { on := 18, ground := Ground.gcOnly Departure.lateStores }], guard := none }) (v := ?vv15_9_15) rfl (by kernel_rfl) (by kernel_rfl) (by kernel_rfl) (fun _ _ _ h => h) (Or.inl ⟨by rfl, ?yy15_9_15⟩) hHeld ?_
    case yy15_9_15 => (intro W hx; go_simp; try with_reducible rfl)
    simp only [Act.put, List.setIfInBounds_toArray, List.set_cons_zero, List.set_cons_succ]
    refine wpAnyH_take (i := 16) (oi := { dst := some 54, op := Op.fieldAddr 48 (Operand.tmp 53) 3, type := 0, pos := "lock.go:106", after := #[{ on := 15, ground := Ground.data }, { on := 18, ground := Ground.gcOnly Departure.lateStores }], guard := none }) (v := ?vv16_9_16) rfl (by kernel_rfl) (by kernel_rfl) (by kernel_rfl) (fun _ _ _ h => h) (Or.inl ⟨by rfl, ?yy16_9_16⟩) hHeld ?_
    case yy16_9_16 => (intro W hx; go_simp; try with_reducible rfl)
    simp only [Act.put, List.setIfInBounds_toArray, List.set_cons_zero, List.set_cons_succ]
    refine wpAnyH_take (i := 17) (oi := { dst := some 55, op := Op.load 5 (Operand.tmp 54), type := 5, pos := "lock.go:106", after := #[{ on := 16, ground := Ground.data }, { on := 18, ground := Ground.gcOnly Departure.lateStores }], guard := none }) (v := ?vv17_9_17) rfl (by kernel_rfl) (by kernel_rfl) (by kernel_rfl) (fun _ _ _ h => h) (Or.inl ⟨by rfl, ?yy17_9_17⟩) hHeld ?_
    case yy17_9_17 => (intro W hx; have hz := zz0.trans hx; obtain ⟨f0, f1, f2, f3, f4, f5⟩ := cells6 ((hz.block _ (blk_lt K6)).trans K6); go_simp; try with_reducible rfl)
    simp only [Act.put, List.setIfInBounds_toArray, List.set_cons_zero, List.set_cons_succ]
    refine wpAnyH_ready (rs := [12]) (by kernel_rfl) (by simp) (AllReadyH.cons rfl (fun K hK => ?_) AllReadyH.nil)
    go_simp
    go_wp2_with (go_at_call 20; (refine (key_any _ _ _ _ _ _ (sd6.ext zz0) (by omega) r0 r1).mono ?_); rintro e w7 ⟨A7, rfl, x7, r7, q7⟩)
    refine hK.out _ _ x7 (fun hHeld => ?_)
    clear hK K
    refine wpAnyH_imp (S' := Ext w7) (fun W h => Ext.trans x7 h) _ _ _ _ ?_
    replace hHeld := Ext.refl w7
    have zz1 := zz0.trans x7
    refine wpAnyH_ready (rs := [13]) (by kernel_rfl) (by simp) (AllReadyH.cons rfl (fun K hK => ?_) AllReadyH.nil)
    go_simp
    go_wp2_with (go_at_call 29; (refine (equal_any _ _ _ _ _ _ _ _ _ (rk6.ext (zz0.trans x7)) r7).mono ?_); rintro e w8 ⟨rfl, hx8⟩; have x8 : Ext w7 w8 := (by rw [← hx8]; exact Ext.refl _); clear hx8)
    refine hK.out _ _ x8 (fun hHeld => ?_)
    clear hK K
    refine wpAnyH_imp (S' := Ext w8) (fun W h => Ext.trans x8 h) _ _ _ _ ?_
    replace hHeld := Ext.refl w8
    have zz2 := zz1.trans x8
    refine wpAnyH_take (i := 18) (oi := { dst := some 7, op := Op.assign (Operand.tmp 51), type := 4, pos := "lock.go:106", after := #[{ on := 13, ground := Ground.data }, { on := 13, ground := Ground.chain }, { on := 0, ground := Ground.phase }, { on := 1, ground := Ground.phase }, { on := 2, ground := Ground.phase }, { on := 3, ground := Ground.phase }, { on := 4, ground := Ground.phase }, { on := 5, ground := Ground.phase }, { on := 6, ground := Ground.phase }, { on := 7, ground := Ground.phase }, { on := 8, ground := Ground.phase }, { on := 9, ground := Ground.phase }, { on := 10, ground := Ground.phase }, { on := 11, ground := Ground.phase }, { on := 12, ground := Ground.phase }, { on := 13, ground := Ground.phase }, { on := 14, ground := Ground.textOnly Departure.lateStores }, { on := 15, ground := Ground.textOnly Departure.lateStores }, { on := 16, ground := Ground.textOnly Departure.lateStores }, { on := 17, ground := Ground.textOnly Departure.lateStores }], guard := none }) (v := ?vv18_9_18) rfl (by kernel_rfl) (by kernel_rfl) (by kernel_rfl) (fun _ _ _ h => h) (Or.inl ⟨by rfl, ?yy18_9_18⟩) hHeld ?_
    case yy18_9_18 => (intro W hx; go_simp; try with_reducible rfl)
    simp only [Act.put, List.setIfInBounds_toArray, List.set_cons_zero, List.set_cons_succ]
    refine wpAnyH_take (i := 19) (oi := { dst := some 8, op := Op.assign (Operand.tmp 55), type := 5, pos := "lock.go:106", after := #[{ on := 17, ground := Ground.data }, { on := 18, ground := Ground.chain }, { on := 0, ground := Ground.phase }, { on := 1, ground := Ground.phase }, { on := 2, ground := Ground.phase }, { on := 3, ground := Ground.phase }, { on := 4, ground := Ground.phase }, { on := 5, ground := Ground.phase }, { on := 6, ground := Ground.phase }, { on := 7, ground := Ground.phase }, { on := 8, ground := Ground.phase }, { on := 9, ground := Ground.phase }, { on := 10, ground := Ground.phase }, { on := 11, ground := Ground.phase }, { on := 12, ground := Ground.phase }, { on := 13, ground := Ground.phase }, { on := 14, ground := Ground.phase }, { on := 15, ground := Ground.phase }, { on := 16, ground := Ground.phase }, { on := 17, ground := Ground.phase }, { on := 18, ground := Ground.phase }], guard := none }) (v := ?vv19_9_19) rfl (by kernel_rfl) (by kernel_rfl) (by kernel_rfl) (fun _ _ _ h => h) (Or.inl ⟨by rfl, ?yy19_9_19⟩) hHeld ?_
    case yy19_9_19 => (intro W hx; go_simp; try with_reducible rfl)
    simp only [Act.put, List.setIfInBounds_toArray, List.set_cons_zero, List.set_cons_succ]
    refine wpAnyH_done (by kernel_rfl) ?_ _
    have zend := zz2.trans hHeld
    have K8 := (zend.block _ (blk_lt K6)).trans K6
    rcases hgood : decide (s.key ++ bs = keyB s.res s.seed) with _ | _
    · have hne := of_decide_eq_false hgood
      have ho := HO.out
      rw [if_neg hne] at ho
      subst ho
      clear hne
      go_wp2_with (go_at_call 24; (refine (noSeed_any _ _ _ _ _ _ _ _ _ _ _ _ K8).mono ?_); rintro e w9 ⟨rfl, K9, x9⟩)
      go_ret
      have h := HH.out
      have k : Kept F w w9 := (kF5.then (xw6.trans zend)).trans' (.of_grown x9 (fun b e => by injection e with e; subst e; exact h.fg))
      exact ⟨rfl, F, ⟨none, 0, none, 0, clear_of h K9 k.size⟩, k, fun i hi => .inl hi⟩
    · have hne := of_decide_eq_true hgood
      have ho := HO.out
      rw [if_pos hne] at ho
      subst ho
      clear hne
      go_upto_region 13 with (go_at_call 24; (refine (noSeed_any _ _ _ _ _ _ _ _ _ _ _ _ K8).mono ?_); rintro e w9 ⟨rfl, K9, x9⟩; obtain ⟨f0, f1, f2, f3, f4, f5⟩ := cells6 K9; have z1 := blk_free (i := 1) K9)
      go_upto_region 14 with (fail)
      obtain ⟨w10, hw10, K10, x10⟩ := set_new 1 (.int .u8 (bits .andNot .u8 s.lk s.res)) K9
      rw [← hw10]; clear hw10
      go_wp2
      go_ret
      have h := HH.out
      have k : Kept F w w10 := ((kF5.then (xw6.trans zend)).trans' (.of_grown x9 (fun b e => by injection e with e; subst e; exact h.fg))).trans' (.of_grown x10 (fun b e => by injection e with e; subst e; exact h.fg))
      exact ⟨rfl, F, ⟨none, 0, none, 0, K10, Rd.nil, Nat.le_refl _, own_nil, Byts.nil, h.fg, (fun ad e => nomatch e), (fun b e => nomatch e), fun i hi => Nat.lt_of_lt_of_le (h.lt i hi) k.size, ⟨h.ok.all, andNot_bd h.ok.lk h.ok.res, by simp [LSt.clear], by simp [LSt.clear], by simp [LSt.clear], by simp [LSt.clear]⟩⟩, k, fun i hi => .inl hi⟩
theorem unlock_any (g : Nat) (s : LSt) (F : Nat → Prop) (left : Int) (bA : Option Addr) (n c : Nat) (bs : List Int) (w : World) (h : LkC w g s F) (hr : Rd w bA n bs) :
    Calls Try.prog 14 #[.pointer (some ⟨g, 0, none⟩), .int .i64 left, .slice bA n c] w (UnlPost w g F (s.doUnlock left bs)) := by
  unfold LSt.doUnlock
  rw [hr.len]
  split
  · rename_i hm
    exact unlock_no g s F left bA n c w h hm
  · rename_i hm
    exact unlock_yes g s F left bA n c bs w h hr (by simpa using hm) _ rfl
end Go.Proofs.Ytnjiajogbadadaa
