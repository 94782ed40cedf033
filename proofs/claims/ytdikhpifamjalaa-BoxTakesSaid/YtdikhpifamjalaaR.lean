import Derived.Test.YtdikhpifamjalaaQ
set_option linter.unusedVariables false
set_option linter.unusedSimpArgs false
namespace Go.Proofs.Ytdikhpifamjalaa
open Go.RowKit
theorem and0 (x : Int) (hx : 0 ≤ x ∧ x < 4294967296) : bits .and .u32 x 0 = 0 := by
  rw [u32_and x 0 hx.1 hx.2 (by omega) (by omega)]; simp
theorem xor_self (x : Int) (hx : 0 ≤ x ∧ x < 4294967296) : bits .xor .u32 x x = 0 := by
  rw [u32_xor x x hx.1 hx.2 hx.1 hx.2]; simp
theorem xor_bd (x y : Int) (hx : 0 ≤ x ∧ x < 4294967296) (hy : 0 ≤ y ∧ y < 4294967296) : 0 ≤ bits .xor .u32 x y ∧ bits .xor .u32 x y < 4294967296 := by
  rw [u32_xor x y hx.1 hx.2 hy.1 hy.2]
  have := Nat.xor_lt_two_pow (n := 32) (show x.toNat < 2 ^ 32 by omega) (show y.toNat < 2 ^ 32 by omega)
  omega
theorem xor_one (x : Int) (hx : 0 ≤ x ∧ x < 4294967296) : bits .and .u32 (bits .xor .u32 (bits .xor .u32 x 1) x) 4294967295 = 1 := by
  have h1 := xor_bd x 1 hx (by omega)
  have h2 : bits .xor .u32 (bits .xor .u32 x 1) x = 1 := by
    rw [u32_xor _ x h1.1 h1.2 hx.1 hx.2, u32_xor x 1 hx.1 hx.2 (by omega) (by omega)]
    rw [Int.toNat_natCast, Nat.xor_comm x.toNat, Nat.xor_assoc, Nat.xor_self]
    simp
  rw [h2]; decide
def tk (l : List Fi) (f : Fr) : Bool := f.may && l.any (fits · f)
theorem take_new (l : List Fi) (f : Fr) : ((BSt.new l).take f).2 = tk l f := by
  unfold BSt.take tk BSt.lets BSt.new
  split
  · rename_i h; simpa using h.symm
  · rename_i h; simpa using h
theorem tk_all (f : Fr) (h : f.ok) : tk [⟨0, 0, f.ext⟩] f = f.may := by
  simp [tk, fits, and0 _ (xor_bd 0 f.id (by omega) h)]
theorem tk_own (f : Fr) (h : f.ok) : tk [⟨4294967295, f.id, f.ext⟩] f = f.may := by
  have : bits .and .u32 0 4294967295 = 0 := by kernel_rfl
  simp [tk, fits, xor_self _ h, this]
theorem tk_other (f : Fr) (h : f.ok) : tk [⟨4294967295, bits .xor .u32 f.id 1, f.ext⟩, ⟨0, 0, !f.ext⟩] f = false := by
  simp [tk, fits, xor_one _ h]
/-- a box that lies within some blocks. -/
def BxI (lo hi : Nat) (w : World) (ty : TypeId) (g : Nat) (s : BSt) : Prop := ∃ F, BxC w ty g s F ∧ ∀ k, F k → lo ≤ k ∧ k < hi
theorem BxI.ext {lo hi : Nat} {w w' : World} {ty : TypeId} {g : Nat} {s : BSt} (h : BxI lo hi w ty g s) (x : Ext w w') : BxI lo hi w' ty g s := by
  obtain ⟨F, h1, h2⟩ := h; exact ⟨F, h1.ext x, h2⟩
theorem BxI.keep {lo hi lo' hi' : Nat} {w w' : World} {ty : TypeId} {g : Nat} {s : BSt} (h : BxI lo hi w ty g s) (k : Kept (fun i => lo' ≤ i ∧ i < hi') w w') (hh : hi' ≤ lo) : BxI lo hi w' ty g s := by
  obtain ⟨F, h1, h2⟩ := h; exact ⟨F, h1.kept k (fun i hi e => by have := h2 i hi; omega), h2⟩
theorem BxO.toI {w0 w : World} {ty : TypeId} {g : Nat} {s : BSt} (h : BxO w0 w ty g s) : BxI w0.heap.size w.heap.size w ty g s := by
  obtain ⟨F, h1, _, h3⟩ := h; exact ⟨F, h1, fun k hk => ⟨h3 k hk, h1.lt k hk⟩⟩
theorem take_i {lo hi : Nat} {w : World} {g : Nat} {l : List Fi} {b : Bool} (h : BxI lo hi w 58 g (BSt.new l)) (f : Fr) (hf : f.ok) (hb : tk l f = b) : Calls Try.prog 18 #[.pointer (some ⟨g, 0, none⟩), .agg f.vals.toArray] w fun e w' => e = .returned (.bool b) ∧ Kept (fun k => lo ≤ k ∧ k < hi) w w' := by
  obtain ⟨F, h1, h2⟩ := h
  refine (take_any h1 f hf).mono fun e w' ⟨a, F', _, k, _⟩ => ⟨?_, k.mono (fun i _ e => h2 i e)⟩
  rw [take_new, hb] at a; exact a
theorem fill_fi (f : Fi) (z : Value) (hz : z.cells.size = 3) : Instr.fill (fun i => some (i * 3, 3)) ((Array.range (1 * 3)).map (z.cells[· % z.cells.size]!)) [(0, .agg f.vals.toArray)] = some f.vals.toArray := by
  rw [hz]
  generalize z.cells = cs
  kernel_rfl
theorem wpList_bsFi {w : World} {ops : Array Oper} {rest : List Oper} {o : Oper} {a : Act} {Q : Exit → Act → World → Prop} {f : Fi} (hgd : o.guard = none) (x : Operand) (ho : o.op = .buildSlice 22 1 #[(0, x)]) (hx : a.eval x = .agg f.vals.toArray)
    (h : wpList Try.prog ops Q rest (a.put o.dst (.slice (some ⟨w.heap.size, 0, none⟩) 1 1)) (w.alloc (.cells f.vals.toArray 53))) : wpList Try.prog ops Q (o :: rest) a w := by
  obtain ⟨i, hi, hz, hsize, hby⟩ := el22.info
  refine wpList_buildSlice hgd 22 53 1 #[(0, x)] ho f.vals.toArray i _ Try.underlying22 hi hz (by rw [hsize]; decide) (by rw [hsize]; decide) ?_ h
  rw [hsize]
  simp only [List.map_toArray, List.map_cons, List.map_nil, hx]
  exact fill_fi f _ rfl
theorem new_ok1 {x : Fi} (h : x.ok) : ∀ y ∈ [x], y.ok := by intro y hy; simp at hy; subst hy; exact h
theorem any_take {l : List Fi} {k : Nat} {x : Fi} {f : Fr} (hx : l[k]? = some x) : tk (l.take (k + 1)) f = (tk [x] f || tk (l.take k) f) := by
  unfold tk
  rw [List.take_add_one, hx]
  simp only [List.any_append, Option.toList, List.any_cons, List.any_nil, Bool.or_false]
  cases f.may <;> simp [Bool.or_comm]
theorem shows_fi2 {w : World} {f h : Fi} (t : TypeId) : Shows (w.alloc (.cells (f.vals ++ h.vals).toArray t)) 3 (some ⟨w.heap.size, 0, none⟩) 2 (fis [f, h]) := by
  have e : fis [f, h] = f.vals ++ h.vals := by simp [fis]
  rw [e]
  exact ⟨rfl, fun _ => ⟨_, rfl, by simp, World.news_of_block (heap_alloc_new w _)⟩⟩
set_option maxHeartbeats 8000000 in
theorem filters_law (w : World) (A : Option Addr) (n c : Nat) (l : List Fi) (hnc : n ≤ c) (hcm : c ≤ maxLen) (hnl : n = l.length) (sh : Shows w 3 A n (fis l)) (ok : ∀ a ∈ l, a.ok) (f : Fr) (hf : f.ok) :
    Calls Try.prog 6 #[.slice A n c, .agg f.vals.toArray] w fun e w' => e = .returned (.bool true) ∧ Ext w w' := by
  obtain ⟨m, hm0⟩ : ∃ m, m = min n 8 := ⟨_, rfl⟩
  have hmc : m ≤ c := by omega
  have hm8 : m ≤ 8 := by omega
  have hmin : (if (8 : Int) < n then (8 : Int) else n) = m := by rw [hm0]; split <;> omega
  have sm := sh.take (k := m) (by omega)
  rw [fis_take] at sm
  have hml : m = (l.take m).length := by rw [List.length_take]; omega
  have hok : ∀ x ∈ l.take m, Fi.ok x := fun x hx => ok x (List.mem_of_mem_take hx)
  clear hm0 sh ok hnl hnc
  unfold maxLen at hcm
  generalize l.take m = ys at sm hml hok
  obtain ⟨w0, hw0⟩ : ∃ V, V = w.alloc (.cells f.vals.toArray 37) := ⟨_, rfl⟩
  have k0 : w0.heap[w.heap.size]? = some (.cells f.vals.toArray 37 (0, 0)) := by rw [hw0]; exact heap_alloc_new _ _
  have x0 : Ext w w0 := by rw [hw0]; exact (Ext.refl _).alloc _
  have HM := Lib.hid hml
  clear hml
  go_enter Try.func6, Try.ntmps6
  go_upto_region 1 with (fail)
  rw [← hw0]
  clear hw0
  go_upto_region 3 with (go_at_call 9; (refine (shown_any _).mono ?_); rintro e w1 ⟨rfl, x1⟩)
  go_upto_region 7 with (go_at_call 10; (refine (new_o (w0 := w1) _ _ _ ys _ (Ext.refl _) (sm.ext (x0.trans x1)) HM.out (by omega) hok).mono ?_); rintro e w2 ⟨g, rfl, L2⟩)
  have k2 := (((x1.trans L2.x).block _ (blk_lt k0))).trans k0
  have s2 := sm.ext ((x0.trans x1).trans L2.x)
  have hw2 := Lib.hid (show w.heap.size < w2.heap.size from blk_lt k2)
  go_wp2
  go_loopw [9, 40] (fun a i wr => ∃ k : Nat, i = .int .i64 k ∧ k ≤ m ∧ a = .bool (tk (ys.take k) f) ∧ Ext w2 wr) (fun _ i _ => m - (intOf i).toNat)
  case atStart => exact ⟨0, rfl, by omega, by simp [tk], Ext.refl _⟩
  case round =>
    obtain ⟨k, rfl, hk, rfl, x⟩ := hrel
    by_cases hlt : k < m
    · have hkm : (k : Int) < m := by omega
      have hy : ys[k]? = some _ := List.getElem?_eq_getElem (by have := HM.out; omega)
      have hyo := hok _ (List.mem_of_getElem? hy)
      generalize ys[k] = y at hy hyo
      obtain ⟨b, o, rfl, hb, hr⟩ := Shows.fi (s2.ext x) HM.out hy
      have HT := Lib.hid (any_take (f := f) hy)
      obtain ⟨any, hany⟩ : ∃ any, any = tk (ys.take k) f := ⟨_, rfl⟩
      have HA := Lib.hid hany
      rw [← hany]
      clear hy hany
      have hmf := take_new [y] f
      obtain ⟨one, hone⟩ : ∃ one, tk [y] f = one := ⟨_, rfl⟩
      have HO := Lib.hid hone
      clear hmf hone
      go_upto_region 10 with (first | refine wpList_load_mid rfl 53 _ rfl _ _ rfl y.vals _ hr Try.underlying53 rfl size53 ?_ | refine wpList_stnew rfl 53 _ _ rfl rfl y.vals rfl rfl size53 rfl (fi_one y) ?_)
      obtain ⟨w3, hw3⟩ : ∃ V, V = wr.alloc (.cells y.vals.toArray 53) := ⟨_, rfl⟩
      have k3 : w3.heap[wr.heap.size]? = some (.cells y.vals.toArray 53 (0, 0)) := by rw [hw3]; exact heap_alloc_new _ _
      have x3 : Ext wr w3 := by rw [hw3]; exact (Ext.refl _).alloc _
      rw [← hw3]
      clear hw3 hr
      go_upto_region 13 with (first
        | refine wpList_ldrow rfl 53 _ rfl k3 rfl Try.underlying53 rfl size53 ?_
        | refine wpList_bsFi (f := y) rfl _ rfl rfl ?_
        | (go_at_call 10; (refine (new_o (w0 := w3) _ _ _ [y] _ ((Ext.refl _).alloc _) (shows_fi (f := y) 53) rfl (by decide) (new_ok1 hyo)).mono ?_); rintro e w4 ⟨g1, rfl, L4⟩))
      have xx := (x.trans x3).trans L4.x
      have k4 := (xx.block _ (blk_lt k2)).trans k2
      have hl4 := blk_lt k4
      have x34 := x3.trans L4.x
      cases one
      · cases any
        · go_wp2_with (first | refine wpList_ldrow rfl 37 _ rfl k4 rfl Try.underlying37 rfl size37 ?_ | (go_at_call 18; (refine (take_i L4.toI f hf HO.out).mono ?_); rintro e w5 ⟨rfl, kp⟩))
          go_roundw
          case rel => exact ⟨k + 1, by go_num, by omega, by rw [HT.out, HO.out, ← HA.out]; rfl, (x.trans x34).kept kp (fun i hi => by have := x3.size; have := x.size; omega)⟩
          case measure => simp [intOf]; omega
        · go_wp2_with (first | refine wpList_ldrow rfl 37 _ rfl k4 rfl Try.underlying37 rfl size37 ?_ | (go_at_call 18; (refine (take_i L4.toI f hf HO.out).mono ?_); rintro e w5 ⟨rfl, kp⟩))
          go_roundw
          case rel => exact ⟨k + 1, by go_num, by omega, by rw [HT.out, HO.out, ← HA.out]; rfl, (x.trans x34).kept kp (fun i hi => by have := x3.size; have := x.size; omega)⟩
          case measure => simp [intOf]; omega
      · go_wp2_with (first | refine wpList_ldrow rfl 37 _ rfl k4 rfl Try.underlying37 rfl size37 ?_ | (go_at_call 18; (refine (take_i L4.toI f hf HO.out).mono ?_); rintro e w5 ⟨rfl, kp⟩))
        go_roundw
        case rel => exact ⟨k + 1, by go_num, by omega, by rw [HT.out, HO.out, ← HA.out]; rfl, (x.trans x34).kept kp (fun i hi => by have := x3.size; have := x.size; omega)⟩
        case measure => simp [intOf]; omega
    · obtain rfl : k = m := by omega
      have hfull : ys.take k = ys := List.take_of_length_le (by have := HM.out; omega)
      rw [hfull]
      obtain ⟨any, hany⟩ : ∃ any, tk ys f = any := ⟨_, rfl⟩
      rw [hany]
      have HA := Lib.hid hany
      clear hany hfull
      have kr := (x.block _ (blk_lt k2)).trans k2
      obtain ⟨g0, g1⟩ := fr_01 (frAt kr)
      have Lr := (L2.ext x).toI
      have of1 := fi_ok 0 0 f.ext (by omega)
      have of2 := fi_ok 4294967295 f.id f.ext ⟨by omega, hf⟩
      have of3 : ∀ y ∈ [(⟨4294967295, bits .xor .u32 f.id 1, f.ext⟩ : Fi), ⟨0, 0, !f.ext⟩], y.ok := by
        have hb := xor_bd f.id 1 hf (by omega)
        intro y hy
        simp at hy
        rcases hy with rfl | rfl
        · exact ⟨by simp, hb⟩
        · exact ⟨by simp, by simp⟩
      have OF1 := Lib.hid of1
      have OF2 := Lib.hid of2
      have OF3 := Lib.hid of3
      have x01 := (x0.trans x1).trans L2.x
      have hs0 := x0.size
      have hw1 : w.heap.size < w1.heap.size := blk_lt ((x1.block _ (blk_lt k0)).trans k0)
      have hs1 := L2.x.size
      have hs2 := x.size
      clear of1 of2 of3 s2 sm k0 k2
      go_upto_region 16 with (go_at_call 10; (refine (new_o (w0 := wr) _ _ _ [⟨0, 0, f.ext⟩] _ ((Ext.refl _).alloc _) (shows_fi (f := ⟨0, 0, f.ext⟩) 53) rfl (by decide) OF1.out).mono ?_); rintro e w6 ⟨g6, rfl, L6⟩)
      have k6 := (L6.x.block _ (blk_lt kr)).trans kr
      clear g0 g1
      obtain ⟨g0, g1⟩ := fr_01 (frAt k6)
      go_upto_region 17 with (go_at_call 10; (refine (new_o (w0 := w6) _ _ _ [⟨4294967295, f.id, f.ext⟩] _ ((Ext.refl _).alloc _) (shows_fi (f := ⟨4294967295, f.id, f.ext⟩) 53) rfl (by decide) OF2.out).mono ?_); rintro e w7 ⟨g7, rfl, L7⟩)
      have k7 := (L7.x.block _ (blk_lt k6)).trans k6
      clear g0 g1
      obtain ⟨g0, g1⟩ := fr_01 (frAt k7)
      go_upto_region 18 with (go_at_call 10; (refine (new_o (w0 := w7) _ _ _ [⟨4294967295, bits .xor .u32 f.id 1, f.ext⟩, ⟨0, 0, !f.ext⟩] _ ((Ext.refl _).alloc _) (shows_fi2 (f := ⟨4294967295, bits .xor .u32 f.id 1, f.ext⟩) (h := ⟨0, 0, !f.ext⟩) 53) rfl (by decide) OF3.out).mono ?_); rintro e w8 ⟨g8, rfl, L8⟩)
      have k8 := (L8.x.block _ (blk_lt k7)).trans k7
      clear g0 g1
      go_upto_region 19 with (first | refine wpList_ldrow rfl 37 _ rfl k8 rfl Try.underlying37 rfl size37 ?_ | (go_at_call 28; (refine (rmay_fr f _).mono ?_); rintro e w9 ⟨rfl, x9⟩))
      have k9 := (x9.block _ (blk_lt k8)).trans k8
      have s6 := L6.x.size
      have s7 := L7.x.size
      have s8 := L8.x.size
      have I0 := Lib.hid ((((Lr.ext L6.x).ext L7.x).ext L8.x).ext x9)
      have I6 := Lib.hid (((L6.toI.ext L7.x).ext L8.x).ext x9)
      have I7 := Lib.hid ((L7.toI.ext L8.x).ext x9)
      have I8 := Lib.hid (L8.toI.ext x9)
      have X9 := Lib.hid (((((x01.trans x).trans L6.x).trans L7.x).trans L8.x).trans x9)
      obtain ⟨may, hmay⟩ : ∃ may, f.may = may := ⟨_, rfl⟩
      have t1 := Lib.hid (tk_all f hf)
      have t2 := Lib.hid (tk_own f hf)
      have t3 := Lib.hid (tk_other f hf)
      rw [hmay] at t1 t2 ⊢
      clear hmay Lr L6 L7 L8 x9 x k6 k7 k8 kr x01 x1 x0 L2
      have hfin : ((any == any) && ((may == may) && ((may == may) && true))) = true := by simp
      go_wp2_with (first
        | refine wpList_ldrowG rfl 37 _ rfl k12 rfl Try.underlying37 rfl size37 ?_
        | refine wpList_ldrowG rfl 37 _ rfl k11 rfl Try.underlying37 rfl size37 ?_
        | refine wpList_ldrowG rfl 37 _ rfl k10 rfl Try.underlying37 rfl size37 ?_
        | refine wpList_ldrowG rfl 37 _ rfl k9 rfl Try.underlying37 rfl size37 ?_
        | (go_at_call 18; (refine (take_i J8b.out f hf t3.out).mono ?_); rintro e w13 ⟨rfl, kp13⟩)
        | (go_at_call 18; (refine (take_i J7.out f hf t2.out).mono ?_); rintro e w12 ⟨rfl, kp12⟩; have J8b := Lib.hid (J8a.out.keep kp12 (by omega)); have k12 := kp12.blk k11 (by omega))
        | (go_at_call 18; (refine (take_i J6.out f hf t1.out).mono ?_); rintro e w11 ⟨rfl, kp11⟩; have J7 := Lib.hid (J7a.out.keep kp11 (by omega)); have J8a := Lib.hid (J8.out.keep kp11 (by omega)); have k11 := kp11.blk k10 (by omega))
        | (go_at_call 18; (refine (take_i I0.out f hf HA.out).mono ?_); rintro e w10 ⟨rfl, kp10⟩; have J6 := Lib.hid (I6.out.keep kp10 (by omega)); have J7a := Lib.hid (I7.out.keep kp10 (by omega)); have J8 := Lib.hid (I8.out.keep kp10 (by omega)); have k10 := kp10.blk k9 (by omega)))
      go_ret
      refine ⟨by simp, ?_⟩
      exact (((X9.out.kept kp10 (fun i hi => by omega)).kept kp11 (fun i hi => by omega)).kept kp12 (fun i hi => by omega)).kept kp13 (fun i hi => by omega)
theorem BoxFilters_law (w : World) (A : Option Addr) (n c : Nat) (l : List Fi) (hnc : n ≤ c) (hcm : c ≤ maxLen) (hnl : n = l.length) (sh : Shows w 3 A n (fis l)) (ok : ∀ a ∈ l, a.ok) (id : Int) (ext : Bool) (len b0 b1 b2 b3 b4 b5 b6 b7 : Int) (h0 : 0 ≤ id) (h1 : id < 4294967296) :
    Calls Try.prog 6 #[.slice A n c, .agg #[.int .u32 id, .bool ext, .int .i64 len, .int .u8 b0, .int .u8 b1, .int .u8 b2, .int .u8 b3, .int .u8 b4, .int .u8 b5, .int .u8 b6, .int .u8 b7]] w fun e w' => e = .returned (.bool true) ∧ Ext w w' :=
  filters_law w A n c l hnc hcm hnl sh ok ⟨id, ext, len, b0, b1, b2, b3, b4, b5, b6, b7⟩ ⟨h0, h1⟩
end Go.Proofs.Ytdikhpifamjalaa
