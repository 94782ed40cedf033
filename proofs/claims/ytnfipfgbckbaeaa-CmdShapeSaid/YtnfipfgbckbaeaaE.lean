import Derived.Test.YtnfipfgbckbaeaaD
set_option linter.unusedVariables false
namespace Go.Proofs.Ytnfipfgbckbaeaa
open Go.RowKit
theorem size5 (w : World) : (sizeOf 5).run Try.prog w = .ok 1 w := by kernel_rfl
/-- x[lo:] of bytes. -/
theorem wpList_drop {w w1 : World} {ops : Array Oper} {rest : List Oper} {o : Oper} {a : Act} {Q : Exit → Act → World → Prop} (hgd : o.guard = none) (x lo : Operand) (ho : o.op = .slice 24 x (some lo) none none)
    {A : Option Addr} {n cp : Nat} {bs : List Int} (k m cc : Nat) (hx : a.eval x = .slice A n cp) (hlo : a.eval lo = .int .i64 k) (hr : Rd w1 A n bs) (hm : n = m + k) (hcc : cp = cc + k) (hc : m ≤ cc)
    (h : ∀ A', Rd w1 A' m (bs.drop k) → wpList Try.prog ops Q rest (a.put o.dst (.slice A' m cc)) w) : wpList Try.prog ops Q (o :: rest) a w := by
  subst hm hcc
  refine wpList_plain hgd fun _ hK => ?_
  have hrun : (Instr.sliceAt 24 (.slice A (m + k) (cc + k)) (some (.int .i64 k)) none none).run Try.prog w = .ok (.slice (if cc + k = k then A else A.map (·.add k)) (m + k - k) (cc + k - k)) w := by
    rw [run_sliceAt_slice _ _ _ _ _ _ Try.underlying24]
    have hb := run_sliceBound (P := Try.prog) w .i64 (k : Int) (m + k) .sliceB (by omega) (by omega)
    simp [Instr.slice, run_underlying Try.underlying24, Instr.sliceBounds, hb]
  unfold Oper.wp execOp
  simp only [ho, Sem.run_bind, Sem.run_pure, Result.andThen_ok, Option.map, hx, hlo, hrun]
  have h2 := hr.drop (k := k) (cap := cc + k) (by omega) (by omega)
  rw [Nat.add_sub_cancel] at h2 ⊢
  rw [Nat.add_sub_cancel]
  exact hK _ _ (h _ h2)
theorem splice5 (c : Int) (x y : Value) : ∀ (xs : List Int), xs.length ≤ 5 → splice [.int .u8 c, .int .u8 0, .int .u8 0, .int .u8 0, .int .u8 0, .int .u8 0, x, y] 1 (u8s xs) = .int .u8 c :: (u8s (xs ++ List.replicate (5 - xs.length) 0) ++ [x, y])
  | [], _ => rfl
  | [_], _ => rfl
  | [_, _], _ => rfl
  | [_, _, _], _ => rfl
  | [_, _, _, _], _ => rfl
  | [_, _, _, _, _], _ => rfl
  | _ :: _ :: _ :: _ :: _ :: _ :: _, h => by simp at h
def al5 (c : Int) (r : List Int) : List Int := r.take (sm c) ++ List.replicate (5 - sm c) 0
def wOf (c : Int) (r : List Int) : Int := if gr c then takeTo (r.drop (sm c)) 4 true 4 else 0
def r3 (c : Int) (r : List Int) : List Int := if gr c then (r.drop (sm c)).drop 4 else r.drop (sm c)
def nn (c : Int) (r : List Int) : Nat := nbC c ((al5 c r).getD 0 0)
def errOf : List Int → Option Int
  | [] => some 5
  | c :: r => if !ok c then some 1 else if r.length < sm c then some 5 else if gr c && decide ((r.drop (sm c)).length < 4) then some 5 else if (r3 c r).length < nn c r then some 5 else none
def TakeP (bs : List Int) (w : World) (e : Ending) (w' : World) : Prop :=
  (∃ er, errOf bs = some er ∧ e = .returned (.tuple #[.agg #[.int .u8 0, .int .u8 0, .int .u8 0, .int .u8 0, .int .u8 0, .int .u8 0, .int .u32 0, .slice none 0 0], .int .i64 er]) ∧ Ext w w') ∨
  (errOf bs = none ∧ ∃ c r a0 a1 a2 a3 a4 A' c', bs = c :: r ∧ al5 c r = [a0, a1, a2, a3, a4] ∧ e = .returned (.tuple #[.agg #[.int .u8 c, .int .u8 a0, .int .u8 a1, .int .u8 a2, .int .u8 a3, .int .u8 a4, .int .u32 (wOf c r), .slice A' (nn c r) c'], .int .i64 0]) ∧ nn c r ≤ c' ∧ c' ≤ maxLen ∧ Ext w w' ∧ Rd w' A' (nn c r) ((r3 c r).take (nn c r)) ∧ ∀ ad, A' = some ad → w.heap.size ≤ ad.block)
theorem list5 {α : Type} : ∀ {l : List α}, l.length = 5 → ∃ x0 x1 x2 x3 x4, l = [x0, x1, x2, x3, x4]
  | [x0, x1, x2, x3, x4], _ => ⟨x0, x1, x2, x3, x4, rfl⟩
theorem al5_len (c : Int) (r : List Int) (h : sm c ≤ r.length) : (al5 c r).length = 5 := by have := sm_le c; simp [al5]; omega
theorem al5_byts (c : Int) {r : List Int} (h : Byts r) : Byts (al5 c r) := Byts.append (fun b hb => h b (List.mem_of_mem_take hb)) (by intro b hb; have := List.eq_of_mem_replicate hb; omega)
theorem take32 {bs : List Int} (h : Byts bs) : 0 ≤ takeTo bs 4 true 4 ∧ takeTo bs 4 true 4 < 4294967296 := by
  have := takeTo_t h 4 4 (by omega)
  obtain ⟨a, b, _⟩ := this
  simp at b
  exact ⟨a, by omega⟩
theorem take4 (A : Option Addr) (n c : Nat) (bs : List Int) (w : World) (hr : Rd w A n bs) (hn : n ≤ 1000) (hnc : n ≤ c) (hle : (4 : Int) ≤ n) :
    Calls Try.prog 23 #[.slice A n c, .int .i64 4, .bool true] w fun e w' => ∃ A' c', e = .returned (.tuple #[.int .u64 (takeTo bs 4 true 4), .slice A' (n - 4) c', .int .i64 0]) ∧ n - 4 ≤ c' ∧ c' ≤ maxLen ∧ Ext w w' ∧ Rd w' A' (n - 4) (bs.drop 4) ∧ ∀ ad, A' = some ad → w.heap.size ≤ ad.block :=
  take_anyF A n c bs 4 true w hr hn hnc rfl hle
theorem rtake4 (A : Option Addr) (n c : Nat) (bs : List Int) (w : World) (hr : Rd w A n bs) (hn : n ≤ 1000) (hnc : n ≤ c) (hle : (4 : Int) ≤ n) :
    Calls Try.prog 25 #[.slice A n c, .int .i64 4, .bool true] w fun e w' => ∃ A' c', e = .returned (.tuple #[.int .u64 (takeTo bs 4 true 4), .slice A' (n - 4) c', .int .i64 0]) ∧ n - 4 ≤ c' ∧ c' ≤ maxLen ∧ Ext w w' ∧ Rd w' A' (n - 4) (bs.drop 4) ∧ ∀ ad, A' = some ad → w.heap.size ≤ ad.block :=
  rtake_anyF A n c bs 4 true w hr hn hnc rfl hle
theorem take4no (A : Option Addr) (n c : Nat) (w : World) (hlt : (n : Int) < 4) :
    Calls Try.prog 23 #[.slice A n c, .int .i64 4, .bool true] w fun e w' => e = .returned (.tuple #[.int .u64 0, .slice none 0 0, .int .i64 5]) ∧ w = w' := take_no5 A n c 4 true w rfl hlt
theorem rtake4no (A : Option Addr) (n c : Nat) (w : World) (hlt : (n : Int) < 4) :
    Calls Try.prog 25 #[.slice A n c, .int .i64 4, .bool true] w fun e w' => e = .returned (.tuple #[.int .u64 0, .slice none 0 0, .int .i64 5]) ∧ w = w' := rtake_no5 A n c 4 true w rfl hlt
theorem r3_f {c : Int} {r : List Int} (h : gr c = false) : r3 c r = r.drop (sm c) := by simp [r3, h]
theorem r3_t {c : Int} {r : List Int} (h : gr c = true) : r3 c r = (r.drop (sm c)).drop 4 := by simp [r3, h]
theorem wOf_f {c : Int} {r : List Int} (h : gr c = false) : wOf c r = 0 := by simp [wOf, h]
theorem wOf_t {c : Int} {r : List Int} (h : gr c = true) : wOf c r = takeTo (r.drop (sm c)) 4 true 4 := by simp [wOf, h]
theorem rd_set {w : World} {A : Option Addr} {n : Nat} {bs : List Int} {p : Addr} {v : Value} (h : Rd w A n bs) (hb : ∀ ad, A = some ad → ad.block ≠ p.block) : Rd (w.setCell p v) A n bs := by
  refine ⟨⟨h.shows.1, fun hn => ?_⟩, h.byts⟩
  obtain ⟨ad, e, hlt, hc⟩ := h.shows.2 hn
  refine ⟨ad, e, by simpa using hlt, fun j u hu => ?_⟩
  rw [World.cell?_setCell_far _ _ _ _ (by rw [block_add]; exact (hb ad e).symm)]
  exact hc j u hu
theorem nb_le (s m : Nat) (a : Int) (h : m ≤ 7) : nb s m a ≤ 7 := by unfold nb; split <;> omega
def Part3 (c : Int) (r al : List Int) (g8 : Nat) (v9 : Value) (W1 wr : World) : Prop :=
  ∃ A3 m3 c3, v9 = .slice A3 m3 c3 ∧ m3 ≤ c3 ∧ Rd wr A3 m3 (r3 c r) ∧ wr.heap[g8]? = some (.cells (.int .u8 c :: (u8s al ++ [.int .u32 (wOf c r), .slice none 0 0])).toArray 26 (0, 0)) ∧ Ext W1 wr
set_option maxHeartbeats 2000000 in
theorem take_walk (A : Option Addr) (n cp : Nat) (bs : List Int) (w : World) (hr : Rd w A n bs) (hnc : n ≤ cp) (hc : cp ≤ maxLen) (hn : n ≤ 100) :
    Calls Try.prog 14 #[.slice A n cp] w fun e w' => TakeP bs w e w' := by
  have hl := hr.len
  rcases bs with _ | ⟨c, r⟩
  · obtain rfl : n = 0 := by simpa using hl.symm
    go_enter Try.func14, Try.ntmps14
    go_wp2
    refine bodyPost_ret (results_row2 rfl rfl (blk_new rfl) Try.underlying26 rfl (by kernel_rfl)) rfl (.inl ⟨5, rfl, rfl, (Ext.refl _).alloc _⟩)
  · have hlr : r.length + 1 = n := by simpa using hl
    obtain ⟨c0, c1⟩ := hr.byts c (by simp)
    have hbr : Byts r := fun b hb => hr.byts b (by simp [hb])
    obtain ⟨bb, off, rfl, hbb, hcell⟩ := hr.cell (k := 0) (by omega)
    have hcell' : w.cell? ⟨bb, off, none⟩ = some (.int .u8 c) := hcell
    clear hcell
    have hn0 : (0 : Int) < n := by omega
    have hnb : ((n : Int) == 0) = false := by simp; omega
    have s5 := sm_le c
    have HL := Lib.hid hlr
    clear hl hlr
    go_enter Try.func14, Try.ntmps14
    go_upto_region 3 with (fail)
    obtain ⟨W1, hW1⟩ : ∃ V, V = w.alloc (.cells #[.int .u8 0, .int .u8 0, .int .u8 0, .int .u8 0, .int .u8 0, .int .u8 0, .int .u32 0, .slice none 0 0] 26) := ⟨_, rfl⟩
    rw [← hW1]
    have v1 : Ext w W1 := by rw [hW1]; exact (Ext.refl _).alloc _
    have K0 : W1.heap[w.heap.size]? = some (.cells #[.int .u8 0, .int .u8 0, .int .u8 0, .int .u8 0, .int .u8 0, .int .u8 0, .int .u32 0, .slice none 0 0] 26 (0, 0)) := by rw [hW1]; exact heap_alloc_new _ _
    clear hW1
    have hc1 : W1.cell? ⟨bb, off, none⟩ = some (.int .u8 c) := (Below.cell v1 (p := ⟨bb, off, none⟩) hbb).trans hcell'
    have hr1 := hr.ext v1
    clear hr
    rcases hok : ok c with _ | _
    · have hE : errOf (c :: r) = some 1 := by simp [errOf, hok]
      have HE := Lib.hid hE; clear hE
      go_upto_region 5 with (go_at_call 11; (with_reducible refine (shape_any _ _ c0 c1).mono ?_); rintro e w1 ⟨rfl, rfl⟩)
      go_wp2_with (refine wpList_strow rfl 26 (.tmp 2) (.tmp 29) rfl K0 rfl rfl (by kernel_rfl) rfl (by simp [Value.oneCell']) ?_; intro w9 hg9 hw9)
      refine bodyPost_ret (results_row2 rfl rfl hg9.out Try.underlying26 rfl (by kernel_rfl)) rfl (.inl ⟨_, HE.out, rfl, v1.of_grown hw9 (fun k hk => by simp at hk; omega)⟩)
    · have HOK := Lib.hid hok
      go_upto_region 7 with (go_at_call 11; (with_reducible refine (shape_any _ _ c0 c1).mono ?_); rintro e w1 ⟨rfl, rfl⟩)
      obtain ⟨W2, hW2⟩ : ∃ V, V = W1.alloc (.cells #[.int .u8 c, .int .u8 0, .int .u8 0, .int .u8 0, .int .u8 0, .int .u8 0, .int .u32 0, .slice none 0 0] 26) := ⟨_, rfl⟩
      rw [← hW2]
      have e2 : Ext W1 W2 := by rw [hW2]; exact (Ext.refl _).alloc _
      have K2 : W2.heap[W1.heap.size]? = some (.cells #[.int .u8 c, .int .u8 0, .int .u8 0, .int .u8 0, .int .u8 0, .int .u8 0, .int .u32 0, .slice none 0 0] 26 (0, 0)) := by rw [hW2]; exact heap_alloc_new _ _
      clear hW2 hc1 hcell'
      have hg8 := v1.size
      generalize hgg : W1.heap.size = g8 at *
      have HG8 := Lib.hid hgg
      clear hgg
      have hlr := HL.out
      obtain ⟨m, hm⟩ : ∃ m, m = r.length := ⟨_, rfl⟩
      obtain ⟨cc, hcc⟩ : ∃ cc, cp = cc + 1 := ⟨cp - 1, by omega⟩
      have hmc : m ≤ cc := by omega
      have hmn : n = m + 1 := by omega
      subst hmn hcc
      have HM := Lib.hid hm
      clear hm hlr HL
      go_upto_region 8 with (refine wpList_drop rfl (.tmp 34) (.const (.int .i64 1)) rfl 1 m cc rfl rfl hr1 rfl rfl hmc ?_; intro A1 r1)
      by_cases h3 : (m : Int) < sm c
      · have hE : errOf (c :: r) = some 5 := by simp [errOf, hok, show r.length < sm c by have := HM.out; omega]
        have HE := Lib.hid hE; clear hE
        have K02 := (e2.block _ (blk_lt K0)).trans K0
        have v2 := v1.trans e2
        go_wp2_with (refine wpList_strow rfl 26 (.tmp 2) (.tmp 40) rfl K02 rfl rfl (by kernel_rfl) rfl (by simp [Value.oneCell']) ?_; intro w9 hg9 hw9)
        refine bodyPost_ret (results_row2 rfl rfl hg9.out Try.underlying26 rfl (by kernel_rfl)) rfl (.inl ⟨_, HE.out, rfl, v2.of_grown hw9 (fun k hk => by simp at hk; omega)⟩)
      · have hs0 : (0 : Int) ≤ sm c := by omega
        have hs5 : (sm c : Int) ≤ 5 := by omega
        have hsm : sm c ≤ m := by omega
        have hrl : Rd W1 A1 m r := r1
        have hal := al5_byts c hbr
        have hal5 := al5_len c r (by have := HM.out; omega)
        obtain ⟨a0, a1, a2, a3, a4, hAL⟩ := list5 hal5
        have hsp := splice5 c (.int .u32 0) (.slice none 0 0) (r.take (sm c)) (by simp; omega)
        have hlt : (r.take (sm c)).length = sm c := by have := HM.out; simp; omega
        rw [hlt, show r.take (sm c) ++ List.replicate (5 - sm c) 0 = al5 c r from rfl, hAL] at hsp
        have HSP := Lib.hid hsp
        have HAL := Lib.hid hAL
        have HLT := Lib.hid hlt
        rw [hAL] at hal
        clear hsp hlt hal5 hAL
        go_upto_region 11 with (refine wpList_copy_splice rfl (.tmp 43) (.tmp 44) 24 24 rfl 5 Try.underlying24 (by kernel_rfl) _ _ _ _ _ _ rfl rfl g8 1 [.int .u8 c, .int .u8 0, .int .u8 0, .int .u8 0, .int .u8 0, .int .u8 0, .int .u32 0, .slice none 0 0] 26 K2 (u8s (r.take (sm c))) (by show _ = min _ _; rw [u8s, List.length_map, HLT.out]; omega) (fun hp => ⟨rfl, ?src⟩) (by simp only [u8s, List.length_map, HLT.out, List.length_cons, List.length_nil]; omega) (u8s_one _) g8 W1 (by rw [← HG8.out]; exact e2) (Nat.le_refl _) ?_)
        case src =>
          obtain ⟨ad, e, _, hc⟩ := ((hrl.ext e2).take hsm).shows.2 (by rw [u8s, List.length_map, HLT.out] at hp; omega)
          exact ⟨ad, e, hc⟩
        intro w4 hg4 hb4
        have hx4 : Ext W1 w4 := by rw [← HG8.out] at hb4; exact hb4
        have K4 : w4.heap[g8]? = some (.cells #[.int .u8 c, .int .u8 a0, .int .u8 a1, .int .u8 a2, .int .u8 a3, .int .u8 a4, .int .u32 0, .slice none 0 0] 26 (0, 0)) := by
          rw [hg4.out, HSP.out]; rfl
        have K04 := (hx4.block _ (blk_lt K0)).trans K0
        have v4 := v1.trans hx4
        have K0' := K0
        clear hg4 hb4 K2 e2 K0
        obtain ⟨m2, hm2⟩ : ∃ m2, m = m2 + sm c := ⟨m - sm c, by omega⟩
        obtain ⟨c2, hc2⟩ : ∃ c2, cc = c2 + sm c := ⟨cc - sm c, by omega⟩
        have hmc2 : m2 ≤ c2 := by omega
        have HM2 := Lib.hid hm2
        have HC2 := Lib.hid hc2
        go_upto_if 49 with (refine wpList_drop rfl (.tmp 46) (.tmp 47) rfl (sm c) m2 c2 rfl rfl hrl HM2.out HC2.out hmc2 ?_; intro A2 r2)
        have h6 : Ext W1 W1 := Ext.refl _
        have hlen2 : (r.drop (sm c)).length = m2 := by rw [List.length_drop]; have := HM.out; have := HM2.out; omega
        have HLEN2 := Lib.hid hlen2; clear hlen2
        have HOKs := Lib.hid (show ¬ r.length < sm c by have := HM.out; omega)
        by_cases h4 : gr c = true ∧ (m2 : Int) < 4
        · obtain ⟨hg, h4'⟩ := h4
          have hE : errOf (c :: r) = some 5 := by simp [errOf, HOK.out, HOKs.out, hg, HLEN2.out, show m2 < 4 by omega]
          have HE := Lib.hid hE; clear hE
          rw [hg]
          go_upto_region 15 with (go_at_call 23; (with_reducible refine (take4no _ _ _ _ h4').mono ?_); rintro e w5 ⟨rfl, rfl⟩)
          go_wp2_with (refine wpList_strow rfl 26 (.tmp 2) (.tmp 58) rfl K04 rfl rfl (by kernel_rfl) rfl (by simp [Value.oneCell']) ?_; intro w9 hg9 hw9)
          refine bodyPost_ret (results_row2 rfl rfl hg9.out Try.underlying26 rfl (by kernel_rfl)) rfl (.inl ⟨_, HE.out, rfl, v4.of_grown hw9 (fun k hk => by simp at hk; omega)⟩)
        · have H4 := Lib.hid h4; clear h4
          have H3E := Lib.hid (show ¬ (gr c && decide ((r.drop (sm c)).length < 4)) = true by rw [HLEN2.out]; intro h; simp at h; exact H4.out ⟨h.1, by omega⟩)
          have HGR : Hid (gr c = true → (4 : Int) ≤ m2) := fun h => Int.not_lt.1 fun h' => H4.out ⟨h, h'⟩
          have hbr2 : Byts (r.drop (sm c)) := fun b hb => hbr b (List.mem_of_mem_drop hb)
          obtain ⟨t0, t1⟩ := take32 hbr2
          go_cut [5, 9] (fun v5 v9 wr => v5 = .bool (gr c) ∧ Part3 c r [a0, a1, a2, a3, a4] g8 v9 W1 wr)
          case first =>
            rcases hg : gr c with _ | _
            · have HG := Lib.hid hg
              go_wp2
              go_meet
              case rel => exact ⟨congrArg Value.bool HG.out.symm, A2, m2, c2, rfl, hmc2, by rw [r3_f HG.out]; exact r2.ext hx4, by rw [wOf_f HG.out]; exact K4, hx4⟩
            · have HG := Lib.hid hg
              have h4m := HGR.out hg
              have f6 := fun (W : World) (x : Ext w4 W) => Lib.hid ((x.block _ (blk_lt K4)).trans K4)
              have F6 := Lib.hid f6
              clear f6 hg
              go_wp2_with (go_at_call 23; (with_reducible refine (take4 _ _ _ _ _ (r2.ext hx4) (by omega) hmc2 h4m).mono ?_); rintro e w5 ⟨A3, c3, rfl, l3, m3, x5, r5, fr5⟩; have c6 := blk_cell (i := 6) (F6.out _ x5).out rfl; have ff6 := blk_free (i := 6) (F6.out _ x5).out)
              go_meet
              case rel => exact ⟨congrArg Value.bool HG.out.symm, A3, m2 - 4, c3, rfl, l3, by rw [r3_t HG.out]; exact rd_set r5 (fun ad e => by have := fr5 ad e; have := blk_lt K4; show ad.block ≠ g8; omega), by rw [wOf_t HG.out]; exact blk_set (F6.out _ x5).out, (hx4.trans x5).setCell (by rw [HG8.out]; exact Nat.le_refl _) _⟩
          case rest =>
            obtain ⟨rfl, A3, m3, c3, rfl, l3, q3, K6, x6⟩ := hcut
            obtain ⟨w6, rfl⟩ : ∃ z : World, z = wc := ⟨_, rfl⟩
            have K6 : w6.heap[g8]? = some (.cells #[.int .u8 c, .int .u8 a0, .int .u8 a1, .int .u8 a2, .int .u8 a3, .int .u8 a4, .int .u32 (wOf c r), .slice none 0 0] 26 (0, 0)) := K6
            have K06 := (x6.block _ (blk_lt K0')).trans K0'
            have v6 := v1.trans x6
            have hL3 := q3.len
            have hnnD : nn c r = nb (sm c) (mo c) a0 := by unfold nn nbC; rw [HAL.out]; rfl
            have HNN := Lib.hid hnnD; clear hnnD
            have m7 := mo_le c
            obtain ⟨p0, p1⟩ := hal a0 (by simp)
            have f1 := blk_cell (i := 1) K6 rfl
            have hnb := nb_le (sm c) (mo c) a0 m7
            go_upto_region 18 with (go_at_call 19; (with_reducible refine (bytesOf_any _ _ _ _ p0 p1 m7 s5).mono ?_); rintro e w7 ⟨rfl, rfl⟩; rw [← HNN.out])
            rw [← HNN.out] at hnb
            by_cases h5 : (m3 : Int) < nn c r
            · have hE : errOf (c :: r) = some 5 := by
                show (if (!ok c) = true then some 1 else _) = _
                rw [HOK.out, if_neg (by simp), if_neg HOKs.out, if_neg H3E.out, if_pos (by omega)]
              have HE := Lib.hid hE; clear hE
              go_wp2_with (refine wpList_strow rfl 26 (.tmp 2) (.tmp 74) rfl K06 rfl rfl (by kernel_rfl) rfl (by simp [Value.oneCell']) ?_; intro w9 hg9 hw9)
              refine bodyPost_ret (results_row2 rfl rfl hg9.out Try.underlying26 rfl (by kernel_rfl)) rfl (.inl ⟨_, HE.out, rfl, v6.of_grown hw9 (fun k hk => by simp at hk; omega)⟩)
            · have hE : errOf (c :: r) = none := by
                show (if (!ok c) = true then some 1 else _) = _
                rw [HOK.out, if_neg (by simp), if_neg HOKs.out, if_neg H3E.out, if_neg (by omega)]
              have HE := Lib.hid hE; clear hE
              have n0 : (0 : Int) ≤ nn c r := by omega
              have nc3 : (nn c r : Int) ≤ c3 := by omega
              have q3' := q3.take (k := nn c r) (by omega)
              have HNNe := Lib.hid hnb
              clear hnb HNN
              generalize hNN : nn c r = NN at *
              have HNN2 := Lib.hid hNN; clear hNN f1
              go_upto_region 21 with (go_at_call 24; (with_reducible refine (clone_anyF _ _ _ _ _ q3' (by have := HNNe.out; omega)).mono ?_); rintro e w7 ⟨A7, c7, rfl, l7, m7', x7, r7, fr7⟩; have K7 := Lib.hid ((x7.block _ (blk_lt K6)).trans K6); have c77 := blk_cell (i := 7) K7.out rfl; have ff7 := blk_free (i := 7) K7.out)
              have K8 : (w7.setCell ⟨g8, 7, none⟩ (.slice A7 NN c7)).heap[g8]? = some (.cells #[.int .u8 c, .int .u8 a0, .int .u8 a1, .int .u8 a2, .int .u8 a3, .int .u8 a4, .int .u32 (wOf c r), .slice A7 NN c7] 26 (0, 0)) := blk_set K7.out
              have h0ne : w.heap.size ≠ g8 := by have := blk_lt K0'; rw [HG8.out] at this; omega
              have K08 := (Below.heap_setCell w7 ⟨g8, 7, none⟩ (.slice A7 NN c7) w.heap.size h0ne).trans ((x7.block _ (blk_lt K06)).trans K06)
              have v8 : Ext w (w7.setCell ⟨g8, 7, none⟩ (.slice A7 NN c7)) := (v6.trans x7).setCell hg8 _
              have r8 := rd_set (p := ⟨g8, 7, none⟩) (v := .slice A7 NN c7) r7 (fun ad e => by have := fr7 ad e; have := blk_lt K6; show ad.block ≠ g8; omega)
              have frE : ∀ ad, A7 = some ad → w.heap.size ≤ ad.block := fun ad e => Nat.le_trans v6.size (fr7 ad e)
              have hne9 : ∀ ad, A7 = some ad → some ad.block ≠ some w.heap.size := fun ad e h => by have := fr7 ad e; have := blk_lt K06; simp at h; omega
              generalize w7.setCell ⟨g8, 7, none⟩ (.slice A7 NN c7) = w8 at *
              clear c77 ff7 K7 fr7 r7
              go_wp2_with (first
                | (refine wpList_ldrow rfl 26 (.tmp 8) rfl K8 rfl Try.underlying26 rfl (by kernel_rfl) ?_)
                | (refine wpList_strow rfl 26 (.tmp 2) (.tmp 80) rfl K08 rfl rfl (by kernel_rfl) rfl (by simp [Value.oneCell']) ?_; intro w9 hg9 hw9))
              refine bodyPost_ret (results_row2 rfl rfl hg9.out Try.underlying26 rfl (by kernel_rfl)) rfl (.inr ⟨HE.out, c, r, a0, a1, a2, a3, a4, A7, c7, rfl, HAL.out, by rw [HNN2.out]; rfl, by rw [HNN2.out]; exact l7, m7', v8.of_grown hw9 (fun k hk => by simp at hk; omega), by rw [HNN2.out]; exact r8.grown hw9 hne9, frE⟩)
end Go.Proofs.Ytnfipfgbckbaeaa
