import Derived.Test.YtdhdkjiphapliaaH
set_option linter.unusedVariables false
set_option linter.unusedSimpArgs false
namespace Go.Proofs.Ytdhdkjiphapliaa
open Go.RowKit
/-- a list of packets of one's own, their bytes in blocks of their own. -/
structure RpL (w : World) (lo : Nat) (v : Value) (xs : List Rp) : Prop where
  own : w.ownsRow lo 38 3 v xs.length (rps xs)
  ok : ∀ x ∈ xs, x.ok w ∧ x.n ≤ 100000
  ne : ∀ x ∈ xs, ∀ ad, x.A = some ad → lo ≤ ad.block ∧ ad.block < w.heap.size ∧ ∀ b, v.ownBlock = some b → ad.block ≠ b
theorem RpL.nil (w : World) (lo : Nat) : RpL w lo (.slice none 0 0) [] := ⟨⟨rfl, .inl ⟨rfl, rfl⟩⟩, by simp, by simp⟩
theorem RpL.ext {w w' : World} {lo : Nat} {v : Value} {xs : List Rp} (h : RpL w lo v xs) (x : Ext w w') : RpL w' lo v xs :=
  ⟨own_ext h.own x, fun y hy => ⟨(h.ok y hy).1.ext x, (h.ok y hy).2⟩, fun y hy ad e => ⟨(h.ne y hy ad e).1, Nat.lt_of_lt_of_le (h.ne y hy ad e).2.1 x.size, (h.ne y hy ad e).2.2⟩⟩
theorem RpL.app {w w' : World} {lo B : Nat} {v v' : Value} {xs : List Rp} (h : RpL w lo v xs) {r : Rp} (hr : r.ok w ∧ r.n ≤ 100000) (hne : ∀ ad, r.A = some ad → lo ≤ ad.block ∧ ad.block < w.heap.size ∧ ∀ b, v.ownBlock = some b → ad.block ≠ b)
    (own : w'.ownsRow lo 38 3 v' (xs.length + 1) (rps xs ++ rps [r])) (gr : w.grownBy w' v.ownBlock) (hb : v'.ownBlock = some B) (hat : v'.ownBlock = v.ownBlock ∨ v'.ownBlock = some w.heap.size) : RpL w' lo v' (xs ++ [r]) := by
  have key : ∀ y : Rp, (y.ok w ∧ y.n ≤ 100000) → (∀ ad, y.A = some ad → lo ≤ ad.block ∧ ad.block < w.heap.size ∧ ∀ b, v.ownBlock = some b → ad.block ≠ b) → (y.ok w' ∧ y.n ≤ 100000) ∧ ∀ ad, y.A = some ad → lo ≤ ad.block ∧ ad.block < w'.heap.size ∧ ∀ b, v'.ownBlock = some b → ad.block ≠ b := by
    intro y hy hn
    refine ⟨⟨hy.1.kept (Kept.of_grown (F := fun b => v.ownBlock = some b) gr (fun b e => e)) (fun ad e h => (hn ad e).2.2 _ h rfl), hy.2⟩, fun ad e => ⟨(hn ad e).1, Nat.lt_of_lt_of_le (hn ad e).2.1 gr.size, fun b hb2 e2 => ?_⟩⟩
    rcases hat with h1 | h1
    · exact (hn ad e).2.2 b (by rw [← h1]; exact hb2) e2
    · rw [h1] at hb2; injection hb2 with hb2; have := (hn ad e).2.1; omega
  refine ⟨by rw [List.length_append, rps_app]; exact own, fun y hy => ?_, fun y hy => ?_⟩
  · rcases List.mem_append.1 hy with hy | hy
    · exact (key y (h.ok y hy) (h.ne y hy)).1
    · simp at hy; subst hy; exact (key y hr hne).1
  · rcases List.mem_append.1 hy with hy | hy
    · exact (key y (h.ok y hy) (h.ne y hy)).2
    · simp at hy; subst hy; exact (key y hr hne).2
/-- the packets that QueueSlides puts. -/
def slideL (i k : Nat) : List Pk := (List.range k).map fun (j : Nat) => (⟨4, (j : Int), [(i : Int)]⟩ : Pk)
theorem slide_len (i k : Nat) : (slideL i k).length = k := by simp [slideL]
theorem slide_succ (i k : Nat) : slideL i (k + 1) = slideL i k ++ [⟨4, (k : Int), [(i : Int)]⟩] := by simp [slideL, List.range_succ]
theorem slide_get (i : Nat) {k j : Nat} (h : j < k) : (slideL i k)[j]? = some ⟨4, (j : Int), [(i : Int)]⟩ := by simp [slideL, List.getElem?_range h]
theorem slide_put {km k i li : Nat} (h1 : 1 ≤ k) (h8 : k ≤ 8) (hk : k ≤ km) (hl : li < 4) : (QS.new km).put li (slideL i k) = (true, ⟨km, slideL i k, base4⟩) := by
  unfold QS.put QS.new
  have hs : samp (slideL i k) = true := by
    simp only [samp, Bool.and_eq_true, List.all_eq_true, decide_eq_true_eq, slide_len]
    refine ⟨fun p hp => ?_, by omega⟩
    simp only [slideL, List.mem_map, List.mem_range] at hp
    obtain ⟨j, hj, rfl⟩ := hp
    show (j : Int) < 64
    omega
  rw [if_neg (fun h => h.elim (fun h => h (by omega)) (fun h => by rw [hs] at h; cases h))]
  simp only [slide_len, List.length_nil, Int.toNat_natCast]
  rw [if_neg (by omega)]
  have hg : ([false, false, false, false] : List Bool).getD li false = false ∧ ([false, false, false, false] : List Bool).set li false = base4 := by
    rcases (show li = 0 ∨ li = 1 ∨ li = 2 ∨ li = 3 by omega) with rfl | rfl | rfl | rfl <;> exact ⟨rfl, rfl⟩
  rw [hg.1, hg.2]
  have hm : mark false (slideL i k) = slideL i k := by cases slideL i k <;> rfl
  rw [hm]
  rfl
def slideQ (km i k j : Nat) : QS := ⟨km, (slideL i k).drop j, base4⟩
theorem slideQ_next (km i k j : Nat) : (slideQ km i k j).next = slideQ km i k (j + 1) := by
  unfold QS.next slideQ
  simp only
  rw [List.tail_drop]
theorem slideQ_cons (km i : Nat) {k j : Nat} (h : j < k) : (slideQ km i k j).l = ⟨4, (j : Int), [(i : Int)]⟩ :: (slideL i k).drop (j + 1) := by
  unfold slideQ
  simp only
  have hl : j < (slideL i k).length := by rw [slide_len]; exact h
  rw [List.drop_eq_getElem_cons hl]
  congr 1
  have := slide_get i h
  rw [List.getElem?_eq_getElem hl] at this
  injection this
theorem slideQ_end (km i k : Nat) : slideQ km i k k = .new km := by
  unfold slideQ QS.new
  rw [List.drop_of_length_le (by rw [slide_len]; exact Nat.le_refl _)]
  rfl
set_option maxRecDepth 100000 in
set_option maxHeartbeats 8000000 in
theorem QueueSlides_law (w : World) (nn mo mn : Nat) (hnn : nn < 256) (hmo : mo < 256) (hmn : mn < 65536) : Calls Try.prog 7 #[.int .u8 (nn : Int), .int .u8 (mo : Int), .int .u16 (mn : Int)] w fun e w' => e = .returned (.bool true) ∧ Ext w w' := by
  obtain ⟨k0, hk0, hk0T, hk0N, hk08⟩ : ∃ x : Nat, (nn : Int) % 8 = (x : Int) ∧ (nn : Int).tmod 8 = (x : Int) ∧ nn % 8 = x ∧ x < 8 := ⟨nn % 8, by omega, by rw [Int.tmod_eq_emod_of_nonneg (by omega)]; omega, rfl, Nat.mod_lt _ (by omega)⟩
  obtain ⟨k, hk⟩ : ∃ k, k = k0 + 1 := ⟨_, rfl⟩
  have hkI : (k0 : Int) + 1 = (k : Int) := by omega
  have hk1 : 1 ≤ k := by omega
  have hk8 : k ≤ 8 := by omega
  obtain ⟨z1, hz1⟩ : ∃ z1, z1 = 64 - k := ⟨_, rfl⟩
  obtain ⟨z2, hz2⟩ : ∃ z2, z2 = z1 + 1 := ⟨_, rfl⟩
  have hz1I : (64 : Int) - k = (z1 : Int) := by omega
  have hz2I : (z1 : Int) + 1 = (z2 : Int) := by omega
  have hz20 : ¬ (z2 = 0) := by omega
  have hz20' : ((z2 : Int) == 0) = false := by simp; omega
  obtain ⟨r, hr, hrT, hrN, hr4⟩ : ∃ x : Nat, (mo : Int) % z2 = (x : Int) ∧ (mo : Int).tmod z2 = (x : Int) ∧ mo % z2 = x ∧ x < z2 := ⟨mo % z2, by omega, by rw [Int.tmod_eq_emod_of_nonneg (by omega)]; omega, rfl, Nat.mod_lt _ (by omega)⟩
  obtain ⟨km, hkm⟩ : ∃ km, km = k + r := ⟨_, rfl⟩
  have hkmI : (k : Int) + r = (km : Int) := by omega
  have hkm1 : k ≤ km := by omega
  have hkm64 : km ≤ 64 := by omega
  obtain ⟨m, hm, hmT, hmN, hm10⟩ : ∃ x : Nat, (mn : Int) % 201 = (x : Int) ∧ (mn : Int).tmod 201 = (x : Int) ∧ mn % 201 = x ∧ x < 201 := ⟨mn % 201, by omega, by rw [Int.tmod_eq_emod_of_nonneg (by omega)]; omega, rfl, Nat.mod_lt _ (by omega)⟩
  have HKM := Lib.hid (show 1 ≤ km ∧ km ≤ 64 from ⟨by omega, hkm64⟩)
  have b1 : k0 < 9223372036854775808 := by omega
  have b2 : k < 9223372036854775808 := by omega
  have b3 : mo < 9223372036854775808 := by omega
  have b4 : z1 < 9223372036854775808 := by omega
  have b5 : z2 < 9223372036854775808 := by omega
  have b6 : r < 9223372036854775808 := by omega
  have b7 : km < 9223372036854775808 := by omega
  have b8 : m < 9223372036854775808 := by omega
  clear hnn hmo hmn hk hk08 hk0N hz1 hz2 hrN hr4 hkm hmN
  have u1 := wri k0 b1
  have u2 := wri k b2
  have u3 := wri mo b3
  have u4 := wri z1 b4
  have u5 := wri z2 b5
  have u6 := wri r b6
  have u7 := wri km b7
  have u8 := wri m b8
  clear b1 b2 b3 b4 b5 b6 b7 b8
  go_enter Try.func7, Try.ntmps7
  go_upto_region 2 with (go_at_call 8; (refine (shown_any _).mono ?_); rintro e w1 ⟨rfl, x1⟩)
  go_upto_region 4 with (go_at_call 9; (refine (new_b HKM.out.1 HKM.out.2 _).mono ?_); rintro e w2 ⟨g, rfl, Q2⟩)
  have HQ2 := Lib.hid Q2
  clear Q2 hk0 hk0T hkI hz1I hz2I hz20 hz20' hr hrT hkmI u1 u2 u3 u4 u5 u6 u7
  go_upto_region 7 with (fail)
  clear u8 hm hmT
  go_loopw [43] (fun v wr => ∃ (i : Nat), v = .int .i64 i ∧ i ≤ m ∧ Qb w1 wr g (.new km)) (fun v _ => m - (intOf v).toNat)
  case atStart => exact ⟨0, rfl, Nat.zero_le _, HQ2.out⟩
  case round =>
    obtain ⟨i, rfl, hi, Q⟩ := hrel
    obtain ⟨wo, rfl⟩ : ∃ z : World, z = wr := ⟨_, rfl⟩
    have HQ := Lib.hid Q
    clear Q
    by_cases hlt : i < m
    · have him : (i : Int) < m := by omega
      go_upto_region 11 with (fail)
      go_loopw [12, 47] (fun pv v wq => ∃ (lv : Value) (j : Nat) (xs : List Rp), lv = pv ∧ v = .int .i64 j ∧ j ≤ k ∧ RpL wq wo.heap.size lv xs ∧ xs.map Rp.pk = slideL i j ∧ Ext wo wq) (fun _ v _ => k - (intOf v).toNat)
      case atStart => exact ⟨_, 0, [], rfl, rfl, Nat.zero_le _, RpL.nil _ _, rfl, Ext.refl _⟩
      case round =>
        obtain ⟨lv, j, xs, rfl, rfl, hj, hL, hpk, xq⟩ := hrel
        obtain ⟨wi, rfl⟩ : ∃ z : World, z = wr := ⟨_, rfl⟩
        by_cases hjt : j < k
        · have hjk : (j : Int) < k := by omega
          have uj := wr8 (i := j) (by omega)
          have ui := wr8 (i := i) (by omega)
          obtain ⟨w4, hw4⟩ : ∃ V, V = wi.alloc (.cells #[.int .u8 (i : Int)] 5) := ⟨_, rfl⟩
          have x4 : Ext wi w4 := by rw [hw4]; exact (Ext.refl _).alloc _
          have rd4 : Rd w4 (some ⟨wi.heap.size, 0, none⟩) 1 [(i : Int)] := by rw [hw4]; exact rd_new (cs := [(i : Int)]) 5 rfl (by intro b hb; simp at hb; subst hb; omega)
          obtain ⟨r5, hr5⟩ : ∃ r5 : Rp, r5 = ⟨4, (j : Int), some ⟨wi.heap.size, 0, none⟩, 1, 1, [(i : Int)]⟩ := ⟨_, rfl⟩
          obtain ⟨w5, hw5⟩ : ∃ V, V = w4.alloc (.cells #[.int .u8 4, .int .u8 (j : Int), .slice (some ⟨wi.heap.size, 0, none⟩) 1 1] 38) := ⟨_, rfl⟩
          have x5 : Ext w4 w5 := by rw [hw5]; exact (Ext.refl _).alloc _
          have hs4 : w4.heap.size = wi.heap.size + 1 := by rw [hw4]; exact Array.size_push _
          have sh5 : Shows w5 3 (some ⟨wi.heap.size + 1, 0, none⟩) 1 (rps [r5]) := by rw [← hs4, hw5, hr5]; exact shows_one (r := ⟨4, (j : Int), some ⟨wi.heap.size, 0, none⟩, 1, 1, [(i : Int)]⟩) 38
          have hL5 := hL.ext (x4.trans x5)
          have hxl : xs.length = j := by have := congrArg List.length hpk; rwa [List.length_map, slide_len] at this
          have own5 := hL5.own
          rw [hxl] at own5
          have hr5ok : r5.ok w5 ∧ r5.n ≤ 100000 := by rw [hr5]; exact ⟨⟨⟨by show (0 : Int) ≤ 4; decide, by show (4 : Int) < 256; decide⟩, ⟨Int.natCast_nonneg _, by show (j : Int) < 256; omega⟩, rd4.ext x5, Nat.le_refl _, le_max (n := 1) (by omega)⟩, by show 1 ≤ 100000; omega⟩
          have hr5ne : ∀ ad, r5.A = some ad → wo.heap.size ≤ ad.block ∧ ad.block < w5.heap.size ∧ ∀ b, lv.ownBlock = some b → ad.block ≠ b := by
            rw [hr5]
            intro ad e
            injection e with e
            subst e
            have s4 : wi.heap.size < w4.heap.size := blk_lt (show w4.heap[wi.heap.size]? = some (.cells #[.int .u8 (i : Int)] 5 (0, 0)) by rw [hw4]; exact heap_alloc_new _ _)
            exact ⟨xq.size, Nat.lt_of_lt_of_le s4 x5.size, fun b hb e2 => by have := (hL.own.lt b hb).2; simp at e2; omega⟩
          have HP := Lib.hid (And.intro hL5 (And.intro hr5ok (And.intro hr5ne (And.intro hxl (show r5.pk = ⟨4, (j : Int), [(i : Int)]⟩ by rw [hr5]; rfl)))))
          have HPK := Lib.hid hpk
          have hj9 : j < 9 := by omega
          clear hs4 hL hL5 hr5ok hr5ne hxl hpk hr5 rd4
          go_wp2_with (at_builtin; go_loud (rw [← hw4, ← hw5]; refine wpList_appB el32 rfl _ _ rfl own5 rfl sh5 rfl (rps_one _) (le_max (by omega)) (by omega) (by have := (x4.trans x5).size; have := xq.size; omega) ?_; intro v9 w9 own9 gr9 at9; obtain ⟨B9, c9, rfl, _, _⟩ := own9.form (by omega)))
          have hL9 := HP.out.1.app HP.out.2.1 HP.out.2.2.1 (by rw [HP.out.2.2.2.1]; exact own9) gr9 rfl at9
          have hx9 := Ext.of_grown (xq.trans (x4.trans x5)) gr9 (fun b e => (HP.out.1.own.lt b e).1)
          have HL9 := Lib.hid (And.intro hL9 hx9)
          clear own9 gr9 at9 hL9 hx9 own5 sh5
          go_roundw
          case rel => exact ⟨_, j + 1, _, rfl, by go_num, by omega, HL9.out.1, by rw [List.map_append, HPK.out, slide_succ]; simp [HP.out.2.2.2.2], HL9.out.2⟩
          case measure => simp [intOf]; omega
        · obtain rfl : j = k := by omega
          have HL := Lib.hid hL
          have HPK := Lib.hid hpk
          have hxl : xs.length = j := by have := congrArg List.length hpk; rwa [List.length_map, slide_len] at this
          obtain ⟨lA, lc, hlv, hlc, hlm, _⟩ := own_form hL.own
          rw [hxl] at hlv
          subst hlv
          obtain ⟨li, hli, hliT, hliN, hli4⟩ : ∃ x : Nat, (i : Int) % 4 = (x : Int) ∧ (i : Int).tmod 4 = (x : Int) ∧ i % 4 = x ∧ x < 4 := ⟨i % 4, by omega, by rw [Int.tmod_eq_emod_of_nonneg (by omega)]; omega, rfl, Nat.mod_lt _ (by omega)⟩
          have HPUT := Lib.hid (slide_put (i := i) hk1 hk8 hkm1 hli4)
          have HXL := Lib.hid hxl
          have hown := hL.own
          rw [hxl] at hown
          have HSH := Lib.hid (Shows.of_own hown)
          have HOWN := Lib.hid hown
          have uli := wri li (by omega)
          clear hL hpk hxl hown hlc hlm hliN
          go_upto_region 17 with (first
            | (go_at_call 19; (refine (len_b HQ6.out).mono ?_); rw [show (⟨km, slideL i j, base4⟩ : QS).l.length = j from slide_len i j]; rintro e w7 ⟨rfl, rfl⟩)
            | (go_at_call 12; (refine (put_b HQ.out xq (li : Int) lc (xs := xs) HSH.out HXL.out.symm (by omega) HL.out.ok (fun ad e => .inr ((HOWN.out.lt ad.block (by rw [e]; rfl)).1)) (fun y hy ad e _ => .inr (HL.out.ne y hy ad e).1)).mono ?_); rw [HPK.out, HPUT.out]; rintro e w6 ⟨rfl, Q6⟩; have HQ6 := Lib.hid Q6; clear Q6))
          clear hli hliT uli
          go_upto_region 18 with (fail)
          go_loopw [73] (fun v wr => ∃ (t : Nat), v = .int .i64 t ∧ t ≤ j ∧ Qb w1 wr g (slideQ km i j t)) (fun v _ => j - (intOf v).toNat)
          case atStart => exact ⟨0, rfl, Nat.zero_le _, by have := HQ6.out; simpa [slideQ] using this⟩
          case round =>
            obtain ⟨t, rfl, ht, Q⟩ := hrel
            obtain ⟨wt, rfl⟩ : ∃ z : World, z = wr := ⟨_, rfl⟩
            have HT := Lib.hid Q
            clear Q
            by_cases htj : t < j
            · have htI : (t : Int) < j := by omega
              have HN := Lib.hid (next_one HT.out (slideQ_cons km i htj))
              go_upto_region 21 with (first | (go_at_call 14; (refine HN.out.mono ?_); rintro e w7 ⟨r7, hr7, rfl, hok7, Q7⟩; rw [slideQ_next] at Q7; have HR7 := Lib.hid (And.intro hr7 hok7); have HQ7 := Lib.hid Q7; clear Q7 hr7 hok7) | refine wpList_stnew rfl 38 _ _ rfl rfl r7.vals rfl rfl size38 rfl (rp_one r7) ?_)
              obtain ⟨w8, hw8⟩ : ∃ V, V = w7.alloc (.cells r7.vals.toArray 38) := ⟨_, rfl⟩
              have k8 : w8.heap[w7.heap.size]? = some (.cells r7.vals.toArray 38 (0, 0)) := by rw [hw8]; exact heap_alloc_new _ _
              have x8 : Ext w7 w8 := by rw [hw8]; exact (Ext.refl _).alloc _
              have hcode : r7.code = (t : Int) := congrArg Pk.code HR7.out.1
              have hbs : r7.bs = [(i : Int)] := congrArg Pk.bs HR7.out.1
              have hn1 : r7.n = 1 := by have := HR7.out.2.rd.len; rw [hbs] at this; exact this.symm
              obtain ⟨b, off, hbA, _, hcell⟩ := (HR7.out.2.rd.ext x8).cell (k := 0) (by omega)
              rw [hbs] at hcell
              simp only [List.getD_cons_zero, Nat.add_zero] at hcell
              have c1 : w8.cell? ⟨w7.heap.size, 1, none⟩ = some (.int .u8 (t : Int)) := by rw [← hcode]; exact blk_cell k8 rfl
              have c2 : w8.cell? ⟨w7.heap.size, 2, none⟩ = some (.slice (some ⟨b, off, none⟩) 1 r7.c) := by rw [← hbA, ← hn1]; exact blk_cell k8 rfl
              have ut := wr8 (i := t) (by omega)
              have ui := wr8 (i := i) (by omega)
              rw [← hw8]
              clear hw8 k8 hcode hbs hn1 hbA
              go_wp2
              go_roundw
              case rel => exact ⟨t + 1, by go_num, by omega, HQ7.out.ext x8⟩
              case measure => simp [intOf]; omega
            · obtain rfl : t = j := by omega
              have HE := Lib.hid (show Qb w1 wt g (.new km) by have := HT.out; rw [slideQ_end] at this; exact this)
              go_wp2
              go_roundw
              case rel => exact ⟨i + 1, by go_num, by omega, HE.out⟩
              case measure => simp [intOf]; omega
    · obtain rfl : i = m := by omega
      go_upto_region 99 with (go_at_call 19; (refine (len_b HQ.out).mono ?_); rintro e w7 ⟨rfl, rfl⟩)
      go_ret
      exact ⟨by simp [QS.new], x1.trans HQ.out.1⟩
theorem QueueSlides_all (w : World) (a0 a1 a2 : Int) (l0 : 0 ≤ a0) (h0 : a0 < 256) (l1 : 0 ≤ a1) (h1 : a1 < 256) (l2 : 0 ≤ a2) (h2 : a2 < 65536) : Calls Try.prog 7 #[.int .u8 a0, .int .u8 a1, .int .u16 a2] w fun e w' => e = .returned (.bool true) ∧ Ext w w' := by
  obtain ⟨b0, rfl⟩ := Int.eq_ofNat_of_zero_le l0
  obtain ⟨b1, rfl⟩ := Int.eq_ofNat_of_zero_le l1
  obtain ⟨b2, rfl⟩ := Int.eq_ofNat_of_zero_le l2
  exact QueueSlides_law w b0 b1 b2 (by omega) (by omega) (by omega)
end Go.Proofs.Ytdhdkjiphapliaa
