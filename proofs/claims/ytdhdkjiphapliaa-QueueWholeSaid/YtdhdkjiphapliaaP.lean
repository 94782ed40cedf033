import Derived.Test.YtdhdkjiphapliaaN
set_option linter.unusedVariables false
set_option linter.unusedSimpArgs false
namespace Go.Proofs.Ytdhdkjiphapliaa
open Go.RowKit
theorem qu_rowN {w w2 : World} {ty : TypeId} {g : Nat} {s : QS} {rs : List Rp} {va : Tg → Value} {T : Nat → Option Tg} {v : Value} {B : Nat} {rs' : List Rp} {l' : List Pk} (h : QuC w ty g s rs va T) (x : Ext w w2) (hv : w2.ownsRow w.heap.size 38 3 v rs'.length (rps rs')) (hb : v.ownBlock = some B)
    (hp : rs'.map Rp.pk = l') (hn : l'.length ≤ s.most) (hok : ∀ r ∈ rs', r.ok w) (hfar : ∀ r ∈ rs', ∀ ad, r.A = some ad → T ad.block = none ∧ ad.block < w.heap.size) :
    (w2.frozen? ⟨g, 1, none⟩ = false ∧ ∃ u, w2.cell? ⟨g, 1, none⟩ = some u) ∧ ∃ va' T', QuC (w2.setCell ⟨g, 1, none⟩ v) ty g { s with l := l' } rs' va' T' ∧ Kept (fun b => T b ≠ none) w (w2.setCell ⟨g, 1, none⟩ v) ∧ (∀ b t, T' b = some t → T b ≠ none ∨ w.heap.size ≤ b) := by
  have O1 := Own.lay h.O x (t0 := (1, 0, 0)) (p1 := ⟨38, 3, rs'.length, rps rs'⟩) (v := v) (B := B) hv hb
    (sp' := fun t => if t = (1, 0, 0) then some ⟨38, 3, rs'.length, rps rs'⟩ else qspec ty s rs va t) (fun t ht p hp => by simpa [ht] using hp) (fun p hp => by simp at hp; exact hp.symm)
  have hBB := (hv.lt B hb).1
  obtain ⟨g', c', e, O2, hf, hcell, hT2⟩ := Own.cell O1 (t0 := (0, 0, 0)) (p0 := ⟨ty, 6, 1, qobj s (va (1, 0, 0))⟩) (by rw [if_neg (by simp)]; rfl) (i := 1) (by simp only; omega) v
    (sp' := qspec ty { s with l := l' } rs' (fun t => if t = (1, 0, 0) then v else va t)) (by
      rintro ⟨a, y, z⟩ ht p hp
      match a with
      | 0 =>
        simp only [qspec] at hp
        split at hp
        · rename_i e; exact absurd (by rw [e]) ht
        · cases hp
      | 1 =>
        simp only [qspec] at hp
        split at hp
        · rename_i e; rw [e, if_pos rfl]; exact hp
        · cases hp
      | n + 2 => exact hp) (by
      intro p hp
      simp [qspec] at hp
      rw [← hp]
      simp [qobj])
  have e' : va (0, 0, 0) = .slice (some ⟨g', 0, none⟩) 1 c' := by simpa using e
  rw [h.g0] at e'
  injection e' with e1 e2 e3
  injection e1 with e1
  injection e1 with e1
  subst e1
  have hTg := h.tg
  have k2 : Kept (fun b => T b ≠ none) w2 (w2.setCell ⟨g, 1, none⟩ v) := Kept.of_set _ (by rw [hTg]; simp)
  refine ⟨⟨hf, _, hcell⟩, _, _, ⟨O2, by simp; exact h.g0, hp, ⟨h.ok.m1, h.ok.m2, hn, h.ok.f⟩, fun r hr => ((hok r hr).ext x).kept k2 (fun ad e h' => h' (hfar r hr ad e).1), fun r hr ad e => ?_⟩, (Kept.of_ext x).trans' k2, fun b t hb' => ?_⟩
  · obtain ⟨h1, h2⟩ := hfar r hr ad e
    exact ⟨tag_mk (by omega) h1, Nat.lt_of_lt_of_le h2 ((Kept.of_ext (F := fun b => T b ≠ none) x).trans' k2).size⟩
  · rcases tag_cases hb' with ⟨rfl, _⟩ | hb'
    · exact .inr hBB
    · exact .inl (by rw [hb']; simp)
set_option maxHeartbeats 1000000 in
theorem rclear_any {w : World} {g : Nat} {s : QS} {rs : List Rp} {va : Tg → Value} {T : Nat → Option Tg} (h : QuC w 45 g s rs va T) : Calls Try.prog 18 #[.pointer (some ⟨g, 0, none⟩)] w fun e w' => e = .returned (.tuple #[]) ∧ QPost w w' 45 g s.clear rs T := by
  obtain ⟨A, c, e, _, _, k0, k1, kl, kf⟩ := h.cells
  have l0 := kl 0 (by omega)
  have l1 := kl 1 (by omega)
  have l2 := kl 2 (by omega)
  have l3 := kl 3 (by omega)
  have f1 := kf 1 (by omega)
  have f2 := kf 2 (by omega)
  have f3 := kf 3 (by omega)
  have f4 := kf 4 (by omega)
  have f5 := kf 5 (by omega)
  have HR := Lib.hid (qu_clear h)
  obtain ⟨b0, hb0⟩ : ∃ b, b = s.lost.getD 0 false := ⟨_, rfl⟩
  obtain ⟨b1, hb1⟩ : ∃ b, b = s.lost.getD 1 false := ⟨_, rfl⟩
  obtain ⟨b2, hb2⟩ : ∃ b, b = s.lost.getD 2 false := ⟨_, rfl⟩
  obtain ⟨b3, hb3⟩ : ∃ b, b = s.lost.getD 3 false := ⟨_, rfl⟩
  rw [← hb0] at l0
  rw [← hb1] at l1
  rw [← hb2] at l2
  rw [← hb3] at l3
  clear h e kl kf hb0 hb1 hb2 hb3 k0
  go_enter Try.func18, Try.ntmps18
  go_wp2
  go_end0
  obtain ⟨va', q, k⟩ := HR.out
  exact ⟨rfl, [], va', T, q, k, fun b t hb => .inl (by rw [hb]; simp), by intro r hr; cases hr⟩
theorem str {w : World} {A : Option Addr} {n c : Nat} {bs : List Int} (hr : Rd w A n bs) : (convert 36 9 (.slice A n c)).run Try.prog w = .ok (.string (strOfNums bs)) w := run_str Try.underlying36 Try.underlying5 Try.underlying9 hr
set_option maxRecDepth 100000 in
set_option maxHeartbeats 4000000 in
theorem same_true {w : World} {A B : Option Addr} {n : Nat} (c d : Nat) {xs ys : List Rp} (h1 : Shows w 3 A n (rps xs)) (h2 : Shows w 3 B n (rps ys)) (hn : n = xs.length) (hm : n ≤ 100000) (hx : ∀ x ∈ xs, x.ok w) (hy : ∀ y ∈ ys, y.ok w) (he : xs.map Rp.pk = ys.map Rp.pk) :
    Calls Try.prog 16 #[.slice A n c, .slice B n d] w fun e w' => e = .returned (.bool true) ∧ Ext w w' := by
  have hn2 : n = ys.length := by have := congrArg List.length he; rw [List.length_map, List.length_map] at this; omega
  have HP := Lib.hid (And.intro h1 (And.intro h2 (And.intro hn (And.intro hn2 (And.intro hx (And.intro hy he))))))
  clear h1 h2 hn hn2 hx hy he
  go_enter Try.func16, Try.ntmps16
  go_wp2
  go_loopw [5] (fun v wr => ∃ k : Nat, v = .int .i64 k ∧ k ≤ n ∧ Ext w wr) (fun v _ => n - (intOf v).toNat)
  case atStart => exact ⟨0, rfl, Nat.zero_le _, Ext.refl _⟩
  case round =>
    obtain ⟨k, rfl, hk, xr⟩ := hrel
    obtain ⟨wo, rfl⟩ : ∃ z : World, z = wr := ⟨_, rfl⟩
    by_cases hlt : k < n
    · have hkn : (k : Int) < n := by omega
      obtain ⟨x, hx⟩ : ∃ x, xs[k]? = some x := ⟨_, List.getElem?_eq_getElem (by have := HP.out.2.2.1; omega)⟩
      obtain ⟨y, hy⟩ : ∃ y, ys[k]? = some y := ⟨_, List.getElem?_eq_getElem (by have := HP.out.2.2.2.1; omega)⟩
      have hpk : x.pk = y.pk := by
        have := congrArg (fun l => l[k]?) HP.out.2.2.2.2.2.2
        simp only [List.getElem?_map, hx, hy, Option.map_some] at this
        injection this
      obtain ⟨b1, o1, hA, _, hr1⟩ := Shows.row rp_len (by omega) (HP.out.1.ext xr) HP.out.2.2.1 hx
      obtain ⟨b2, o2, hB, _, hr2⟩ := Shows.row rp_len (by omega) (HP.out.2.1.ext xr) HP.out.2.2.2.1 hy
      have p0 := hr1 0 _ rfl
      have p1 := hr1 1 _ rfl
      have p2 := hr1 2 _ rfl
      have q0 := hr2 0 _ rfl
      have q1 := hr2 1 _ rfl
      have q2 := hr2 2 _ rfl
      simp only [Nat.add_zero] at p0 q0
      have hkd : y.kind = x.kind := (congrArg Pk.kind hpk).symm
      have hcd : y.code = x.code := (congrArg Pk.code hpk).symm
      have hbs : y.bs = x.bs := (congrArg Pk.bs hpk).symm
      rw [hkd] at q0
      rw [hcd] at q1
      have HS := Lib.hid (show Rd wo x.A x.n x.bs ∧ Rd wo y.A y.n x.bs from ⟨((HP.out.2.2.2.2.1 x (List.mem_of_getElem? hx)).ext xr).rd, by rw [← hbs]; exact ((HP.out.2.2.2.2.2.1 y (List.mem_of_getElem? hy)).ext xr).rd⟩)
      have HC := Lib.hid (And.intro p0 (And.intro p1 (And.intro p2 (And.intro q0 (And.intro q1 q2)))))
      subst hA hB
      clear hx hy hpk hr1 hr2 hkd hcd hbs p0 p1 p2 q0 q1 q2
      go_upto_region 6 with (fail)
      refine wp_region_held_drew (S := Ext wo) (by kernel_rfl) ((Ext.refl _).drew) (fun hHeld => ?_)
      obtain ⟨wD1, hwD⟩ : ∃ V, V = World.drew wo := ⟨_, rfl⟩
      rw [← hwD]
      clear hHeld
      have zz0 : Ext wo wD1 := by rw [hwD]; exact (Ext.refl _).drew
      clear hwD
      refine wpAnyH_imp (S' := Ext wD1) (fun W h => Ext.trans zz0 h) _ _ _ _ ?_
      have hHeld := Ext.refl wD1
      refine wpAnyH_take (i := 0) (oi := { dst := some 17, op := Op.move (Operand.tmp 0), type := 32, pos := "ref.go:232", after := #[], guard := none }) (v := ?vv2_6_0) rfl (by kernel_rfl) (by kernel_rfl) (by kernel_rfl) (fun _ _ _ h => h) (Or.inl ⟨by rfl, ?yy2_6_0⟩) hHeld ?_
      case yy2_6_0 => (intro W hx; go_simp; try with_reducible rfl)
      simp only [Act.put, List.setIfInBounds_toArray, List.set_cons_zero, List.set_cons_succ]
      refine wpAnyH_take (i := 1) (oi := { dst := some 18, op := Op.move (Operand.tmp 5), type := 3, pos := "ref.go:232", after := #[], guard := none }) (v := ?vv3_6_1) rfl (by kernel_rfl) (by kernel_rfl) (by kernel_rfl) (fun _ _ _ h => h) (Or.inl ⟨by rfl, ?yy3_6_1⟩) hHeld ?_
      case yy3_6_1 => (intro W hx; go_simp; try with_reducible rfl)
      simp only [Act.put, List.setIfInBounds_toArray, List.set_cons_zero, List.set_cons_succ]
      refine wpAnyH_take (i := 2) (oi := { dst := some 19, op := Op.indexAddr 32 (Operand.tmp 17) (Operand.tmp 18), type := 0, pos := "ref.go:232", after := #[{ on := 0, ground := Ground.data }, { on := 1, ground := Ground.data }], guard := none }) (v := ?vv4_6_2) rfl (by kernel_rfl) (by kernel_rfl) (by kernel_rfl) (fun _ _ _ h => h) (Or.inl ⟨by rfl, ?yy4_6_2⟩) hHeld ?_
      case yy4_6_2 => (intro W hx; go_simp; try with_reducible rfl)
      simp only [Act.put, List.setIfInBounds_toArray, List.set_cons_zero, List.set_cons_succ]
      refine wpAnyH_take (i := 3) (oi := { dst := some 20, op := Op.fieldAddr 38 (Operand.tmp 19) 0, type := 0, pos := "ref.go:232", after := #[{ on := 2, ground := Ground.data }], guard := none }) (v := ?vv5_6_3) rfl (by kernel_rfl) (by kernel_rfl) (by kernel_rfl) (fun _ _ _ h => h) (Or.inl ⟨by rfl, ?yy5_6_3⟩) hHeld ?_
      case yy5_6_3 => (intro W hx; go_simp; try with_reducible rfl)
      simp only [Act.put, List.setIfInBounds_toArray, List.set_cons_zero, List.set_cons_succ]
      refine wpAnyH_take (i := 4) (oi := { dst := some 21, op := Op.load 5 (Operand.tmp 20), type := 5, pos := "ref.go:232", after := #[{ on := 3, ground := Ground.data }], guard := none }) (v := ?vv6_6_4) rfl (by kernel_rfl) (by kernel_rfl) (by kernel_rfl) (fun _ _ _ h => h) (Or.inl ⟨by rfl, ?yy6_6_4⟩) hHeld ?_
      case yy6_6_4 => (intro W hx; have hz := zz0.trans hx; have m0 := cell_ext hz HC.out.1; go_simp; try with_reducible rfl)
      simp only [Act.put, List.setIfInBounds_toArray, List.set_cons_zero, List.set_cons_succ]
      refine wpAnyH_take (i := 5) (oi := { dst := some 22, op := Op.move (Operand.tmp 1), type := 32, pos := "ref.go:232", after := #[], guard := none }) (v := ?vv7_6_5) rfl (by kernel_rfl) (by kernel_rfl) (by kernel_rfl) (fun _ _ _ h => h) (Or.inl ⟨by rfl, ?yy7_6_5⟩) hHeld ?_
      case yy7_6_5 => (intro W hx; go_simp; try with_reducible rfl)
      simp only [Act.put, List.setIfInBounds_toArray, List.set_cons_zero, List.set_cons_succ]
      refine wpAnyH_take (i := 6) (oi := { dst := some 23, op := Op.move (Operand.tmp 5), type := 3, pos := "ref.go:232", after := #[], guard := none }) (v := ?vv8_6_6) rfl (by kernel_rfl) (by kernel_rfl) (by kernel_rfl) (fun _ _ _ h => h) (Or.inl ⟨by rfl, ?yy8_6_6⟩) hHeld ?_
      case yy8_6_6 => (intro W hx; go_simp; try with_reducible rfl)
      simp only [Act.put, List.setIfInBounds_toArray, List.set_cons_zero, List.set_cons_succ]
      refine wpAnyH_take (i := 7) (oi := { dst := some 24, op := Op.indexAddr 32 (Operand.tmp 22) (Operand.tmp 23), type := 0, pos := "ref.go:232", after := #[{ on := 5, ground := Ground.data }, { on := 6, ground := Ground.data }], guard := none }) (v := ?vv9_6_7) rfl (by kernel_rfl) (by kernel_rfl) (by kernel_rfl) (fun _ _ _ h => h) (Or.inl ⟨by rfl, ?yy9_6_7⟩) hHeld ?_
      case yy9_6_7 => (intro W hx; go_simp; try with_reducible rfl)
      simp only [Act.put, List.setIfInBounds_toArray, List.set_cons_zero, List.set_cons_succ]
      refine wpAnyH_take (i := 8) (oi := { dst := some 25, op := Op.fieldAddr 38 (Operand.tmp 24) 0, type := 0, pos := "ref.go:232", after := #[{ on := 7, ground := Ground.data }], guard := none }) (v := ?vv10_6_8) rfl (by kernel_rfl) (by kernel_rfl) (by kernel_rfl) (fun _ _ _ h => h) (Or.inl ⟨by rfl, ?yy10_6_8⟩) hHeld ?_
      case yy10_6_8 => (intro W hx; go_simp; try with_reducible rfl)
      simp only [Act.put, List.setIfInBounds_toArray, List.set_cons_zero, List.set_cons_succ]
      refine wpAnyH_take (i := 9) (oi := { dst := some 26, op := Op.load 5 (Operand.tmp 25), type := 5, pos := "ref.go:232", after := #[{ on := 8, ground := Ground.data }], guard := none }) (v := ?vv11_6_9) rfl (by kernel_rfl) (by kernel_rfl) (by kernel_rfl) (fun _ _ _ h => h) (Or.inl ⟨by rfl, ?yy11_6_9⟩) hHeld ?_
      case yy11_6_9 => (intro W hx; have hz := zz0.trans hx; have m0 := cell_ext hz HC.out.2.2.2.1; go_simp; try with_reducible rfl)
      simp only [Act.put, List.setIfInBounds_toArray, List.set_cons_zero, List.set_cons_succ]
      refine wpAnyH_take (i := 10) (oi := { dst := some 27, op := Op.binOp BinOp.neq 5 (Operand.tmp 21) (Operand.tmp 26) 5, type := 4, pos := "ref.go:232", after := #[{ on := 4, ground := Ground.data }, { on := 9, ground := Ground.data }], guard := none }) (v := ?vv12_6_10) rfl (by kernel_rfl) (by kernel_rfl) (by kernel_rfl) (fun _ _ _ h => h) (Or.inl ⟨by rfl, ?yy12_6_10⟩) hHeld ?_
      case yy12_6_10 => (intro W hx; go_simp; try with_reducible rfl)
      simp only [Act.put, List.setIfInBounds_toArray, List.set_cons_zero, List.set_cons_succ]
      refine wpAnyH_take (i := 11) (oi := { dst := some 28, op := Op.move (Operand.tmp 27), type := 4, pos := "ref.go:232", after := #[{ on := 10, ground := Ground.data }], guard := none }) (v := ?vv13_6_11) rfl (by kernel_rfl) (by kernel_rfl) (by kernel_rfl) (fun _ _ _ h => h) (Or.inl ⟨by rfl, ?yy13_6_11⟩) hHeld ?_
      case yy13_6_11 => (intro W hx; go_simp; try with_reducible rfl)
      simp only [Act.put, List.setIfInBounds_toArray, List.set_cons_zero, List.set_cons_succ]
      refine wpAnyH_take (i := 12) (oi := { dst := some 29, op := Op.move (Operand.tmp 0), type := 32, pos := "ref.go:232", after := #[{ on := 11, ground := Ground.guard }], guard := some (11, false) }) (v := ?vv14_6_12) rfl (by kernel_rfl) (by kernel_rfl) (by kernel_rfl) (fun _ _ _ h => h) (Or.inl ⟨by rfl, ?yy14_6_12⟩) hHeld ?_
      case yy14_6_12 => (intro W hx; go_simp; try with_reducible rfl)
      simp only [Act.put, List.setIfInBounds_toArray, List.set_cons_zero, List.set_cons_succ]
      refine wpAnyH_take (i := 13) (oi := { dst := some 30, op := Op.move (Operand.tmp 5), type := 3, pos := "ref.go:232", after := #[{ on := 11, ground := Ground.guard }], guard := some (11, false) }) (v := ?vv15_6_13) rfl (by kernel_rfl) (by kernel_rfl) (by kernel_rfl) (fun _ _ _ h => h) (Or.inl ⟨by rfl, ?yy15_6_13⟩) hHeld ?_
      case yy15_6_13 => (intro W hx; go_simp; try with_reducible rfl)
      simp only [Act.put, List.setIfInBounds_toArray, List.set_cons_zero, List.set_cons_succ]
      refine wpAnyH_take (i := 14) (oi := { dst := some 31, op := Op.indexAddr 32 (Operand.tmp 29) (Operand.tmp 30), type := 0, pos := "ref.go:232", after := #[{ on := 12, ground := Ground.data }, { on := 13, ground := Ground.data }, { on := 11, ground := Ground.guard }], guard := some (11, false) }) (v := ?vv16_6_14) rfl (by kernel_rfl) (by kernel_rfl) (by kernel_rfl) (fun _ _ _ h => h) (Or.inl ⟨by rfl, ?yy16_6_14⟩) hHeld ?_
      case yy16_6_14 => (intro W hx; go_simp; try with_reducible rfl)
      simp only [Act.put, List.setIfInBounds_toArray, List.set_cons_zero, List.set_cons_succ]
      refine wpAnyH_take (i := 15) (oi := { dst := some 32, op := Op.fieldAddr 38 (Operand.tmp 31) 1, type := 0, pos := "ref.go:232", after := #[{ on := 14, ground := Ground.data }, { on := 11, ground := Ground.guard }], guard := some (11, false) }) (v := ?vv17_6_15) rfl (by kernel_rfl) (by kernel_rfl) (by kernel_rfl) (fun _ _ _ h => h) (Or.inl ⟨by rfl, ?yy17_6_15⟩) hHeld ?_
      case yy17_6_15 => (intro W hx; go_simp; try with_reducible rfl)
      simp only [Act.put, List.setIfInBounds_toArray, List.set_cons_zero, List.set_cons_succ]
      refine wpAnyH_take (i := 16) (oi := { dst := some 33, op := Op.load 5 (Operand.tmp 32), type := 5, pos := "ref.go:232", after := #[{ on := 15, ground := Ground.data }, { on := 11, ground := Ground.guard }], guard := some (11, false) }) (v := ?vv18_6_16) rfl (by kernel_rfl) (by kernel_rfl) (by kernel_rfl) (fun _ _ _ h => h) (Or.inl ⟨by rfl, ?yy18_6_16⟩) hHeld ?_
      case yy18_6_16 => (intro W hx; have hz := zz0.trans hx; have m0 := cell_ext hz HC.out.2.1; go_simp; try with_reducible rfl)
      simp only [Act.put, List.setIfInBounds_toArray, List.set_cons_zero, List.set_cons_succ]
      refine wpAnyH_take (i := 17) (oi := { dst := some 34, op := Op.move (Operand.tmp 1), type := 32, pos := "ref.go:232", after := #[{ on := 11, ground := Ground.guard }], guard := some (11, false) }) (v := ?vv19_6_17) rfl (by kernel_rfl) (by kernel_rfl) (by kernel_rfl) (fun _ _ _ h => h) (Or.inl ⟨by rfl, ?yy19_6_17⟩) hHeld ?_
      case yy19_6_17 => (intro W hx; go_simp; try with_reducible rfl)
      simp only [Act.put, List.setIfInBounds_toArray, List.set_cons_zero, List.set_cons_succ]
      refine wpAnyH_take (i := 18) (oi := { dst := some 35, op := Op.move (Operand.tmp 5), type := 3, pos := "ref.go:232", after := #[{ on := 11, ground := Ground.guard }], guard := some (11, false) }) (v := ?vv20_6_18) rfl (by kernel_rfl) (by kernel_rfl) (by kernel_rfl) (fun _ _ _ h => h) (Or.inl ⟨by rfl, ?yy20_6_18⟩) hHeld ?_
      case yy20_6_18 => (intro W hx; go_simp; try with_reducible rfl)
      simp only [Act.put, List.setIfInBounds_toArray, List.set_cons_zero, List.set_cons_succ]
      refine wpAnyH_take (i := 19) (oi := { dst := some 36, op := Op.indexAddr 32 (Operand.tmp 34) (Operand.tmp 35), type := 0, pos := "ref.go:232", after := #[{ on := 17, ground := Ground.data }, { on := 18, ground := Ground.data }, { on := 11, ground := Ground.guard }], guard := some (11, false) }) (v := ?vv21_6_19) rfl (by kernel_rfl) (by kernel_rfl) (by kernel_rfl) (fun _ _ _ h => h) (Or.inl ⟨by rfl, ?yy21_6_19⟩) hHeld ?_
      case yy21_6_19 => (intro W hx; go_simp; try with_reducible rfl)
      simp only [Act.put, List.setIfInBounds_toArray, List.set_cons_zero, List.set_cons_succ]
      refine wpAnyH_take (i := 20) (oi := { dst := some 37, op := Op.fieldAddr 38 (Operand.tmp 36) 1, type := 0, pos := "ref.go:232", after := #[{ on := 19, ground := Ground.data }, { on := 11, ground := Ground.guard }], guard := some (11, false) }) (v := ?vv22_6_20) rfl (by kernel_rfl) (by kernel_rfl) (by kernel_rfl) (fun _ _ _ h => h) (Or.inl ⟨by rfl, ?yy22_6_20⟩) hHeld ?_
      case yy22_6_20 => (intro W hx; go_simp; try with_reducible rfl)
      simp only [Act.put, List.setIfInBounds_toArray, List.set_cons_zero, List.set_cons_succ]
      refine wpAnyH_take (i := 21) (oi := { dst := some 38, op := Op.load 5 (Operand.tmp 37), type := 5, pos := "ref.go:232", after := #[{ on := 20, ground := Ground.data }, { on := 11, ground := Ground.guard }], guard := some (11, false) }) (v := ?vv23_6_21) rfl (by kernel_rfl) (by kernel_rfl) (by kernel_rfl) (fun _ _ _ h => h) (Or.inl ⟨by rfl, ?yy23_6_21⟩) hHeld ?_
      case yy23_6_21 => (intro W hx; have hz := zz0.trans hx; have m0 := cell_ext hz HC.out.2.2.2.2.1; go_simp; try with_reducible rfl)
      simp only [Act.put, List.setIfInBounds_toArray, List.set_cons_zero, List.set_cons_succ]
      refine wpAnyH_take (i := 22) (oi := { dst := some 39, op := Op.binOp BinOp.neq 5 (Operand.tmp 33) (Operand.tmp 38) 5, type := 4, pos := "ref.go:232", after := #[{ on := 16, ground := Ground.data }, { on := 21, ground := Ground.data }, { on := 11, ground := Ground.guard }], guard := some (11, false) }) (v := ?vv24_6_22) rfl (by kernel_rfl) (by kernel_rfl) (by kernel_rfl) (fun _ _ _ h => h) (Or.inl ⟨by rfl, ?yy24_6_22⟩) hHeld ?_
      case yy24_6_22 => (intro W hx; go_simp; try with_reducible rfl)
      simp only [Act.put, List.setIfInBounds_toArray, List.set_cons_zero, List.set_cons_succ]
      refine wpAnyH_take (i := 23) (oi := { dst := some 40, op := Op.pick (Operand.tmp 28) (Operand.const (Value.bool true)) (Operand.tmp 39), type := 4, pos := "ref.go:232", after := #[{ on := 11, ground := Ground.data }, { on := 22, ground := Ground.data }], guard := none }) (v := ?vv25_6_23) rfl (by kernel_rfl) (by kernel_rfl) (by kernel_rfl) (fun _ _ _ h => h) (Or.inl ⟨by rfl, ?yy25_6_23⟩) hHeld ?_
      case yy25_6_23 => (intro W hx; go_simp; try with_reducible rfl)
      simp only [Act.put, List.setIfInBounds_toArray, List.set_cons_zero, List.set_cons_succ]
      refine wpAnyH_take (i := 24) (oi := { dst := some 41, op := Op.move (Operand.tmp 40), type := 4, pos := "ref.go:232", after := #[{ on := 23, ground := Ground.data }, { on := 11, ground := Ground.chain }], guard := none }) (v := ?vv26_6_24) rfl (by kernel_rfl) (by kernel_rfl) (by kernel_rfl) (fun _ _ _ h => h) (Or.inl ⟨by rfl, ?yy26_6_24⟩) hHeld ?_
      case yy26_6_24 => (intro W hx; go_simp; try with_reducible rfl)
      simp only [Act.put, List.setIfInBounds_toArray, List.set_cons_zero, List.set_cons_succ]
      refine wpAnyH_take (i := 25) (oi := { dst := some 42, op := Op.move (Operand.tmp 0), type := 32, pos := "ref.go:232", after := #[{ on := 24, ground := Ground.guard }], guard := some (24, false) }) (v := ?vv27_6_25) rfl (by kernel_rfl) (by kernel_rfl) (by kernel_rfl) (fun _ _ _ h => h) (Or.inl ⟨by rfl, ?yy27_6_25⟩) hHeld ?_
      case yy27_6_25 => (intro W hx; go_simp; try with_reducible rfl)
      simp only [Act.put, List.setIfInBounds_toArray, List.set_cons_zero, List.set_cons_succ]
      refine wpAnyH_take (i := 26) (oi := { dst := some 43, op := Op.move (Operand.tmp 5), type := 3, pos := "ref.go:232", after := #[{ on := 24, ground := Ground.guard }], guard := some (24, false) }) (v := ?vv28_6_26) rfl (by kernel_rfl) (by kernel_rfl) (by kernel_rfl) (fun _ _ _ h => h) (Or.inl ⟨by rfl, ?yy28_6_26⟩) hHeld ?_
      case yy28_6_26 => (intro W hx; go_simp; try with_reducible rfl)
      simp only [Act.put, List.setIfInBounds_toArray, List.set_cons_zero, List.set_cons_succ]
      refine wpAnyH_take (i := 27) (oi := { dst := some 44, op := Op.indexAddr 32 (Operand.tmp 42) (Operand.tmp 43), type := 0, pos := "ref.go:232", after := #[{ on := 25, ground := Ground.data }, { on := 26, ground := Ground.data }, { on := 24, ground := Ground.guard }], guard := some (24, false) }) (v := ?vv29_6_27) rfl (by kernel_rfl) (by kernel_rfl) (by kernel_rfl) (fun _ _ _ h => h) (Or.inl ⟨by rfl, ?yy29_6_27⟩) hHeld ?_
      case yy29_6_27 => (intro W hx; go_simp; try with_reducible rfl)
      simp only [Act.put, List.setIfInBounds_toArray, List.set_cons_zero, List.set_cons_succ]
      refine wpAnyH_take (i := 28) (oi := { dst := some 45, op := Op.fieldAddr 38 (Operand.tmp 44) 2, type := 0, pos := "ref.go:232", after := #[{ on := 27, ground := Ground.data }, { on := 24, ground := Ground.guard }], guard := some (24, false) }) (v := ?vv30_6_28) rfl (by kernel_rfl) (by kernel_rfl) (by kernel_rfl) (fun _ _ _ h => h) (Or.inl ⟨by rfl, ?yy30_6_28⟩) hHeld ?_
      case yy30_6_28 => (intro W hx; go_simp; try with_reducible rfl)
      simp only [Act.put, List.setIfInBounds_toArray, List.set_cons_zero, List.set_cons_succ]
      refine wpAnyH_take (i := 29) (oi := { dst := some 46, op := Op.load 36 (Operand.tmp 45), type := 36, pos := "ref.go:232", after := #[{ on := 28, ground := Ground.data }, { on := 24, ground := Ground.guard }], guard := some (24, false) }) (v := ?vv31_6_29) rfl (by kernel_rfl) (by kernel_rfl) (by kernel_rfl) (fun _ _ _ h => h) (Or.inl ⟨by rfl, ?yy31_6_29⟩) hHeld ?_
      case yy31_6_29 => (intro W hx; have hz := zz0.trans hx; have m0 := cell_ext hz HC.out.2.2.1; go_simp; try with_reducible rfl)
      simp only [Act.put, List.setIfInBounds_toArray, List.set_cons_zero, List.set_cons_succ]
      refine wpAnyH_take (i := 30) (oi := { dst := some 47, op := Op.convert 36 9 (Operand.tmp 46), type := 9, pos := "ref.go:232", after := #[{ on := 29, ground := Ground.data }, { on := 24, ground := Ground.guard }], guard := some (24, false) }) (v := ?vv32_6_30) rfl (by kernel_rfl) (by kernel_rfl) (by kernel_rfl) (fun _ _ _ h => h) (Or.inl ⟨by rfl, ?yy32_6_30⟩) hHeld ?_
      case yy32_6_30 => (intro W hx; have hz := zz0.trans hx; have s1 := str (c := x.c) (HS.out.1.ext hz); go_simp; try with_reducible rfl)
      simp only [Act.put, List.setIfInBounds_toArray, List.set_cons_zero, List.set_cons_succ]
      refine wpAnyH_take (i := 31) (oi := { dst := some 48, op := Op.move (Operand.tmp 1), type := 32, pos := "ref.go:232", after := #[{ on := 24, ground := Ground.guard }], guard := some (24, false) }) (v := ?vv33_6_31) rfl (by kernel_rfl) (by kernel_rfl) (by kernel_rfl) (fun _ _ _ h => h) (Or.inl ⟨by rfl, ?yy33_6_31⟩) hHeld ?_
      case yy33_6_31 => (intro W hx; go_simp; try with_reducible rfl)
      simp only [Act.put, List.setIfInBounds_toArray, List.set_cons_zero, List.set_cons_succ]
      refine wpAnyH_take (i := 32) (oi := { dst := some 49, op := Op.move (Operand.tmp 5), type := 3, pos := "ref.go:232", after := #[{ on := 24, ground := Ground.guard }], guard := some (24, false) }) (v := ?vv34_6_32) rfl (by kernel_rfl) (by kernel_rfl) (by kernel_rfl) (fun _ _ _ h => h) (Or.inl ⟨by rfl, ?yy34_6_32⟩) hHeld ?_
      case yy34_6_32 => (intro W hx; go_simp; try with_reducible rfl)
      simp only [Act.put, List.setIfInBounds_toArray, List.set_cons_zero, List.set_cons_succ]
      refine wpAnyH_take (i := 33) (oi := { dst := some 50, op := Op.indexAddr 32 (Operand.tmp 48) (Operand.tmp 49), type := 0, pos := "ref.go:232", after := #[{ on := 31, ground := Ground.data }, { on := 32, ground := Ground.data }, { on := 24, ground := Ground.guard }], guard := some (24, false) }) (v := ?vv35_6_33) rfl (by kernel_rfl) (by kernel_rfl) (by kernel_rfl) (fun _ _ _ h => h) (Or.inl ⟨by rfl, ?yy35_6_33⟩) hHeld ?_
      case yy35_6_33 => (intro W hx; go_simp; try with_reducible rfl)
      simp only [Act.put, List.setIfInBounds_toArray, List.set_cons_zero, List.set_cons_succ]
      refine wpAnyH_take (i := 34) (oi := { dst := some 51, op := Op.fieldAddr 38 (Operand.tmp 50) 2, type := 0, pos := "ref.go:232", after := #[{ on := 33, ground := Ground.data }, { on := 24, ground := Ground.guard }], guard := some (24, false) }) (v := ?vv36_6_34) rfl (by kernel_rfl) (by kernel_rfl) (by kernel_rfl) (fun _ _ _ h => h) (Or.inl ⟨by rfl, ?yy36_6_34⟩) hHeld ?_
      case yy36_6_34 => (intro W hx; go_simp; try with_reducible rfl)
      simp only [Act.put, List.setIfInBounds_toArray, List.set_cons_zero, List.set_cons_succ]
      refine wpAnyH_take (i := 35) (oi := { dst := some 52, op := Op.load 36 (Operand.tmp 51), type := 36, pos := "ref.go:232", after := #[{ on := 34, ground := Ground.data }, { on := 24, ground := Ground.guard }], guard := some (24, false) }) (v := ?vv37_6_35) rfl (by kernel_rfl) (by kernel_rfl) (by kernel_rfl) (fun _ _ _ h => h) (Or.inl ⟨by rfl, ?yy37_6_35⟩) hHeld ?_
      case yy37_6_35 => (intro W hx; have hz := zz0.trans hx; have m0 := cell_ext hz HC.out.2.2.2.2.2; go_simp; try with_reducible rfl)
      simp only [Act.put, List.setIfInBounds_toArray, List.set_cons_zero, List.set_cons_succ]
      refine wpAnyH_take (i := 36) (oi := { dst := some 53, op := Op.convert 36 9 (Operand.tmp 52), type := 9, pos := "ref.go:232", after := #[{ on := 35, ground := Ground.data }, { on := 24, ground := Ground.guard }], guard := some (24, false) }) (v := ?vv38_6_36) rfl (by kernel_rfl) (by kernel_rfl) (by kernel_rfl) (fun _ _ _ h => h) (Or.inl ⟨by rfl, ?yy38_6_36⟩) hHeld ?_
      case yy38_6_36 => (intro W hx; have hz := zz0.trans hx; have s2 := str (c := y.c) (HS.out.2.ext hz); go_simp; try with_reducible rfl)
      simp only [Act.put, List.setIfInBounds_toArray, List.set_cons_zero, List.set_cons_succ]
      refine wpAnyH_take (i := 37) (oi := { dst := some 54, op := Op.binOp BinOp.neq 9 (Operand.tmp 47) (Operand.tmp 53) 9, type := 4, pos := "ref.go:232", after := #[{ on := 30, ground := Ground.data }, { on := 36, ground := Ground.data }, { on := 24, ground := Ground.guard }], guard := some (24, false) }) (v := ?vv39_6_37) rfl (by kernel_rfl) (by kernel_rfl) (by kernel_rfl) (fun _ _ _ h => h) (Or.inl ⟨by rfl, ?yy39_6_37⟩) hHeld ?_
      case yy39_6_37 => (intro W hx; go_simp; try with_reducible rfl)
      simp only [Act.put, List.setIfInBounds_toArray, List.set_cons_zero, List.set_cons_succ]
      refine wpAnyH_take (i := 38) (oi := { dst := some 55, op := Op.pick (Operand.tmp 41) (Operand.const (Value.bool true)) (Operand.tmp 54), type := 4, pos := "ref.go:232", after := #[{ on := 24, ground := Ground.data }, { on := 37, ground := Ground.data }], guard := none }) (v := ?vv40_6_38) rfl (by kernel_rfl) (by kernel_rfl) (by kernel_rfl) (fun _ _ _ h => h) (Or.inl ⟨by rfl, ?yy40_6_38⟩) hHeld ?_
      case yy40_6_38 => (intro W hx; go_simp; try with_reducible rfl)
      simp only [Act.put, List.setIfInBounds_toArray, List.set_cons_zero, List.set_cons_succ]
      refine wpAnyH_done (by kernel_rfl) ?_ _
      have zend := zz0.trans hHeld
      go_wp2
      go_roundw
      case rel => exact ⟨k + 1, by go_num, by omega, xr.trans zend⟩
      case measure => simp [intOf]; omega
    · obtain rfl : k = n := by omega
      go_wp2
      go_ret
      exact ⟨rfl, xr⟩
end Go.Proofs.Ytdhdkjiphapliaa
