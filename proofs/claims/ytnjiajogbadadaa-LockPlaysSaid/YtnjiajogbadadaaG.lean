import Derived.Test.YtnjiajogbadadaaF
set_option linter.unusedVariables false
set_option linter.unusedSimpArgs false
namespace Go.Proofs.Ytnjiajogbadadaa
open Go.RowKit
theorem own_nil {w : World} {b : Nat} : w.ownsRow b 5 1 (.slice none 0 0) 0 (u8s []) := ⟨rfl, .inl ⟨rfl, rfl⟩⟩
/-- The object behind noSeed. -/
theorem clear_of {w w' : World} {g : Nat} {s : LSt} {F : Nat → Prop} {sA : Option Addr} {sc : Nat} {kA : Option Addr} {kc : Nat} (h : LkR w g s F sA sc kA kc)
    (K : w'.heap[g]? = some (.cells #[.int .u8 s.all, .int .u8 s.lk, .slice none 0 0, .int .u8 0, .int .i64 0, .slice none 0 0] 48 (0, 0))) (hs : w.heap.size ≤ w'.heap.size) : LkR w' g s.clear F none 0 none 0 :=
  ⟨K, Rd.nil, Nat.le_refl _, own_nil, Byts.nil, h.fg, (fun ad e => nomatch e), (fun b e => nomatch e), fun k hk => Nat.lt_of_lt_of_le (h.lt k hk) hs, LSt.clear_ok h.ok⟩
theorem part_cn (g : Nat) (s : LSt) (F : Nat → Prop) (sA : Option Addr) (sc : Nat) (kA : Option Addr) (kc : Nat) (w : World) (h : LkR w g s F sA sc kA kc) :
    Calls Try.prog 26 #[.pointer (some ⟨g, 0, none⟩)] w fun e w' => ∃ A c, e = .returned (.tuple #[.int .i64 s.part.n, .slice A s.part.part.length c]) ∧ LkC w' g s.part.st F ∧ w.grownBy w' (some g) ∧ Rd w' A s.part.part.length s.part.part ∧ s.part.part.length ≤ c ∧ c ≤ maxLen ∧ ∀ ad, A = some ad → w.heap.size ≤ ad.block := by
  have hl := h.ok.len
  refine (part_any g s.all s.lk sA s.seed.length sc s.res s.told kA s.key.length kc s.seed w h.row h.seed (fun ad e => (h.fs ad e).2) h.cap (by omega) h.ok.told).mono ?_
  rintro e w' ⟨A, c, rfl, l, m, K, r, hg, q⟩
  have k : Kept (· = g) w w' := .of_grown hg (fun b e => by injection e with e; exact e.symm)
  rw [part_len]
  exact ⟨A, c, rfl, ⟨sA, sc, kA, kc, K, h.seed.kept k (fun ad e => (h.fs ad e).2), h.cap, own_keptF h.own k (fun b e => (h.fk b e).2.1), h.kby, h.fg, h.fs, h.fk, fun i hi => Nat.lt_of_lt_of_le (h.lt i hi) k.size, LSt.part_ok h.ok⟩, hg, r, l, m, q⟩
theorem seed_nil (mode res : Int) (dA : Option Addr) (n c : Nat) (w : World) :
    Calls Try.prog 12 #[.pointer none, .int .u8 mode, .int .u8 res, .slice dA n c] w fun e w' => e = .returned (.tuple #[.int .i64 0, .slice none 0 0, .int .i64 2]) ∧ w = w' := by
  go_enter Try.func12, Try.ntmps12
  go_wp2
  go_ret3
  exact ⟨rfl, rfl⟩
set_option maxHeartbeats 1000000 in
theorem seed_bad (g : Nat) (s : LSt) (F : Nat → Prop) (res : Int) (dA : Option Addr) (n c : Nat) (bs : List Int) (w : World) (hr : Rd w dA n bs) (hnm : n ≤ maxLen) (h : LkC w g s F) (hb : oneR res = false ∨ bs.length < 1 ∨ 20 < bs.length) :
    Calls Try.prog 12 #[.pointer (some ⟨g, 0, none⟩), .int .u8 0, .int .u8 res, .slice dA n c] w (SeedPost w g F ⟨s, 0, [], 1⟩) := by
  rw [hr.len] at hb
  unfold maxLen at hnm
  have fin := fun w' (hx : Ext w w') => seedPost_same (n := 0) (err := 1) h hx
  have FIN := Lib.hid fin
  clear fin h hr
  rcases ho : oneR res with _ | _
  · have HO := Lib.hid ho.symm
    clear hb ho
    go_enter Try.func12, Try.ntmps12
    go_wp2_with (go_at_call 23; (refine (isOne_any _ _).mono ?_); rintro e w1 ⟨rfl, rfl⟩; rw [show (res == 1 || res == 4 || res == 8) = false from HO.out.symm])
    go_ret3
    exact FIN.out _ (Ext.refl _)
  · have HO := Lib.hid ho.symm
    rw [ho] at hb
    clear ho
    by_cases h1 : (n : Int) < 1
    · clear hb
      go_enter Try.func12, Try.ntmps12
      go_wp2_with (go_at_call 23; (refine (isOne_any _ _).mono ?_); rintro e w1 ⟨rfl, rfl⟩; rw [show (res == 1 || res == 4 || res == 8) = true from HO.out.symm])
      go_ret3
      exact FIN.out _ (Ext.refl _)
    · have h2 : (20 : Int) < n := by simp at hb; omega
      clear hb
      go_enter Try.func12, Try.ntmps12
      go_wp2_with (go_at_call 23; (refine (isOne_any _ _).mono ?_); rintro e w1 ⟨rfl, rfl⟩; rw [show (res == 1 || res == 4 || res == 8) = true from HO.out.symm])
      go_ret3
      exact FIN.out _ (Ext.refl _)
end Go.Proofs.Ytnjiajogbadadaa
