import Derived.Test.YtnjiajogbadadaaE
set_option linter.unusedVariables false
set_option linter.unusedSimpArgs false
namespace Go.Proofs.Ytnjiajogbadadaa
open Go.RowKit
structure LSt where
  all : Int
  lk : Int
  seed : List Int
  res : Int
  told : Nat
  key : List Int
structure LSt.ok (s : LSt) : Prop where
  all : 0 ≤ s.all ∧ s.all < 256
  lk : 0 ≤ s.lk ∧ s.lk < 256
  res : 0 ≤ s.res ∧ s.res < 256
  told : s.told ≤ s.seed.length
  len : s.seed.length ≤ 20
  key : s.key.length ≤ s.seed.length
structure LkR (w : World) (g : Nat) (s : LSt) (F : Nat → Prop) (sA : Option Addr) (sc : Nat) (kA : Option Addr) (kc : Nat) : Prop where
  row : w.heap[g]? = some (.cells #[.int .u8 s.all, .int .u8 s.lk, .slice sA s.seed.length sc, .int .u8 s.res, .int .i64 (s.told : Int), .slice kA s.key.length kc] 48 (0, 0))
  seed : Rd w sA s.seed.length s.seed
  cap : s.seed.length ≤ sc
  own : w.ownsRow 0 5 1 (.slice kA s.key.length kc) s.key.length (u8s s.key)
  kby : Byts s.key
  fg : F g
  fs : ∀ ad, sA = some ad → F ad.block ∧ ad.block ≠ g
  fk : ∀ b, Value.ownBlock (.slice kA s.key.length kc) = some b → F b ∧ b ≠ g ∧ ∀ ad, sA = some ad → ad.block ≠ b
  lt : ∀ k, F k → k < w.heap.size
  ok : s.ok
def LkC (w : World) (g : Nat) (s : LSt) (F : Nat → Prop) : Prop := ∃ sA sc kA kc, LkR w g s F sA sc kA kc
theorem LkC.kept {w w' : World} {g : Nat} {s : LSt} {F G : Nat → Prop} (h : LkC w g s F) (k : Kept G w w') (hn : ∀ i, F i → ¬ G i) : LkC w' g s F := by
  obtain ⟨sA, sc, kA, kc, h⟩ := h
  exact ⟨sA, sc, kA, kc, k.blk h.row (hn _ h.fg), h.seed.kept k (fun ad e => hn _ (h.fs ad e).1), h.cap, own_keptF h.own k (fun b e => hn _ (h.fk b e).1), h.kby, h.fg, h.fs, h.fk, fun i hi => Nat.lt_of_lt_of_le (h.lt i hi) k.size, h.ok⟩
theorem LkC.ext {w w' : World} {g : Nat} {s : LSt} {F : Nat → Prop} (h : LkC w g s F) (k : Ext w w') : LkC w' g s F := h.kept (G := fun _ => False) (.of_ext k) (fun _ _ e => e)
def LSt.clear (s : LSt) : LSt := ⟨s.all, s.lk, [], 0, 0, []⟩
def oneR (r : Int) : Bool := r == 1 || r == 4 || r == 8
structure LOut where
  st : LSt
  n : Int
  part : List Int
  err : Int
def LSt.part (s : LSt) : LOut := ⟨{ s with told := s.told + partN s.seed.length s.told }, ((s.seed.length - s.told : Nat) : Int), (s.seed.drop s.told).take (partN s.seed.length s.told), 0⟩
def LSt.doSeed (s : LSt) (mode res : Int) (draw : List Int) : LOut :=
  if mode = 0 then
    if oneR res = false ∨ draw.length < 1 ∨ 20 < draw.length then ⟨s, 0, [], 1⟩
    else if bits .and .u8 s.lk res = 0 then ⟨s.clear, 0, [], 0⟩
    else LSt.part { s.clear with seed := draw, res := res }
  else if mode = 1 then
    if s.told = s.seed.length then ⟨s, 0, [], 90⟩ else s.part
  else ⟨s, 0, [], 1⟩
theorem LSt.clear_ok {s : LSt} (h : s.ok) : s.clear.ok := ⟨h.all, h.lk, by simp [LSt.clear], by simp [LSt.clear], by simp [LSt.clear], by simp [LSt.clear]⟩
theorem partN_le {n t : Nat} (h : t ≤ n) : t + partN n t ≤ n := by unfold partN; omega
theorem LSt.part_ok {s : LSt} (h : s.ok) : s.part.st.ok := ⟨h.all, h.lk, h.res, partN_le h.told, h.len, h.key⟩
theorem part_len {s : LSt} : s.part.part.length = partN s.seed.length s.told := by simp [LSt.part, partN]
def SeedPost (w : World) (g : Nat) (F : Nat → Prop) (o : LOut) (e : Ending) (w' : World) : Prop :=
  ∃ A c F', e = .returned (.tuple #[.int .i64 o.n, .slice A o.part.length c, .int .i64 o.err]) ∧ LkC w' g o.st F' ∧ Kept F w w' ∧ Rd w' A o.part.length o.part ∧ o.part.length ≤ c ∧ c ≤ maxLen ∧
    (∀ k, F' k → F k ∨ w.heap.size ≤ k) ∧ ∀ ad, A = some ad → w.heap.size ≤ ad.block ∧ ¬ F' ad.block
theorem seedPost_same {w w' : World} {g : Nat} {F : Nat → Prop} {s : LSt} {n err : Int} (h : LkC w g s F) (hx : Ext w w') : SeedPost w g F ⟨s, n, [], err⟩ (.returned (.tuple #[.int .i64 n, .slice none 0 0, .int .i64 err])) w' :=
  ⟨none, 0, F, rfl, h.ext hx, .of_ext hx, Rd.nil, Nat.le_refl _, by simp, fun k e => .inl e, fun ad e => by cases e⟩
end Go.Proofs.Ytnjiajogbadadaa
