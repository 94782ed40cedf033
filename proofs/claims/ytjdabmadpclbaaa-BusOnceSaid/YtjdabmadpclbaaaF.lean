import Derived.Test.YtjdabmadpclbaaaE
set_option linter.unusedVariables false
set_option linter.unusedSimpArgs false
namespace Go.Proofs.Ytjdabmadpclbaaa
open Go.RowKit
structure Fi where
  mask : Int
  id : Int
  ext : Bool
deriving DecidableEq
def Fi.vals (f : Fi) : List Value := [.int .u32 f.mask, .int .u32 f.id, .bool f.ext]
def Fi.ok (f : Fi) : Prop := (0 ≤ f.mask ∧ f.mask < 4294967296) ∧ 0 ≤ f.id ∧ f.id < 4294967296
def fis (l : List Fi) : List Value := l.flatMap Fi.vals
theorem fis_len : ∀ l : List Fi, (fis l).length = l.length * 3
  | [] => rfl
  | f :: l => by have := fis_len l; simp only [fis] at this; simp [fis, Fi.vals, this]; omega
theorem fis_take : ∀ (l : List Fi) (k : Nat), (fis l).take (k * 3) = fis (l.take k)
  | [], k => by simp [fis]
  | f :: l, 0 => by simp [fis]
  | f :: l, k + 1 => by
    have := fis_take l k
    simp only [fis] at this
    rw [List.take_succ_cons]
    simp only [fis, List.flatMap_cons]
    rw [List.take_append, ← this]
    rw [List.take_of_length_le (by simp [Fi.vals]; omega), show (k + 1) * 3 - (Fi.vals f).length = k * 3 by simp [Fi.vals]; omega]
theorem fis_drop : ∀ (l : List Fi) (k : Nat), (fis l).drop (k * 3) = fis (l.drop k)
  | [], k => by simp [fis]
  | f :: l, 0 => by simp [fis]
  | f :: l, k + 1 => by
    have := fis_drop l k
    simp only [fis] at this
    rw [List.drop_succ_cons]
    simp only [fis, List.flatMap_cons]
    rw [List.drop_append, ← this]
    rw [List.drop_of_length_le (by simp [Fi.vals]; omega), show (k + 1) * 3 - (Fi.vals f).length = k * 3 by simp [Fi.vals]; omega]
    rfl
theorem fis_at {l : List Fi} {k : Nat} {f : Fi} (h : l[k]? = some f) (j : Nat) (v : Value) (hj : f.vals[j]? = some v) : (fis l)[k * 3 + j]? = some v := by
  have hk : k < l.length := (List.getElem?_eq_some_iff.1 h).1
  have e : l.drop k = f :: l.drop (k + 1) := by
    rw [List.drop_eq_getElem_cons hk]
    congr 1
    have := List.getElem?_eq_some_iff.1 h
    exact this.2
  rw [← List.getElem?_drop, fis_drop, e]
  simp only [fis, List.flatMap_cons]
  rw [List.getElem?_append_left (List.getElem?_eq_some_iff.1 hj).1]
  exact hj
theorem fi_one (f : Fi) : ∀ v ∈ f.vals, v.oneCell' = true := by
  intro v hv
  simp [Fi.vals] at hv
  rcases hv with rfl | rfl | rfl <;> rfl
theorem fis_one (l : List Fi) : ∀ v ∈ fis l, v.oneCell' = true := by
  intro v hv
  simp only [fis, List.mem_flatMap] at hv
  obtain ⟨f, _, hv⟩ := hv
  exact fi_one f v hv
theorem Shows.fi {w : World} {A : Option Addr} {n : Nat} {l : List Fi} (h : Shows w 3 A n (fis l)) (hn : n = l.length) {k : Nat} {f : Fi} (hk : l[k]? = some f) :
    ∃ b o, A = some ⟨b, o, none⟩ ∧ b < w.heap.size ∧ w.rangeAt b (o + k * 3) f.vals := by
  have hkl : k < l.length := (List.getElem?_eq_some_iff.1 hk).1
  obtain ⟨⟨b, o, spot⟩, rfl, hb, hc⟩ := h.2 (by omega)
  have h00 : 0 < (fis l).length := by rw [fis_len]; omega
  have h0 := hc 0 _ (List.getElem?_eq_getElem h00)
  have hs : spot = none := by simpa [Addr.add] using World.cell?_spot h0
  subst hs
  refine ⟨b, o, rfl, hb, fun j v hj => ?_⟩
  have := hc _ v (fis_at hk j v hj)
  rwa [Addr.add_mid, ← Nat.add_assoc] at this
theorem size53 : (Try.prog.info? 61).map (·.size) = some 3 := by kernel_rfl
theorem el22 : Elem Try.prog 22 61 3 12 (.agg #[.int .u32 0, .int .u32 0, .bool false]) := Elem.mk' Try.underlying22 (by kernel_rfl) rfl (by omega)
theorem fld_op {w : World} {b o : Nat} {f : Fi} {ρ : Operand → Value} {dst : Option Tmp} {x : Operand} {ty : TypeId} {pos : String} {af : Array Edge} {gd : Option (Nat × Bool)} (h : w.rangeAt b o f.vals) (hx : ρ x = .pointer (some ⟨b, o, none⟩)) :
    (execOp ρ { dst := dst, op := .load 61 x, type := ty, pos := pos, after := af, guard := gd }).run Try.prog w = .ok (.value (.agg f.vals.toArray)) w := by
  unfold execOp
  simp only [hx, Instr.loadAt, Instr.sureAddr, Sem.run_bind, Sem.run_pure, Result.andThen_ok, run_loadVar_mid w b o 61 f.vals _ h Try.underlying61 rfl size53]
structure BSt where
  fl : List Fi
  tx : List Fr
  rx : List Fr
  lost : Bool
structure BSt.ok (s : BSt) : Prop where
  fl : ∀ x ∈ s.fl, Fi.ok x
  tx : ∀ x ∈ s.tx, Fr.ok x
  rx : ∀ x ∈ s.rx, Fr.ok x
  nf : s.fl.length ≤ 8
  nt : s.tx.length ≤ 3
  nr : s.rx.length ≤ 4
structure BxR (w : World) (ty : TypeId) (g : Nat) (s : BSt) (F : Nat → Prop) (fA : Option Addr) (fc : Nat) (tA : Option Addr) (tc : Nat) (rA : Option Addr) (rc : Nat) : Prop where
  row : w.heap[g]? = some (.cells #[.slice fA s.fl.length fc, .slice tA s.tx.length tc, .slice rA s.rx.length rc, .bool s.lost] ty (0, 0))
  fil : w.ownsRow 0 61 3 (.slice fA s.fl.length fc) s.fl.length (fis s.fl)
  tx : w.ownsRow 0 34 11 (.slice tA s.tx.length tc) s.tx.length (frs s.tx)
  rx : w.ownsRow 0 34 11 (.slice rA s.rx.length rc) s.rx.length (frs s.rx)
  fg : F g
  ff : ∀ b, Value.ownBlock (.slice fA s.fl.length fc) = some b → F b
  ft : ∀ b, Value.ownBlock (.slice tA s.tx.length tc) = some b → F b ∧ Value.ownBlock (.slice rA s.rx.length rc) ≠ some b
  fr : ∀ b, Value.ownBlock (.slice rA s.rx.length rc) = some b → F b
  lt : ∀ k, F k → k < w.heap.size
  ok : s.ok
def BxC (w : World) (ty : TypeId) (g : Nat) (s : BSt) (F : Nat → Prop) : Prop := (ty = 71 ∨ ty = 53) ∧ ∃ fA fc tA tc rA rc, BxR w ty g s F fA fc tA tc rA rc
theorem BxC.kept {w w' : World} {ty : TypeId} {g : Nat} {s : BSt} {F G : Nat → Prop} (h : BxC w ty g s F) (k : Kept G w w') (hn : ∀ i, F i → ¬ G i) : BxC w' ty g s F := by
  obtain ⟨hty, fA, fc, tA, tc, rA, rc, h⟩ := h
  exact ⟨hty, fA, fc, tA, tc, rA, rc, k.blk h.row (hn _ h.fg), own_keptF h.fil k (fun b e => hn _ (h.ff b e)), own_keptF h.tx k (fun b e => hn _ (h.ft b e).1), own_keptF h.rx k (fun b e => hn _ (h.fr b e)), h.fg, h.ff, h.ft, h.fr, fun i hi => Nat.lt_of_lt_of_le (h.lt i hi) k.size, h.ok⟩
theorem BxC.ext {w w' : World} {ty : TypeId} {g : Nat} {s : BSt} {F : Nat → Prop} (h : BxC w ty g s F) (k : Ext w w') : BxC w' ty g s F := h.kept (G := fun _ => False) (.of_ext k) (fun _ _ e => e)
theorem BxC.lt {w : World} {ty : TypeId} {g : Nat} {s : BSt} {F : Nat → Prop} (h : BxC w ty g s F) : ∀ k, F k → k < w.heap.size := by obtain ⟨_, _, _, _, _, _, _, h⟩ := h; exact h.lt
theorem BxC.ok {w : World} {ty : TypeId} {g : Nat} {s : BSt} {F : Nat → Prop} (h : BxC w ty g s F) : s.ok := by obtain ⟨_, _, _, _, _, _, _, h⟩ := h; exact h.ok
def BSt.next (s : BSt) : Fr × Bool := if s.tx = [] then (Fr.zero, false) else (s.tx.getD (best s.tx) Fr.zero, true)
def BSt.done (s : BSt) : BSt := if s.tx = [] then s else { s with tx := s.tx.eraseIdx (best s.tx) }
def BSt.send (s : BSt) (f : Fr) : BSt × Int := if f.may = false then (s, 1) else if 3 ≤ s.tx.length then (s, 20) else ({ s with tx := s.tx ++ [f] }, 0)
def fits (x : Fi) (f : Fr) : Bool := (x.ext == f.ext) && (bits .and .u32 (bits .xor .u32 x.id f.id) x.mask == 0)
def BSt.lets (s : BSt) (f : Fr) : Bool := s.fl.any (fits · f)
def BSt.take (s : BSt) (f : Fr) : BSt × Bool := if (f.may && s.lets f) = false then (s, false) else if 4 ≤ s.rx.length then ({ s with lost := true }, true) else ({ s with rx := s.rx ++ [f] }, true)
def BSt.recv (s : BSt) : BSt × Fr × Bool := match s.rx with
  | [] => (s, Fr.zero, false)
  | f :: l => ({ s with rx := l }, f, true)
theorem wait_nil (w : World) : Calls Try.prog 21 #[.pointer none] w fun e w' => e = .returned (.int .i64 0) ∧ w = w' := by
  go_enter Try.func21, Try.ntmps21
  go_wp2
  go_ret
  exact ⟨rfl, rfl⟩
theorem taken_nil (w : World) : Calls Try.prog 25 #[.pointer none] w fun e w' => e = .returned (.int .i64 0) ∧ w = w' := by
  go_enter Try.func25, Try.ntmps25
  go_wp2
  go_ret
  exact ⟨rfl, rfl⟩
theorem wait_any {w : World} {g : Nat} {s : BSt} {F : Nat → Prop} (h : BxC w 71 g s F) : Calls Try.prog 21 #[.pointer (some ⟨g, 0, none⟩)] w fun e w' => e = .returned (.int .i64 s.tx.length) ∧ w = w' := by
  obtain ⟨_, fA, fc, tA, tc, rA, rc, h⟩ := h
  obtain ⟨f0, f1, f2, f3⟩ := cells4 h.row
  clear h
  go_enter Try.func21, Try.ntmps21
  go_wp2
  go_ret
  exact ⟨rfl, rfl⟩
theorem taken_any {w : World} {g : Nat} {s : BSt} {F : Nat → Prop} (h : BxC w 71 g s F) : Calls Try.prog 25 #[.pointer (some ⟨g, 0, none⟩)] w fun e w' => e = .returned (.int .i64 s.rx.length) ∧ w = w' := by
  obtain ⟨_, fA, fc, tA, tc, rA, rc, h⟩ := h
  obtain ⟨f0, f1, f2, f3⟩ := cells4 h.row
  clear h
  go_enter Try.func25, Try.ntmps25
  go_wp2
  go_ret
  exact ⟨rfl, rfl⟩
theorem over_nil (w : World) : Calls Try.prog 22 #[.pointer none] w fun e w' => e = .returned (.bool false) ∧ w = w' := by
  go_enter Try.func22, Try.ntmps22
  go_wp2
  go_ret
  exact ⟨rfl, rfl⟩
theorem done_nil (w : World) : Calls Try.prog 32 #[.pointer none] w fun e w' => e = .returned (.tuple #[]) ∧ w = w' := by
  go_enter Try.func32, Try.ntmps32
  go_wp2_with (go_at_call 21; (refine (wait_nil _).mono ?_); rintro e w1 ⟨rfl, rfl⟩)
  try simp only [Exit.inBlock, Exit.then]
  refine bodyPost_ret (results_none rfl _ _ _) rfl ?_
  exact ⟨rfl, rfl⟩
theorem next_nil (w : World) : Calls Try.prog 28 #[.pointer none] w fun e w' => e = .returned (.tuple #[.agg Fr.zero.vals.toArray, .bool false]) ∧ Ext w w' := by
  go_enter Try.func28, Try.ntmps28
  go_wp2_with (go_at_call 21; (refine (wait_nil _).mono ?_); rintro e w1 ⟨rfl, rfl⟩)
  try simp only [Exit.inBlock, Exit.then]
  refine bodyPost_ret (results_row2 rfl rfl (heap_alloc_new w _) Try.underlying34 rfl size37) rfl ?_
  exact ⟨rfl, (Ext.refl _).alloc _⟩
end Go.Proofs.Ytjdabmadpclbaaa
