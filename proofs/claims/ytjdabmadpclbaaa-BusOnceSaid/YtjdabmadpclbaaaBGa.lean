import Derived.Test.YtjdabmadpclbaaaBF
import Derived.OwnWalk
set_option linter.unusedVariables false
set_option linter.unusedSimpArgs false
namespace Go.Proofs.Ytjdabmadpclbaaa
open Go.RowKit
/-- boxes of one's own. -/
def BxsO (w0 w : World) (ty : TypeId) (gs : List Nat) (ss : List BSt) : Prop := ∃ F, Bxs w ty gs ss F ∧ Ext w0 w ∧ ∀ k, F k → w0.heap.size ≤ k
section
variable {w0 w w' : World} {ty : TypeId} {gs : List Nat} {ss ss' : List BSt} {F : Nat → Prop}
theorem BxsO.ext (h : BxsO w0 w ty gs ss) (x : Ext w w') : BxsO w0 w' ty gs ss := by
  obtain ⟨F, h1, h2, h3⟩ := h
  exact ⟨F, h1.ext x, h2.trans x, h3⟩
theorem BxsO.x (h : BxsO w0 w ty gs ss) : Ext w0 w := by obtain ⟨F, _, h, _⟩ := h; exact h
theorem BxsO.post (h2 : Ext w0 w) (h3 : ∀ k, F k → w0.heap.size ≤ k) (p : BxsPost w ty gs ss' F w') : BxsO w0 w' ty gs ss' := by
  obtain ⟨F', a, b, c⟩ := p
  exact ⟨F', a, h2.kept b h3, fun k hk => (c k hk).elim (h3 k) (fun h => Nat.le_trans h2.size h)⟩
theorem send_b {i g : Nat} {s s' : BSt} {f : Fr} {n : Int} (h : BxsO w0 w 71 gs ss) (hg : gs[i]? = some g) (hs : ss[i]? = some s) (hf : f.ok) (e : s.send f = (s', n)) : Calls Try.prog 13 #[.pointer (some ⟨g, 0, none⟩), .agg f.vals.toArray] w fun e w' => e = .returned (.int .i64 n) ∧ BxsO w0 w' 71 gs (ss.set i s') := by
  obtain ⟨F, h1, h2, h3⟩ := h
  obtain ⟨Fi, hB, hst⟩ := h1.step hg hs
  have := send_any hB f hf
  rw [e] at this
  exact this.mono fun _ w' ⟨r, q⟩ => ⟨r, BxsO.post h2 h3 (hst _ _ q)⟩
theorem recv_b {i g : Nat} {s s' : BSt} {f : Fr} {n : Bool} (h : BxsO w0 w 71 gs ss) (hg : gs[i]? = some g) (hs : ss[i]? = some s) (e : s.recv = (s', f, n)) : Calls Try.prog 19 #[.pointer (some ⟨g, 0, none⟩)] w fun e w' => e = .returned (.tuple #[.agg f.vals.toArray, .bool n]) ∧ BxsO w0 w' 71 gs (ss.set i s') := by
  obtain ⟨F, h1, h2, h3⟩ := h
  obtain ⟨Fi, hB, hst⟩ := h1.step hg hs
  have := recv_any hB
  rw [e] at this
  exact this.mono fun _ w' ⟨r, q⟩ => ⟨r, BxsO.post h2 h3 (hst _ _ q)⟩
theorem shows_two (w : World) (g1 g2 : Nat) : Shows (w.alloc (.cells #[ptr g1, ptr g2] 41)) 1 (some ⟨w.heap.size, 0, none⟩) 2 (ptrs [g1, g2]) := Shows.new w [ptr g1, ptr g2] 41
theorem first_b {g1 g2 pl : Nat} {f : Fr} {fd : Bool} (h : BxsO w0 w 71 [g1, g2] ss) (hp : pick ss = (pl, f, fd)) : Calls Try.prog 11 #[.slice (some ⟨w.heap.size, 0, none⟩) 2 2] (w.alloc (.cells #[ptr g1, ptr g2] 41)) fun e w' => e = .returned (.tuple #[.int .i64 pl, .agg f.vals.toArray, .bool fd]) ∧ BxsO w0 w' 71 [g1, g2] ss := by
  have h' := h
  obtain ⟨F, h1, h2, h3⟩ := h
  have x : Ext w (w.alloc (.cells #[ptr g1, ptr g2] 41)) := (Ext.refl _).alloc _
  have := bfirst_any (c := 2) (h1.ext x) (shows_two w g1 g2) rfl (by omega)
  rw [hp] at this
  exact this.mono fun _ w' ⟨r, q⟩ => ⟨r, (h'.ext x).ext q⟩
theorem turn_b {g1 g2 pl : Nat} {f : Fr} {fd : Bool} (lost : Bool) (h : BxsO w0 w 71 [g1, g2] ss) (hp : pick ss = (pl, f, fd)) (ht : turnL lost ss = ss') : Calls Try.prog 15 #[.bool lost, .slice (some ⟨w.heap.size, 0, none⟩) 2 2] (w.alloc (.cells #[ptr g1, ptr g2] 41)) fun e w' => e = .returned (.tuple #[.int .i64 pl, .agg f.vals.toArray, .bool fd]) ∧ BxsO w0 w' 71 [g1, g2] ss' := by
  obtain ⟨F, h1, h2, h3⟩ := h
  have x : Ext w (w.alloc (.cells #[ptr g1, ptr g2] 41)) := (Ext.refl _).alloc _
  have := turn_any (c := 2) lost (h1.ext x) (shows_two w g1 g2) rfl (by omega) (fun ad e hF => by injection e with e; subst e; have := h1.lt _ hF; simp at this) (by omega) (by simp [maxLen])
  rw [hp, ht] at this
  exact this.mono fun _ w' ⟨r, q⟩ => ⟨r, BxsO.post (h2.trans x) h3 q⟩
end
def FA : List Fi := [⟨0, 0, false⟩]
def shA : List BSt := [⟨FA, [fid 5 false], [], false⟩, ⟨FA, [fid 3 false], [], false⟩]
def sB1 : BSt := ⟨FA, [fid 5 false], [fid 3 false], false⟩
def sB2 : BSt := ⟨FA, [], [], false⟩
def sB3 : BSt := ⟨FA, [fid 5 false], [], false⟩
def shB : List BSt := [sB1, sB2]
theorem sb1 : sB1.recv = (sB3, fid 3 false, true) := rfl
theorem sb2 : ([sB1, sB2] : List BSt)[0]? = some sB1 := rfl
theorem sa1 : (BSt.new FA).send (fid 5 false) = (⟨FA, [fid 5 false], [], false⟩, 0) := by kernel_rfl
theorem sa2 : (BSt.new FA).send (fid 3 false) = (⟨FA, [fid 3 false], [], false⟩, 0) := by kernel_rfl
theorem sa3 : ∃ f3 : Fr, f3 = fid 3 false ∧ pick shA = (1, f3, true) := ⟨_, rfl, by kernel_rfl⟩
theorem sa4 : turnL false shA = shB := by kernel_rfl
end Go.Proofs.Ytjdabmadpclbaaa
