import Derived.Test.YtjdabmadpclbaaaX
set_option linter.unusedVariables false
set_option linter.unusedSimpArgs false
namespace Go.Proofs.Ytjdabmadpclbaaa
open Go.RowKit
/-- a box of one's own. -/
def BxO (w0 w : World) (ty : TypeId) (g : Nat) (s : BSt) : Prop := ∃ F, BxC w ty g s F ∧ Ext w0 w ∧ ∀ k, F k → w0.heap.size ≤ k
theorem BxO.x {w0 w : World} {ty : TypeId} {g : Nat} {s : BSt} (h : BxO w0 w ty g s) : Ext w0 w := by obtain ⟨F, _, h, _⟩ := h; exact h
theorem BxO.ok {w0 w : World} {ty : TypeId} {g : Nat} {s : BSt} (h : BxO w0 w ty g s) : s.ok := by obtain ⟨F, h, _⟩ := h; exact h.ok
theorem BxO.ext {w0 w w' : World} {ty : TypeId} {g : Nat} {s : BSt} (h : BxO w0 w ty g s) (x : Ext w w') : BxO w0 w' ty g s := by
  obtain ⟨F, h1, h2, h3⟩ := h
  exact ⟨F, h1.ext x, h2.trans x, h3⟩
theorem BxO.post {w0 w w' : World} {ty : TypeId} {g : Nat} {s' : BSt} {F : Nat → Prop} (h2 : Ext w0 w) (h3 : ∀ k, F k → w0.heap.size ≤ k) (p : BxPost w ty g s' F w') : BxO w0 w' ty g s' := by
  obtain ⟨F', a, b, c⟩ := p
  exact ⟨F', a, h2.kept b h3, fun k hk => (c k hk).elim (h3 k) (fun h => Nat.le_trans h2.size h)⟩
theorem new_o {w0 : World} (A : Option Addr) (n c : Nat) (l : List Fi) (w : World) (x : Ext w0 w) (hs : Shows w 3 A n (fis l)) (hl : n = l.length) (hn : ¬ 8 < n) (hok : ∀ x ∈ l, Fi.ok x) : Calls Try.prog 26 #[.slice A n c] w fun e w' => ∃ g, e = .returned (.tuple #[.pointer (some ⟨g, 0, none⟩), .int .i64 0]) ∧ BxO w0 w' 71 g (BSt.new l) :=
  (new_any A n c l w hs hl hn hok).mono fun e w' ⟨g, F, h1, h2, h3, h4⟩ => ⟨g, h1, F, h2, x.trans h3, fun k hk => Nat.le_trans x.size (h4 k hk)⟩
theorem send_o {w0 w : World} {g : Nat} {s : BSt} (h : BxO w0 w 71 g s) (f : Fr) (hf : f.ok) : Calls Try.prog 13 #[.pointer (some ⟨g, 0, none⟩), .agg f.vals.toArray] w fun e w' => e = .returned (.int .i64 (s.send f).2) ∧ BxO w0 w' 71 g (s.send f).1 := by
  obtain ⟨F, h1, h2, h3⟩ := h
  exact (send_any h1 f hf).mono fun e w' ⟨a, p⟩ => ⟨a, BxO.post h2 h3 p⟩
theorem take_o {w0 w : World} {g : Nat} {s : BSt} (h : BxO w0 w 71 g s) (f : Fr) (hf : f.ok) : Calls Try.prog 35 #[.pointer (some ⟨g, 0, none⟩), .agg f.vals.toArray] w fun e w' => e = .returned (.bool (s.take f).2) ∧ BxO w0 w' 71 g (s.take f).1 := by
  obtain ⟨F, h1, h2, h3⟩ := h
  exact (take_any h1 f hf).mono fun e w' ⟨a, p⟩ => ⟨a, BxO.post h2 h3 p⟩
theorem done_o {w0 w : World} {g : Nat} {s : BSt} (h : BxO w0 w 71 g s) : Calls Try.prog 32 #[.pointer (some ⟨g, 0, none⟩)] w fun e w' => e = .returned (.tuple #[]) ∧ BxO w0 w' 71 g s.done := by
  obtain ⟨F, h1, h2, h3⟩ := h
  exact (done_any h1).mono fun e w' ⟨a, p⟩ => ⟨a, BxO.post h2 h3 p⟩
theorem recv_o {w0 w : World} {g : Nat} {s : BSt} (h : BxO w0 w 71 g s) : Calls Try.prog 19 #[.pointer (some ⟨g, 0, none⟩)] w fun e w' => e = .returned (.tuple #[.agg s.recv.2.1.vals.toArray, .bool s.recv.2.2]) ∧ BxO w0 w' 71 g s.recv.1 := by
  obtain ⟨F, h1, h2, h3⟩ := h
  exact (recv_any h1).mono fun e w' ⟨a, p⟩ => ⟨a, BxO.post h2 h3 p⟩
theorem over_o {w0 w : World} {g : Nat} {s : BSt} (h : BxO w0 w 71 g s) : Calls Try.prog 22 #[.pointer (some ⟨g, 0, none⟩)] w fun e w' => e = .returned (.bool s.lost) ∧ BxO w0 w' 71 g { s with lost := false } := by
  obtain ⟨F, h1, h2, h3⟩ := h
  exact (over_any h1).mono fun e w' ⟨a, p⟩ => ⟨a, BxO.post h2 h3 p⟩
theorem next_o {w0 w : World} {g : Nat} {s : BSt} (h : BxO w0 w 71 g s) : Calls Try.prog 28 #[.pointer (some ⟨g, 0, none⟩)] w fun e w' => e = .returned (.tuple #[.agg s.next.1.vals.toArray, .bool s.next.2]) ∧ BxO w0 w' 71 g s ∧ Ext w w' := by
  obtain ⟨F, h1, h2, h3⟩ := h
  exact (next_any h1).mono fun e w' ⟨a, p⟩ => ⟨a, ⟨F, h1.ext p, h2.trans p, h3⟩, p⟩
theorem wait_o {w0 w : World} {g : Nat} {s : BSt} (h : BxO w0 w 71 g s) : Calls Try.prog 21 #[.pointer (some ⟨g, 0, none⟩)] w fun e w' => e = .returned (.int .i64 s.tx.length) ∧ w = w' := by
  obtain ⟨F, h1, _⟩ := h
  exact wait_any h1
theorem taken_o {w0 w : World} {g : Nat} {s : BSt} (h : BxO w0 w 71 g s) : Calls Try.prog 25 #[.pointer (some ⟨g, 0, none⟩)] w fun e w' => e = .returned (.int .i64 s.rx.length) ∧ w = w' := by
  obtain ⟨F, h1, _⟩ := h
  exact taken_any h1
theorem next_ov {w0 w : World} {g : Nat} {s : BSt} {f : Fr} {b : Bool} (h : BxO w0 w 71 g s) (hn : s.next = (f, b)) : Calls Try.prog 28 #[.pointer (some ⟨g, 0, none⟩)] w fun e w' => e = .returned (.tuple #[.agg f.vals.toArray, .bool b]) ∧ BxO w0 w' 71 g s ∧ Ext w w' := by
  have := next_o h
  rw [hn] at this
  exact this
theorem send_ov {w0 w : World} {g : Nat} {s s' : BSt} {f : Fr} {n : Int} (h : BxO w0 w 71 g s) (hf : f.ok) (hs : s.send f = (s', n)) : Calls Try.prog 13 #[.pointer (some ⟨g, 0, none⟩), .agg f.vals.toArray] w fun e w' => e = .returned (.int .i64 n) ∧ BxO w0 w' 71 g s' := by
  have := send_o h f hf
  rw [hs] at this
  exact this
theorem take_ov {w0 w : World} {g : Nat} {s s' : BSt} {f : Fr} {b : Bool} (h : BxO w0 w 71 g s) (hf : f.ok) (hs : s.take f = (s', b)) : Calls Try.prog 35 #[.pointer (some ⟨g, 0, none⟩), .agg f.vals.toArray] w fun e w' => e = .returned (.bool b) ∧ BxO w0 w' 71 g s' := by
  have := take_o h f hf
  rw [hs] at this
  exact this
def fid (id : Int) (ext : Bool) : Fr := ⟨id, ext, 0, 0, 0, 0, 0, 0, 0, 0, 0⟩
def shS : BSt := ⟨[⟨2047, 5, false⟩], [fid 5 false, fid 786432 true, fid 3 false], [], false⟩
theorem sh1 : ((BSt.new [⟨2047, 5, false⟩]).send (fid 5 false)) = (⟨[⟨2047, 5, false⟩], [fid 5 false], [], false⟩, 0) := by kernel_rfl
theorem sh2 : (BSt.send ⟨[⟨2047, 5, false⟩], [fid 5 false], [], false⟩ (fid 786432 true)) = (⟨[⟨2047, 5, false⟩], [fid 5 false, fid 786432 true], [], false⟩, 0) := by kernel_rfl
theorem sh3 : (BSt.send ⟨[⟨2047, 5, false⟩], [fid 5 false, fid 786432 true], [], false⟩ (fid 3 false)) = (shS, 0) := by kernel_rfl
theorem sh4 : shS.next = (fid 3 false, true) := by kernel_rfl
theorem sh5 : shS.take (fid 5 false) = ({ shS with rx := [fid 5 false] }, true) := by kernel_rfl
theorem sh6 : BSt.take { shS with rx := [fid 5 false] } (fid 6 false) = ({ shS with rx := [fid 5 false] }, false) := by kernel_rfl
theorem fid_ok (id : Int) (ext : Bool) (h : 0 ≤ id ∧ id < 4294967296) : (fid id ext).ok := h
theorem fi_ok (m i : Int) (e : Bool) (h : (0 ≤ m ∧ m < 4294967296) ∧ 0 ≤ i ∧ i < 4294967296) : ∀ x ∈ [(⟨m, i, e⟩ : Fi)], x.ok := by
  intro x hx
  obtain rfl : x = ⟨m, i, e⟩ := by simpa using hx
  exact h
theorem shows_fi {w : World} {f : Fi} (t : TypeId) : Shows (w.alloc (.cells f.vals.toArray t)) 3 (some ⟨w.heap.size, 0, none⟩) 1 (fis [f]) := by
  have e : fis [f] = f.vals := by simp [fis]
  rw [e]
  exact ⟨rfl, fun _ => ⟨_, rfl, by simp, World.news_of_block (heap_alloc_new w _)⟩⟩
/-- a block loaded as a whole, behind a guard that says yes. -/
theorem wpList_ldrowG {P : Program} {w : World} {ops : Array Oper} {rest : List Oper} {o : Oper} {a : Act} {Q : Exit → Act → World → Prop} (hw : Region.wanted o (yielded ops a.tmps) = true) (ty : TypeId) (x : Operand) (ho : o.op = .load ty x)
    {g : Nat} {cs : Array Value} {t : TypeId} {fr : Nat × Nat} (hg : w.heap[g]? = some (.cells cs t fr)) (hx : a.eval x = .pointer (some ⟨g, 0, none⟩)) {d : TypeDesc}
    (hu : P.underlying ty = some d) (hd : (match d with | .struct _ | .array _ _ => true | _ => false) = true) (hi : (P.info? ty).map (·.size) = some cs.size)
    (h : wpList P ops Q rest (a.put o.dst (.agg cs)) w) : wpList P ops Q (o :: rest) a w :=
  BigFrame.wpList_want hw fun _ hK => wp_load_row ty x ho g hx t cs fr d hg hu hd hi (hK _ _ h)
theorem sh4' : ∃ f3 : Fr, f3 = fid 3 false ∧ shS.next = (f3, true) := ⟨_, rfl, sh4⟩
end Go.Proofs.Ytjdabmadpclbaaa
