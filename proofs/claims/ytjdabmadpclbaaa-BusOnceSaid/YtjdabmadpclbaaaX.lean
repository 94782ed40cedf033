import Derived.Test.YtjdabmadpclbaaaL
set_option linter.unusedVariables false
set_option linter.unusedSimpArgs false
namespace Go.Proofs.Ytjdabmadpclbaaa
open Go.RowKit
theorem stood37 : Try.prog.stoodInHeld 34 = false := by kernel_rfl
theorem run_eqI {P : Program} (d : Nat) (w : World) (t : TypeId) (k : IntKind) (a b : Int) (h : P.underlying t = some (.int k)) : (Op.equalIn (d + 1) t (.int k a) (.int k b)).run P w = .ok (a == b) w := by
  rw [Op.equalIn]
  simp [Sem.run_bind, run_underlying h]
theorem run_eqB {P : Program} (d : Nat) (w : World) (t : TypeId) (a b : Bool) (h : P.underlying t = some .bool) : (Op.equalIn (d + 1) t (.bool a) (.bool b)).run P w = .ok (a == b) w := by
  rw [Op.equalIn]
  simp [Sem.run_bind, run_underlying h]
theorem run_eqFd (d : Nat) (f h : Fr) (w : World) : (Op.equalIn (d + 3) 34 (.agg f.vals.toArray) (.agg h.vals.toArray)).run Try.prog w = .ok (f == h) w := by
  obtain ⟨id, ext, len, b0, b1, b2, b3, b4, b5, b6, b7⟩ := f
  obtain ⟨id', ext', len', c0, c1, c2, c3, c4, c5, c6, c7⟩ := h
  have h1 := fun W => run_eq8 d W b0 b1 b2 b3 b4 b5 b6 b7 c0 c1 c2 c3 c4 c5 c6 c7
  have h2 := fun W => run_eqI (P := Try.prog) (d + 1) W 31 .u32 id id' Try.underlying31
  have h3 := fun W => run_eqB (P := Try.prog) (d + 1) W 4 ext ext' Try.underlying4
  have h4 := fun W => run_eqI (P := Try.prog) (d + 1) W 3 .i64 len len' Try.underlying3
  have hs := stood37
  simp only [Fr.vals]
  rw [Op.equalIn]
  simp only [Sem.run_bind, run_underlying Try.underlying34, Result.andThen_ok]
  simp [hs, go_sem, h1, h2, h3, h4]
  repeat' split
  all_goals simp_all
theorem run_eqF (f h : Fr) (w : World) : (binOp .eql 34 (.agg f.vals.toArray) (.agg h.vals.toArray)).run Try.prog w = .ok (.bool (f == h)) w := by
  have := run_eqFd 9997 f h w
  simp only [binOp]
  unfold Op.equal Op.maxDepth
  simp [this]
theorem run_neF (f h : Fr) (w : World) : (binOp .neq 34 (.agg f.vals.toArray) (.agg h.vals.toArray)).run Try.prog w = .ok (.bool (!(f == h))) w := by
  have := run_eqFd 9997 f h w
  simp only [binOp]
  unfold Op.equal Op.maxDepth
  simp [this]
end Go.Proofs.Ytjdabmadpclbaaa
