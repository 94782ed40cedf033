import Derived.Test.YtpjficfmmfdbjaaP2
set_option linter.unusedVariables false
namespace Go.Proofs.Ytpjficfmmfdbjaa
open Go.RowKit
def putL (s : ByteArray) (wd : Int) (bg sg : Bool) (mu ad v : Int) : List Int := if putOk s wd wd.toNat sg mu ad v then putB (IntKind.u64.wrap ((v - ad).tdiv mu)) wd.toNat bg else []
def putE (s : ByteArray) (wd : Int) (sg : Bool) (mu ad v : Int) : Int := if putOk s wd wd.toNat sg mu ad v then 0 else 1
def tkE (s : ByteArray) (wd mu : Int) (n : Nat) : Int := if mayS s wd mu then (if (n : Int) = wd then 0 else 5) else 1
def tkV (s : ByteArray) (wd : Int) (bg sg : Bool) (mu ad : Int) (n : Nat) (bs : List Int) : Int := if mayS s wd mu && decide ((n : Int) = wd) then takeV bs n bg sg mu ad else 0
def PutU (s : ByteArray) (wd : Int) (bg sg : Bool) (mu ad v : Int) (w : World) (e : Ending) (w' : World) : Prop :=
  ∃ A c, e = .returned (.tuple #[.slice A (putL s wd bg sg mu ad v).length c, .int .i64 (putE s wd sg mu ad v)]) ∧ Ext w w' ∧ Rd w' A (putL s wd bg sg mu ad v).length (putL s wd bg sg mu ad v)
def TakeU (s : ByteArray) (wd : Int) (bg sg : Bool) (mu ad : Int) (n : Nat) (bs : List Int) (w : World) (e : Ending) (w' : World) : Prop :=
  e = .returned (.tuple #[.int .i64 (tkV s wd bg sg mu ad n bs), .int .i64 (tkE s wd mu n)]) ∧ Ext w w'
theorem putU_no {s : ByteArray} {wd : Int} {bg sg : Bool} {mu ad v : Int} {w w' : World} {e : Ending} (hp : putOk s wd wd.toNat sg mu ad v = false) (h : e = .returned (.tuple #[.slice none 0 0, .int .i64 1]) ∧ Ext w w') : PutU s wd bg sg mu ad v w e w' := by
  unfold PutU
  have e1 : putL s wd bg sg mu ad v = [] := by simp [putL, hp]
  have e2 : putE s wd sg mu ad v = 1 := by simp [putE, hp]
  rw [e1, e2]
  exact ⟨none, 0, h.1, h.2, Rd.nil⟩
theorem putU_ok {s : ByteArray} {k : Nat} {bg sg : Bool} {mu ad v : Int} {w w' : World} {e : Ending} (hp : putOk s k k sg mu ad v = true) (h : ∃ A c, e = .returned (.tuple #[.slice A k c, .int .i64 0]) ∧ k ≤ c ∧ c ≤ maxLen ∧ Ext w w' ∧ Rd w' A k (putB (IntKind.u64.wrap ((v - ad).tdiv mu)) k bg)) : PutU s k bg sg mu ad v w e w' := by
  unfold PutU
  have e1 : putL s k bg sg mu ad v = putB (IntKind.u64.wrap ((v - ad).tdiv mu)) k bg := by simp [putL, hp]
  have e2 : putE s k sg mu ad v = 0 := by simp [putE, hp]
  obtain ⟨A, c, h1, h2, h3, h4, h5⟩ := h
  rw [e1, e2, h5.len]
  exact ⟨A, c, h1, h4, h5⟩
theorem putOk_may {s : ByteArray} {wd : Int} {k : Nat} {sg : Bool} {mu ad v : Int} (h : putOk s wd k sg mu ad v = true) : mayS s wd mu = true := by
  unfold putOk at h
  simp only [Bool.and_eq_true] at h
  exact h.1.1.1.1
theorem putOk_p {s : ByteArray} {wd : Int} {k : Nat} {sg : Bool} {mu ad v : Int} (h : putOk s wd k sg mu ad v = true) : -4611686018427387904 ≤ v ∧ v ≤ 4611686018427387904 ∧ (v - ad).tmod mu = 0 ∧ fitsB ((v - ad).tdiv mu) k sg = true := by
  simp [putOk] at h
  obtain ⟨⟨⟨⟨_, h1⟩, h2⟩, h3⟩, h4⟩ := h
  exact ⟨h1, h2, h3, h4⟩
theorem put_all (s : ByteArray) (ar aa wd : Int) (bg sg : Bool) (mu ad v : Int) (w : World) (hs : s.size ≤ maxLen) (a0 : -2147483648 ≤ ad) (a1 : ad < 2147483648) :
    Calls Try.prog 10 #[.agg #[.string s, .int .u8 ar, .int .u32 aa, .int .i64 wd, .bool bg, .bool sg, .int .i32 mu, .int .i32 ad], .int .i64 v] w (PutU s wd bg sg mu ad v w) := by
  rcases hm : mayS s wd mu with _ | _
  · exact (put_may s ar aa wd bg sg mu ad v w hs hm).mono fun _ _ h => putU_no (by rcases h : putOk s wd wd.toNat sg mu ad v with _ | _; rfl; rw [putOk_may h] at hm; cases hm) h
  · obtain ⟨hwd, _⟩ := may_parts hm
    obtain ⟨k, rfl⟩ : ∃ k : Nat, wd = k := ⟨wd.toNat, by omega⟩
    rcases hp : putOk s k k sg mu ad v with _ | _
    · exact (put_bad s ar aa k bg sg mu ad v w hs a0 a1 hp).mono fun _ _ h => putU_no hp h
    · obtain ⟨p0, p1, pt, pf⟩ := putOk_p hp
      exact (put_ok s ar aa k bg sg mu ad v w hs hm a0 a1 p0 p1 pt pf).mono fun _ _ h => putU_ok hp h
theorem rput_all (s : ByteArray) (ar aa wd : Int) (bg sg : Bool) (mu ad v : Int) (w : World) (hs : s.size ≤ maxLen) (a0 : -2147483648 ≤ ad) (a1 : ad < 2147483648) :
    Calls Try.prog 11 #[.agg #[.string s, .int .u8 ar, .int .u32 aa, .int .i64 wd, .bool bg, .bool sg, .int .i32 mu, .int .i32 ad], .int .i64 v] w (PutU s wd bg sg mu ad v w) := by
  rcases hm : mayS s wd mu with _ | _
  · exact (rput_may s ar aa wd bg sg mu ad v w hs hm).mono fun _ _ h => putU_no (by rcases h : putOk s wd wd.toNat sg mu ad v with _ | _; rfl; rw [putOk_may h] at hm; cases hm) h
  · obtain ⟨hwd, _⟩ := may_parts hm
    obtain ⟨k, rfl⟩ : ∃ k : Nat, wd = k := ⟨wd.toNat, by omega⟩
    rcases hp : putOk s k k sg mu ad v with _ | _
    · exact (rput_bad s ar aa k bg sg mu ad v w hs a0 a1 hp).mono fun _ _ h => putU_no hp h
    · obtain ⟨p0, p1, pt, pf⟩ := putOk_p hp
      exact (rput_ok s ar aa k bg sg mu ad v w hs hm a0 a1 p0 p1 pt pf).mono fun _ _ h => putU_ok hp h
theorem take_all (s : ByteArray) (ar aa wd : Int) (bg sg : Bool) (mu ad : Int) (A : Option Addr) (n c : Nat) (bs : List Int) (w : World) (hs : s.size ≤ maxLen) (a0 : -2147483648 ≤ ad) (a1 : ad < 2147483648) (hr : Rd w A n bs) (hn : n ≤ maxLen) (hkc : n ≤ c) :
    Calls Try.prog 12 #[.agg #[.string s, .int .u8 ar, .int .u32 aa, .int .i64 wd, .bool bg, .bool sg, .int .i32 mu, .int .i32 ad], .slice A n c] w (TakeU s wd bg sg mu ad n bs w) := by
  rcases hm : mayS s wd mu with _ | _
  · exact (take_may s ar aa wd bg sg mu ad A n c w hs hm).mono fun _ _ h => by simpa [TakeU, tkV, tkE, hm] using h
  · obtain ⟨hwd, _⟩ := may_parts hm
    obtain ⟨k, rfl⟩ : ∃ k : Nat, wd = k := ⟨wd.toNat, by omega⟩
    by_cases hk : n = k
    · subst hk
      exact (take_ok s ar aa n bg sg mu ad A c bs w hs hm a0 a1 hr hkc).mono fun _ _ h => by simpa [TakeU, tkV, tkE, hm] using h
    · exact (take_len s ar aa k bg sg mu ad A n c w hs hm hn hk).mono fun _ _ h => by simpa [TakeU, tkV, tkE, hm, show ¬ (n : Int) = k by omega, hk] using h
theorem rtake_all (s : ByteArray) (ar aa wd : Int) (bg sg : Bool) (mu ad : Int) (A : Option Addr) (n c : Nat) (bs : List Int) (w : World) (hs : s.size ≤ maxLen) (a0 : -2147483648 ≤ ad) (a1 : ad < 2147483648) (hr : Rd w A n bs) (hn : n ≤ maxLen) (hkc : n ≤ c) :
    Calls Try.prog 13 #[.agg #[.string s, .int .u8 ar, .int .u32 aa, .int .i64 wd, .bool bg, .bool sg, .int .i32 mu, .int .i32 ad], .slice A n c] w (TakeU s wd bg sg mu ad n bs w) := by
  rcases hm : mayS s wd mu with _ | _
  · exact (rtake_may s ar aa wd bg sg mu ad A n c w hs hm).mono fun _ _ h => by simpa [TakeU, tkV, tkE, hm] using h
  · obtain ⟨hwd, _⟩ := may_parts hm
    obtain ⟨k, rfl⟩ : ∃ k : Nat, wd = k := ⟨wd.toNat, by omega⟩
    by_cases hk : n = k
    · subst hk
      exact (rtake_ok s ar aa n bg sg mu ad A c bs w hs hm a0 a1 hr hkc).mono fun _ _ h => by simpa [TakeU, tkV, tkE, hm] using h
    · exact (rtake_len s ar aa k bg sg mu ad A n c w hs hm hn hk).mono fun _ _ h => by simpa [TakeU, tkV, tkE, hm, show ¬ (n : Int) = k by omega, hk] using h
end Go.Proofs.Ytpjficfmmfdbjaa
