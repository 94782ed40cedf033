import Derived.Test.YtpjficfmmfdbjaaOwnP
import Derived.Test.YtpjficfmmfdbjaaHeld
import Derived.Test.YtpjficfmmfdbjaaD
import Derived.Test.YtpjficfmmfdbjaaP1
import Derived.Maps.Keyed
set_option linter.unusedVariables false
set_option linter.unusedSimpArgs false
namespace Go.Proofs.Ytpjficfmmfdbjaa
open Go.RowKit
/-- a name of memory. -/
structure Sy where
  s : ByteArray
  ar : Int
  aa : Int
  wd : Int
  bg : Bool
  sg : Bool
  mu : Int
  ad : Int
def Sy.vals (y : Sy) : List Value := [.string y.s, .int .u8 y.ar, .int .u32 y.aa, .int .i64 y.wd, .bool y.bg, .bool y.sg, .int .i32 y.mu, .int .i32 y.ad]
structure Sy.ok (y : Sy) : Prop where
  s : y.s.size ≤ maxLen
  aa : 0 ≤ y.aa ∧ y.aa < 4294967296
def Sy.cut (y : Sy) : Sy := { y with s := cut40 y.s }
def Sy.may (y : Sy) : Bool := mayS y.s y.wd y.mu
theorem sy_len (y : Sy) : y.vals.length = 8 := rfl
theorem sy_one (y : Sy) : ∀ u ∈ y.vals, u.oneCell' = true := by
  intro u hu
  simp [Sy.vals] at hu
  rcases hu with rfl | rfl | rfl | rfl | rfl | rfl | rfl | rfl <;> rfl
def sys (l : List Sy) : List Value := l.flatMap Sy.vals
theorem sys_len (l : List Sy) : (sys l).length = l.length * 8 := flat_len sy_len l
theorem sys_one (l : List Sy) : ∀ u ∈ sys l, u.oneCell' = true := by
  intro u hu
  simp only [sys, List.mem_flatMap] at hu
  obtain ⟨y, _, hu⟩ := hu
  exact sy_one y u hu
theorem sys_app (a b : List Sy) : sys (a ++ b) = sys a ++ sys b := by simp [sys]
theorem size24 : (Try.prog.info? 24).map (·.size) = some 8 := by kernel_rfl
theorem el26' : Elem Try.prog 26 24 8 48 (.agg #[.string ⟨#[]⟩, .int .u8 0, .int .u32 0, .int .i64 0, .bool false, .bool false, .int .i32 0, .int .i32 0]) := Elem.mk' Try.underlying26 (by kernel_rfl) rfl (by omega)
theorem shows_sy {w : World} {y : Sy} {cs : Array Value} {t : TypeId} (h : cs = y.vals.toArray) : Shows (w.alloc (.cells cs t)) 8 (some ⟨w.heap.size, 0, none⟩) 1 (sys [y]) := by
  subst h
  have e : sys [y] = y.vals := by simp [sys]
  rw [e]
  exact ⟨rfl, fun _ => ⟨_, rfl, by simp, World.news_of_block (heap_alloc_new w _)⟩⟩
theorem syAt {w : World} {b : Nat} {y : Sy} {t : TypeId} {fr : Nat × Nat} (K : w.heap[b]? = some (.cells y.vals.toArray t fr)) : w.rangeAt b 0 y.vals := fun j u hu => by
  rw [Nat.zero_add]
  exact blk_cell K (by simpa using hu)
theorem rangeAt_ext {w W : World} {b o : Nat} {vs : List Value} (h : w.rangeAt b o vs) (x : Ext w W) : W.rangeAt b o vs := fun j u hu => (World.cell?_of_block (x.block _ (World.block_lt_of_cell? w _ (h j u hu)))).trans (h j u hu)
theorem ld_op {w : World} {b o : Nat} {y : Sy} {ρ : Operand → Value} {dst : Option Tmp} {x : Operand} {ty : TypeId} {pos : String} {af : Array Edge} {gd : Option (Nat × Bool)} (h : w.rangeAt b o y.vals) (hx : ρ x = .pointer (some ⟨b, o, none⟩)) :
    (execOp ρ { dst := dst, op := .load 24 x, type := ty, pos := pos, after := af, guard := gd }).run Try.prog w = .ok (.value (.agg y.vals.toArray)) w := by
  unfold execOp
  simp only [hx, Instr.loadAt, Instr.sureAddr, Sem.run_bind, Sem.run_pure, Result.andThen_ok, run_loadVar_mid w b o 24 y.vals _ h Try.underlying24 rfl size24]
theorem cell_ext {w W : World} {ad : Addr} {v : Value} (x : Ext w W) (h : w.cell? ad = some v) : W.cell? ad = some v :=
  (World.cell?_of_block (x.block _ (World.block_lt_of_cell? w _ h))).trans h
/-- a map from strings. -/
def MapS (w : World) (b : Nat) (L : List (ByteArray × Value)) : Prop := ∃ es clock, w.heap[b]? = some (.map es clock) ∧ es.toList.map (fun e => (e.key, e.val)) = L.map (fun p => (Value.string p.1, p.2)) ∧ ∀ p ∈ L, p.1.size ≤ maxLen
theorem keyS {s : ByteArray} (hs : s.size ≤ maxLen) : keyOf Try.prog 9 (.string s) = some (.string s.data.toList) := by
  rw [keyOf_string Try.underlying9]
  simp [mapKey, Try.underlying9, hs]
theorem keyedS : Maps.Keyed Try.prog 9 := Maps.string_keyed Try.underlying9
theorem MapS.kept {w w' : World} {b : Nat} {L : List (ByteArray × Value)} {F : Nat → Prop} (h : MapS w b L) (k : Kept F w w') (hb : ¬ F b) : MapS w' b L := by
  obtain ⟨es, cl, h1, h2⟩ := h
  exact ⟨es, cl, k.blk h1 hb, h2⟩
theorem MapS.ext {w w' : World} {b : Nat} {L : List (ByteArray × Value)} (h : MapS w b L) (x : Ext w w') : MapS w' b L := h.kept (F := fun _ => False) (.of_ext x) (fun h => h)
theorem MapS.lt {w : World} {b : Nat} {L : List (ByteArray × Value)} (h : MapS w b L) : b < w.heap.size := by
  obtain ⟨es, cl, h1, h2⟩ := h
  exact blk_lt h1
theorem map_keys {es : Array MapEntry} {L : List (ByteArray × Value)} (h : es.toList.map (fun e => (e.key, e.val)) = L.map (fun p => (Value.string p.1, p.2))) (hz : ∀ p ∈ L, p.1.size ≤ maxLen) : ∀ e ∈ es.toList, ∃ l, keyOf Try.prog 9 e.key = some l := by
  intro e he
  have : (e.key, e.val) ∈ es.toList.map (fun e => (e.key, e.val)) := List.mem_map.2 ⟨e, he, rfl⟩
  rw [h] at this
  obtain ⟨p, hm, hp⟩ := List.mem_map.1 this
  injection hp with hp _
  exact ⟨_, by rw [← hp]; exact keyS (hz p hm)⟩
theorem map_mem {es : Array MapEntry} {L : List (ByteArray × Value)} (h : es.toList.map (fun e => (e.key, e.val)) = L.map (fun p => (Value.string p.1, p.2))) {s : ByteArray} (hs : s ∈ L.map (·.1)) : ∃ e ∈ es.toList, e.key = .string s := by
  obtain ⟨p, hp, rfl⟩ := List.mem_map.1 hs
  have : (Value.string p.1, p.2) ∈ L.map (fun p => (Value.string p.1, p.2)) := List.mem_map.2 ⟨p, hp, rfl⟩
  rw [← h] at this
  obtain ⟨e, he, h1⟩ := List.mem_map.1 this
  injection h1 with h1 _
  exact ⟨e, he, h1⟩
theorem map_at {es : Array MapEntry} {L : List (ByteArray × Value)} (h : es.toList.map (fun e => (e.key, e.val)) = L.map (fun p => (Value.string p.1, p.2))) {s : ByteArray} {e : MapEntry} (he : e ∈ es.toList) (hk : e.key = .string s) : (s, e.val) ∈ L := by
  have : (e.key, e.val) ∈ es.toList.map (fun e => (e.key, e.val)) := List.mem_map.2 ⟨e, he, rfl⟩
  rw [h] at this
  obtain ⟨p, hp, h1⟩ := List.mem_map.1 this
  injection h1 with h1 h2
  rw [hk] at h1
  injection h1 with h1
  rw [← h1, ← h2]
  exact hp
theorem map_put {w : World} {b : Nat} {L : List (ByteArray × Value)} (h : MapS w b L) {s : ByteArray} (hs : s.size ≤ maxLen) (v : Value) : ∃ w', (Instr.mapUpdate 59 (.map (some b)) (.string s) v).run Try.prog w = .ok () w' ∧ w.grownBy w' (some b) ∧
    ((s ∉ L.map (·.1) ∧ MapS w' b (L ++ [(s, v)])) ∨ (s ∈ L.map (·.1) ∧ ∃ L', MapS w' b L' ∧ L'.length = L.length)) := by
  obtain ⟨es, cl, hb, hL, hz0⟩ := h
  have gr : ∀ o, w.grownBy { w with heap := w.heap.setIfInBounds b o } (some b) := fun o => ⟨rfl, rfl, rfl, by simp, fun k hk hn => by
    have : b ≠ k := fun e => hn (by rw [e])
    simp [Array.getElem?_setIfInBounds, this]⟩
  have at_ : ∀ o, ({ w with heap := w.heap.setIfInBounds b o } : World).heap[b]? = some o := fun o => by
    have := blk_lt hb
    simp [Array.getElem?_setIfInBounds, this]
  rcases keyedS.find w (keyS hs) es.toList (map_keys hL hz0) with ⟨h1, h2⟩ | ⟨j, e0, h1, h2, h3⟩
  · refine ⟨_, by simp [Instr.mapUpdate, run_underlying Try.underlying59, MapKept.run_getObj_map hb, keyedS.check w false (keyS hs), h1, MapKept.run_setObj_map _ hb, Result.andThen]; rfl, gr _, .inl ⟨fun hm => ?_, _, _, at_ _, ?_, ?_⟩⟩
    · obtain ⟨e, he, hk⟩ := map_mem hL hm
      exact h2 e he hk
    · simp [hL]
    · intro p hp
      rcases List.mem_append.1 hp with hp | hp
      · exact hz0 p hp
      · simp at hp; subst hp; exact hs
  · have hj : es[j]? = some e0 := by simpa using h2
    refine ⟨_, by simp [Instr.mapUpdate, run_underlying Try.underlying59, MapKept.run_getObj_map hb, keyedS.check w false (keyS hs), h1, hj, h3, keyedS.stays w (keyS hs), MapKept.run_setObj_map _ hb, Result.andThen]; rfl, gr _, .inr ⟨List.mem_map.2 ⟨_, map_at hL (List.mem_of_getElem? h2) h3, rfl⟩, L.set j (s, v), ⟨_, _, at_ _, ?_, fun p hp => (List.mem_or_eq_of_mem_set hp).elim (hz0 p) (fun e => by rw [e]; exact hs)⟩, by simp⟩⟩
    apply List.ext_getElem?
    intro i
    have hi := congrArg (fun l => l[i]?) hL
    simp only [List.getElem?_map, Array.getElem?_toList] at hi
    simp only [List.getElem?_map, Array.getElem?_toList, Array.getElem?_modify, List.getElem?_set]
    by_cases hji : j = i
    · subst hji
      have hlt : j < L.length := by
        rcases Nat.lt_or_ge j L.length with h | h
        · exact h
        · rw [hj, List.getElem?_eq_none h] at hi; cases hi
      simp [hj, hlt, h3]
    · simp [hji, hi]
theorem map_get {w : World} {b : Nat} {L : List (ByteArray × Value)} (h : MapS w b L) {s : ByteArray} (hs : s.size ≤ maxLen) {z : Value} (hz : (zeroValue 24).run Try.prog w = .ok z w) :
    (s ∉ L.map (·.1) ∧ (Instr.lookup 59 (.map (some b)) (.string s) true).run Try.prog w = .ok (.tuple #[z, .bool false]) w) ∨ ∃ v, (s, v) ∈ L ∧ (Instr.lookup 59 (.map (some b)) (.string s) true).run Try.prog w = .ok (.tuple #[v, .bool true]) w := by
  obtain ⟨es, cl, hb, hL, hz0⟩ := h
  rcases keyedS.find w (keyS hs) es.toList (map_keys hL hz0) with ⟨h1, h2⟩ | ⟨j, e0, h1, h2, h3⟩
  · refine .inl ⟨fun hm => ?_, by simp [Instr.lookup, run_underlying Try.underlying59, MapKept.run_getObj_map hb, keyedS.check w _ (keyS hs), h1, hz, Result.andThen]⟩
    obtain ⟨e, he, hk⟩ := map_mem hL hm
    exact h2 e he hk
  · exact .inr ⟨e0.val, map_at hL (List.mem_of_getElem? h2) h3, by simp [Instr.lookup, run_underlying Try.underlying59, MapKept.run_getObj_map hb, keyedS.check w _ (keyS hs), h1, Result.andThen]⟩
def zsy : Sy := ⟨⟨#[]⟩, 0, 0, 0, false, false, 0, 0⟩
theorem zero24 (w : World) : (zeroValue 24).run Try.prog w = .ok (.agg zsy.vals.toArray) w := by kernel_rfl
theorem wp_mapput {w : World} {o : Oper} {a : Act} {K : Act → World → Prop} {Q : Exit → Act → World → Prop} {b : Nat} {L : List (ByteArray × Value)} {s : ByteArray} {v : Value} (m x y : Operand) (ho : o.op = .mapUpdate 59 m x y) (hm : a.eval m = .map (some b)) (hx : a.eval x = .string s) (hy : a.eval y = v) (hL : MapS w b L) (hs : s.size ≤ maxLen)
    (h : ∀ w', w.grownBy w' (some b) → ((s ∉ L.map (·.1) ∧ MapS w' b (L ++ [(s, v)])) ∨ (s ∈ L.map (·.1) ∧ ∃ L', MapS w' b L' ∧ L'.length = L.length)) → K (a.put o.dst undef) w') : o.wp Try.prog a w K Q := by
  obtain ⟨w', hrun, gr, hc⟩ := map_put hL hs v
  unfold Oper.wp
  simp [execOp, ho, hm, hx, hy, hrun, Result.andThen]
  exact h w' gr hc
theorem map_len {w : World} {b : Nat} {L : List (ByteArray × Value)} (h : MapS w b L) : ∃ es clock, w.heap[b]? = some (.map es clock) ∧ es.size = L.length := by
  obtain ⟨es, cl, hb, hL, hz0⟩ := h
  refine ⟨es, cl, hb, ?_⟩
  have := congrArg List.length hL
  simpa using this
end Go.Proofs.Ytpjficfmmfdbjaa
