/- The program's pool in memory: its box, its nodes, its free numbers, its map. Conditions: none beyond those typed. -/
import Derived.Test.YtenchaifnfgijaaQmap
import Derived.Test.YtenchaifnfgijaaPa
import Derived.Test.YtenchaifnfgijaaQref4
namespace Go.Proofs.Ytenchaifnfgijaa
open Go.ChangeShapes Go.WideShapes Go.ChangeAt Go.RowKit
set_option linter.unusedVariables false
set_option linter.unusedSimpArgs false
set_option maxRecDepth 100000

/-- Nodes: a handle and users. -/
def kN : Kind (Hd × Int) where
  ty := 87
  sl := 77
  k := 4
  by_ := 32
  zero := .agg #[.int .i64 0, .int .i64 0, .int .i64 0, .int .i64 0]
  enc := fun z => [.int .i64 z.1.1, .int .i64 z.1.2.1, .int .i64 z.1.2.2, .int .i64 z.2]
  pos := by omega
  len := fun _ => rfl
  one := fun a u hu => by simp at hu; rcases hu with rfl | rfl | rfl | rfl <;> rfl
  under := Try.underlying77
  info := by kernel_rfl
  zk := rfl
  small := by omega
def nodeOf (y : PEn) : Hd × Int := if 0 < y.u then (y.h, (y.u : Int)) else ((0, 0, 0), 0)
def nodesQ (e : List PEn) : List (Hd × Int) := e.map nodeOf
def intsN (l : List Nat) : List Int := l.map fun (i : Nat) => (i : Int)
/-- A block that is a map, of a colour. -/
structure MapC (col : Col) (w : World) (b c : Nat) (D : DataW Unit) : Prop where
  own : MapQ w b D
  col : col b = c
/-- The program's pool lies in block g. -/
structure PqB (col : Col) (k : Nat) (w : World) (g ga : Nat) (q : PSt) (b : Nat) (D : DataW Unit) (vN vF : Value) : Prop where
  box : BoxC col w g k #[.pointer (some ⟨ga, 0, none⟩), .int .i64 q.n, .map (some b), vN, vF] 79
  ids : MapC col w b (k + 3) D
  rel : RelM q.e D
  ns : OwnKc kN col w (k + 1) vN (nodesQ q.e)
  fs : OwnKc kI col w (k + 2) vF (intsN (freedQ q.e))
  k1 : 1 ≤ k
section
variable {P : Nat → Prop} {col col' : Col} {w w' : World} {k g ga b c : Nat} {q : PSt} {D : DataW Unit} {vN vF : Value}
theorem MapC.lt (h : MapC col w b c D) : b < w.heap.size := h.own.lt
theorem MapC.keep (h : MapC col w b c D) (hs : StepC P col w col' w') (hp : ¬ P c) : MapC col' w' b c D := by
  have hb := hs.block b h.lt (by rw [h.col]; exact hp)
  obtain ⟨es, clock, h1, h2⟩ := h.own
  exact ⟨⟨es, clock, hb.trans h1, h2⟩, (hs.kept b h.lt).trans h.col⟩
theorem MapC.tidy (h : MapC col w b c D) : Go.Maps.Tidy D := World.ownsMap.tidy h.own lawS
/-- Behind a store into the map, or a delete. -/
theorem MapC.turn (h : MapC col w b c D) (ht : Tidy col w) {n : Nat} {D' : DataW Unit} (ho : w'.ownsMap Try.prog 9 (plainElem Try.prog 3) b n D') (hg : w.grownBy w' (some b)) : MapC col w' b c D' ∧ StepC (fun d => d = c) col w col w' :=
  ⟨⟨MapQ.of ho, h.col⟩, StepC.grownBy ht hg fun q e => by injection e with e; subst e; exact h.col⟩
theorem PqB.keep (h : PqB col k w g ga q b D vN vF) (hs : StepC P col w col' w') (hp : ∀ c, Rng k c → ¬ P c) : PqB col' k w' g ga q b D vN vF :=
  ⟨h.box.keep hs (hp _ ⟨Nat.le_refl _, by omega⟩), h.ids.keep hs (hp _ ⟨by omega, by omega⟩), h.rel, h.ns.keep hs (hp _ ⟨by omega, by omega⟩), h.fs.keep hs (hp _ ⟨by omega, by omega⟩), h.k1⟩
theorem PqB.below (h : PqB col k w g ga q b D vN vF) (ht : Tidy col w) (hb : Below w.heap.size w w') : PqB col k w' g ga q b D vN vF := h.keep (P := fun _ => False) (StepC.below ht hb) (fun _ _ h => h)
theorem PqB.time (h : PqB col k w g ga q b D vN vF) (t : Nat) : PqB col k w g ga { q with t := t } b D vN vF := ⟨h.box, h.ids, h.rel, h.ns, h.fs, h.k1⟩
theorem PqB.c0 (h : PqB col k w g ga q b D vN vF) : w.cell? ⟨g, 0, none⟩ = some (.pointer (some ⟨ga, 0, none⟩)) := h.box.cell 0 rfl
theorem PqB.c1 (h : PqB col k w g ga q b D vN vF) : w.cell? ⟨g, 1, none⟩ = some (.int .i64 q.n) := h.box.cell 1 rfl
theorem PqB.c2 (h : PqB col k w g ga q b D vN vF) : w.cell? ⟨g, 2, none⟩ = some (.map (some b)) := h.box.cell 2 rfl
theorem PqB.c3 (h : PqB col k w g ga q b D vN vF) : w.cell? ⟨g, 3, none⟩ = some vN := h.box.cell 3 rfl
theorem PqB.c4 (h : PqB col k w g ga q b D vN vF) : w.cell? ⟨g, 4, none⟩ = some vF := h.box.cell 4 rfl
theorem nodes_at {e : List PEn} {i : Nat} {y : PEn} (hy : e[i]? = some y) : (nodesQ e)[i]? = some (nodeOf y) := by simp [nodesQ, hy]
theorem node_live {y : PEn} (hu : 0 < y.u) : nodeOf y = (y.h, (y.u : Int)) := if_pos hu
theorem node_dead {y : PEn} (hu : ¬ 0 < y.u) : nodeOf y = ((0, 0, 0), 0) := if_neg hu
/-- The nodes: the slice's form. -/
theorem PqB.formN (h : PqB col k w g ga q b D vN vF) : ∃ A m, vN = .slice A q.e.length m ∧ q.e.length ≤ m ∧ m ≤ 9223372036854775807 ∧ (0 < q.e.length → ∃ x, A = some ⟨x, 0, none⟩ ∧ x < w.heap.size ∧ col x = k + 1) := by
  obtain ⟨A, m, e, hr, hh⟩ := h.ns.own.form (n := q.e.length) (by simp [nodesQ])
  refine ⟨A, m, e, hr.cap, hr.max, fun hn => ?_⟩
  rcases hh with ⟨_, h2, _⟩ | ⟨x, rfl, hb⟩
  · have : (nodesQ q.e).length = 0 := by rw [h2]; rfl
    simp [nodesQ] at this; rw [this] at hn; simp at hn
  · exact ⟨x, rfl, hb, h.ns.col x (by rw [e]; rfl)⟩
theorem PqB.formF (h : PqB col k w g ga q b D vN vF) : ∃ A m, vF = .slice A (freedQ q.e).length m ∧ (freedQ q.e).length ≤ m ∧ m ≤ 9223372036854775807 ∧ (0 < (freedQ q.e).length → ∃ x, A = some ⟨x, 0, none⟩ ∧ x < w.heap.size ∧ col x = k + 2) := by
  obtain ⟨A, m, e, hr, hh⟩ := h.fs.own.form (n := (freedQ q.e).length) (by simp [intsN])
  refine ⟨A, m, e, hr.cap, hr.max, fun hn => ?_⟩
  rcases hh with ⟨_, h2, _⟩ | ⟨x, rfl, hb⟩
  · have : (intsN (freedQ q.e)).length = 0 := by rw [h2]; rfl
    simp [intsN] at this; rw [this] at hn; simp at hn
  · exact ⟨x, rfl, hb, h.fs.col x (by rw [e]; rfl)⟩
theorem PqB.node (h : PqB col k w g ga q b D vN vF) {x n m i : Nat} {y : PEn} (hv : vN = .slice (some ⟨x, 0, none⟩) n m) (hy : q.e[i]? = some y) :
    w.cell? ⟨x, i * 4, none⟩ = some (.int .i64 (nodeOf y).1.1) ∧ w.cell? ⟨x, i * 4 + 1, none⟩ = some (.int .i64 (nodeOf y).1.2.1) ∧ w.cell? ⟨x, i * 4 + 2, none⟩ = some (.int .i64 (nodeOf y).1.2.2) ∧ w.cell? ⟨x, i * 4 + 3, none⟩ = some (.int .i64 (nodeOf y).2) ∧ ∀ z, w.frozen? ⟨x, z, none⟩ = false := by
  have h1 := h.ns.own
  rw [hv] at h1
  have hn := nodes_at hy
  exact ⟨h1.cell hn (i := 0) rfl, h1.cell hn (i := 1) rfl, h1.cell hn (i := 2) rfl, h1.cell hn (i := 3) rfl, fun z => h1.free z⟩
theorem nodes_set {e : List PEn} {i : Nat} {y : PEn} : (nodesQ e).set i (nodeOf y) = nodesQ (e.set i y) := by simp [nodesQ, List.map_set]
theorem modify_set {e : List PEn} {i : Nat} {y : PEn} {f : PEn → PEn} (hy : e[i]? = some y) : e.modify i f = e.set i (f y) := (set_modify f hy).symm
/-- Its free numbers do not change while users come and go and one is left. -/
theorem dead_same : ∀ (e : List PEn) (i j : Nat) (y z : PEn), e[j]? = some y → 0 < y.u → 0 < z.u → deadFrom i (e.set j z) = deadFrom i e
  | [], i, j, y, z, h, _, _ => by simp at h
  | a :: r, i, 0, y, z, h, hu, hz => by
    simp at h; subst h
    show (if z.u = 0 then i :: deadFrom (i + 1) r else deadFrom (i + 1) r) = (if a.u = 0 then i :: deadFrom (i + 1) r else deadFrom (i + 1) r)
    rw [if_neg (by omega), if_neg (by omega)]
  | a :: r, i, j + 1, y, z, h, hu, hz => by
    have ih := dead_same r (i + 1) j y z (by simpa using h) hu hz
    show (if a.u = 0 then i :: deadFrom (i + 1) (r.set j z) else deadFrom (i + 1) (r.set j z)) = (if a.u = 0 then i :: deadFrom (i + 1) r else deadFrom (i + 1) r)
    rw [ih]
theorem freed_same {e : List PEn} {j : Nat} {y z : PEn} (hy : e[j]? = some y) (hu : 0 < y.u) (hz : 0 < z.u) : freedQ (e.set j z) = freedQ e := by unfold freedQ; rw [dead_same e 1 j y z hy hu hz]
theorem GoodQ.oneE (h : GoodQ q) : OneE q.e := h.one
/-- A number's users are written, and one is left. -/
theorem PqB.setU (h : PqB col k w g ga q b D vN vF) (hO : OneE q.e) (ht : Tidy col w) {x n m i : Nat} {y : PEn} {f : PEn → PEn} (hv : vN = .slice (some ⟨x, 0, none⟩) n m) (hy : q.e[i]? = some y) (hu : 0 < y.u) (hu' : 0 < (f y).u) (hk : ∀ y : PEn, (f y).k = y.k) (hh : ∀ y : PEn, (f y).h = y.h) {z : Int} (hz : z = ((f y).u : Int)) (t : Nat) :
    PqB col k (w.setCell ⟨x, i * 4 + 3, none⟩ (.int .i64 z)) g ga { q with e := q.e.modify i f, t := t } b D vN vF ∧ StepC (Rng k) col w col (w.setCell ⟨x, i * 4 + 3, none⟩ (.int .i64 z)) := by
  subst hv
  have hs : StepC (fun c => c = k + 1) col w col (w.setCell ⟨x, i * 4 + 3, none⟩ (.int .i64 z)) := StepC.set ht h.ns.col.of _
  have h2 := h.ns.set (j := i) (i := 3) (a' := nodeOf (f y)) (u := .int .i64 z) (nodes_at hy) (by show 3 < 4; omega) (by rw [node_live hu, node_live hu', hh, hz]; rfl)
  rw [nodes_set, ← modify_set hy] at h2
  refine ⟨⟨h.box.keep hs (by omega), h.ids.keep hs (by omega), h.rel.mod hO hk hy hu hu', h2, ?_, h.k1⟩, hs.mono fun c e => by subst e; exact ⟨by omega, by omega⟩⟩
  show OwnKc kI col _ (k + 2) vF (intsN (freedQ (q.e.modify i f)))
  rw [modify_set hy, freed_same hy hu hu']
  exact h.fs.keep hs (by omega)
end

/-- What the walk meets at a look-up: the key is there, or not; how many keys there are. -/
theorem MapC.look_yes {e : List PEn} {s : ByteArray} {i : Nat} {col : Col} {w : World} {b c : Nat} {D : DataW Unit} (h : MapC col w b c D) (R : RelM e D) (hs : s.size ≤ maxLen) (hf : findE e s = some i) :
    (Instr.lookup 76 (.map (some b)) (.string s) true).run Try.prog w = .ok (.tuple #[.int .i64 ((i : Int) + 1), .bool true]) w := by
  obtain ⟨v, ps, hrun, hv⟩ := World.ownsMap.look_ok h.own lawS Try.underlying76 (zeroI w) (plainElem_int Try.underlying3 (by decide)) (keyOfS hs)
  obtain ⟨z, rfl, hz, _⟩ := plainElem_int_inv Try.underlying3 hv
  injection hz with hz _
  rw [R.at_ s i hf] at hz
  injection hz with hz
  injection hz with _ hz
  rw [hrun, R.has s, hf, ← hz]; rfl
theorem MapC.look_no {e : List PEn} {s : ByteArray} {col : Col} {w : World} {b c : Nat} {D : DataW Unit} (h : MapC col w b c D) (R : RelM e D) (hs : s.size ≤ maxLen) (hf : findE e s = none) :
    (Instr.lookup 76 (.map (some b)) (.string s) true).run Try.prog w = .ok (.tuple #[.int .i64 0, .bool false]) w := by
  obtain ⟨v, ps, hrun, hv⟩ := World.ownsMap.look_ok h.own lawS Try.underlying76 (zeroI w) (plainElem_int Try.underlying3 (by decide)) (keyOfS hs)
  obtain ⟨z, rfl, hz, _⟩ := plainElem_int_inv Try.underlying3 hv
  injection hz with hz _
  have h0 : Go.Maps.has D (litS s) = false := by rw [R.has s, hf]; rfl
  rw [Go.Maps.atKey_of_not_has h0] at hz
  injection hz with hz
  injection hz with _ hz
  rw [hrun, h0, ← hz]
theorem MapC.entries {e : List PEn} {col : Col} {w : World} {b c : Nat} {D : DataW Unit} (h : MapC col w b c D) (R : RelM e D) : ∃ es clock, w.heap[b]? = some (.map es clock) ∧ es.size = aliveN e := by
  obtain ⟨es, clock, hb, F, hs, hD⟩ := h.own
  refine ⟨es, clock, hb, ?_⟩
  rw [← R.size, hD]
  simp [Go.Maps.size, length_sorted]
end Go.Proofs.Ytenchaifnfgijaa
