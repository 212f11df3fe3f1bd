/- The program's pool in memory: take, give. Conditions: none beyond those typed. -/
import Derived.Test.YtenchaifnfgijaaQins
namespace Go.Proofs.Ytenchaifnfgijaa
open Go.ChangeShapes Go.WideShapes Go.ChangeAt Go.RowKit
set_option linter.unusedVariables false
set_option linter.unusedSimpArgs false
set_option maxRecDepth 100000

/-- The program's pool between two calls: nodes and free numbers as they stand. -/
structure PqX (col : Col) (k : Nat) (w : World) (g ga n b : Nat) (D : DataW Unit) (vN vF : Value) (ls : List (Hd × Int)) (lf : List Nat) : Prop where
  box : BoxC col w g k #[.pointer (some ⟨ga, 0, none⟩), .int .i64 n, .map (some b), vN, vF] 79
  ids : MapC col w b (k + 3) D
  ns : OwnKc kN col w (k + 1) vN ls
  fs : OwnKc kI col w (k + 2) vF (intsN lf)
  k1 : 1 ≤ k
section
variable {P : Nat → Prop} {col col' : Col} {w w' : World} {k ka g ga n b : Nat} {q : PSt} {x : ASt} {D D' : DataW Unit} {vN vF : Value} {ls : List (Hd × Int)} {lf : List Nat}
theorem PqB.toX (h : PqB col k w g ga q b D vN vF) : PqX col k w g ga q.n b D vN vF (nodesQ q.e) (freedQ q.e) := ⟨h.box, h.ids, h.ns, h.fs, h.k1⟩
theorem PqX.toB (h : PqX col k w g ga q.n b D vN vF (nodesQ q.e) (freedQ q.e)) (R : RelM q.e D) : PqB col k w g ga q b D vN vF := ⟨h.box, h.ids, R, h.ns, h.fs, h.k1⟩
theorem PqX.keep (h : PqX col k w g ga n b D vN vF ls lf) (hs : StepC P col w col' w') (hp : ∀ c, Rng k c → ¬ P c) : PqX col' k w' g ga n b D vN vF ls lf :=
  ⟨h.box.keep hs (hp _ ⟨Nat.le_refl _, by omega⟩), h.ids.keep hs (hp _ ⟨by omega, by omega⟩), h.ns.keep hs (hp _ ⟨by omega, by omega⟩), h.fs.keep hs (hp _ ⟨by omega, by omega⟩), h.k1⟩
theorem PqX.below (h : PqX col k w g ga n b D vN vF ls lf) (ht : Tidy col w) (hb : Below w.heap.size w w') : PqX col k w' g ga n b D vN vF ls lf := h.keep (P := fun _ => False) (StepC.below ht hb) (fun _ _ h => h)
/-- The free numbers have got a row. -/
theorem PqX.putF (h : PqX col k w g ga n b D vN vF ls lf) (hs : StepC (fun c => c = k + 2) col w col' w') {v : Value} {l : List Nat} (ho : OwnKc kI col' w' (k + 2) v (intsN l)) :
    PqX col' k (w'.setCell ⟨g, 4, none⟩ v) g ga n b D vN v ls l ∧ StepC (Rng k) col w col' (w'.setCell ⟨g, 4, none⟩ v) := by
  have h1 := h.box.keep hs (by omega)
  have hs2 : StepC (fun c => c = k) col' w' col' (w'.setCell ⟨g, 4, none⟩ v) := StepC.set hs.tidy h1.col _
  exact ⟨⟨h1.put 4 v, (h.ids.keep hs (by omega)).keep hs2 (by omega), (h.ns.keep hs (by omega)).keep hs2 (by omega), ho.keep hs2 (by omega), h.k1⟩,
    (hs.mono fun c e => by subst e; exact ⟨by omega, by omega⟩).trans (hs2.mono fun c e => by subst e; exact ⟨by omega, by omega⟩)⟩
/-- The nodes have got a row. -/
theorem PqX.putN (h : PqX col k w g ga n b D vN vF ls lf) (hs : StepC (fun c => c = k + 1) col w col' w') {v : Value} {l : List (Hd × Int)} (ho : OwnKc kN col' w' (k + 1) v l) :
    PqX col' k (w'.setCell ⟨g, 3, none⟩ v) g ga n b D v vF l lf ∧ StepC (Rng k) col w col' (w'.setCell ⟨g, 3, none⟩ v) := by
  have h1 := h.box.keep hs (by omega)
  have hs2 : StepC (fun c => c = k) col' w' col' (w'.setCell ⟨g, 3, none⟩ v) := StepC.set hs.tidy h1.col _
  exact ⟨⟨h1.put 3 v, (h.ids.keep hs (by omega)).keep hs2 (by omega), ho.keep hs2 (by omega), (h.fs.keep hs (by omega)).keep hs2 (by omega), h.k1⟩,
    (hs.mono fun c e => by subst e; exact ⟨by omega, by omega⟩).trans (hs2.mono fun c e => by subst e; exact ⟨by omega, by omega⟩)⟩
theorem PqX.formF (h : PqX col k w g ga n b D vN vF ls lf) : ∃ A m, vF = .slice A lf.length m ∧ lf.length ≤ m ∧ m ≤ 9223372036854775807 ∧ (0 < lf.length → ∃ x, A = some ⟨x, 0, none⟩ ∧ x < w.heap.size ∧ col x = k + 2) := by
  obtain ⟨A, m, e, hr, hh⟩ := h.fs.own.form (n := lf.length) (by simp [intsN])
  refine ⟨A, m, e, hr.cap, hr.max, fun hn => ?_⟩
  rcases hh with ⟨_, h2, _⟩ | ⟨x, rfl, hb⟩
  · have : (intsN lf).length = 0 := by rw [h2]; rfl
    simp [intsN] at this; rw [this] at hn; simp at hn
  · exact ⟨x, rfl, hb, h.fs.col x (by rw [e]; rfl)⟩
theorem PqX.formN (h : PqX col k w g ga n b D vN vF ls lf) : ∃ A m, vN = .slice A ls.length m ∧ ls.length ≤ m ∧ m ≤ 9223372036854775807 ∧ (0 < ls.length → ∃ x, A = some ⟨x, 0, none⟩ ∧ x < w.heap.size ∧ col x = k + 1) := by
  obtain ⟨A, m, e, hr, hh⟩ := h.ns.own.form (n := ls.length) rfl
  refine ⟨A, m, e, hr.cap, hr.max, fun hn => ?_⟩
  rcases hh with ⟨_, h2, _⟩ | ⟨x, rfl, hb⟩
  · rw [h2] at hn; simp at hn
  · exact ⟨x, rfl, hb, h.ns.col x (by rw [e]; rfl)⟩
theorem PqX.c3 (h : PqX col k w g ga n b D vN vF ls lf) : w.cell? ⟨g, 3, none⟩ = some vN := h.box.cell 3 rfl
theorem PqX.c4 (h : PqX col k w g ga n b D vN vF ls lf) : w.cell? ⟨g, 4, none⟩ = some vF := h.box.cell 4 rfl
def TookQ (col : Col) (k : Nat) (w : World) (g ga n b : Nat) (D : DataW Unit) (ls : List (Hd × Int)) (lf : List Nat) (w' : World) : Prop := ∃ col' vN vF, PqX col' k w' g ga n b D vN vF ls lf ∧ StepC (Rng k) col w col' w'
set_option maxHeartbeats 1000000 in
theorem take_last (H : PqX col k w g ga n b D vN vF ls lf) (ht : Tidy col w) {l : List Nat} {d : Nat} (hf : lf = l ++ [d]) (hl : lf.length ≤ 1000000) :
    Calls Try.prog 42 #[.pointer (some ⟨g, 0, none⟩)] w fun e w' => e = .returned (.int .i64 (d : Int)) ∧ TookQ col k w g ga n b D ls l w' := by
  have hlen : lf.length = l.length + 1 := by rw [hf]; simp
  obtain ⟨A, m, hv, hm1, hm2, hA⟩ := H.formF
  obtain ⟨xb, rfl, hbw, hbc⟩ := hA (by omega)
  have oF := H.fs.own
  rw [hv] at oF
  have e1 : (intsN lf)[l.length]? = some (d : Int) := by rw [hf]; simp [intsN]
  have s0 := oF.cell (i := 0) e1 rfl
  rw [show l.length * kI.k + 0 = l.length by simp [kI]] at s0
  have x4 := H.c4
  have f4 := H.box.free 4
  rw [hv, hlen] at x4
  have oC := oF.cutTo (j := l.length) (by omega)
  have e3 : (intsN lf).take l.length = intsN l := by rw [hf]; simp [intsN]
  rw [e3] at oC
  have oC2 : OwnKc kI col w (k + 2) (.slice (some ⟨xb, 0, none⟩) l.length m) (intsN l) := ⟨oC, fun q hq => by
    have hq' : xb = q := by simpa [Value.ownBlock] using hq
    subst hq'; exact hbc⟩
  obtain ⟨H2, S2⟩ := H.putF (StepC.refl ht) oC2
  have HH := Lib.hid H2
  obtain ⟨N, hN⟩ : ∃ N : Nat, l.length = N := ⟨_, rfl⟩
  rw [hN] at s0 x4 HH S2
  have hb0 : ¬ (N : Int) + 1 = 0 := by omega
  have hw : IntKind.i64.wrap ((N : Int) + 1 - 1) = (N : Int) := by rw [IntKind.wrap_i64]; omega
  have hNm : (N : Int) < (N : Int) + 1 := by omega
  have hNm2 : (N : Int) ≤ (m : Int) := by omega
  have hN0 : (0 : Int) < (N : Int) + 1 := by omega
  clear H H2 oF oC oC2 e1 e3 hv hf
  go_enter Try.func42, Try.ntmps42
  go_wp2
  go_ret
  exact ⟨rfl, _, _, _, HH.out, S2⟩
set_option maxHeartbeats 1000000 in
theorem take_more (H : PqX col k w g ga n b D vN vF ls []) (ht : Tidy col w) (hl : ls.length ≤ 1000000) :
    Calls Try.prog 42 #[.pointer (some ⟨g, 0, none⟩)] w fun e w' => e = .returned (.int .i64 ((ls.length : Int) + 1)) ∧ TookQ col k w g ga n b D (ls ++ [((0, 0, 0), 0)]) [] w' := by
  obtain ⟨A, m, hv, hm1, hm2, hA⟩ := H.formF
  obtain ⟨A', m', hv', hm1', hm2', hA'⟩ := H.formN
  have x4 := H.c4
  have x3 := H.c3
  rw [hv] at x4
  have hBd : Below w.heap.size w (w.alloc (.cells #[.int .i64 0, .int .i64 0, .int .i64 0, .int .i64 0] 87)) := (Below.refl _ _).alloc (Nat.le_refl _) _
  have H6 := H.below ht hBd
  have ht6 := ht.size hBd.size
  have S6 : StepC (Rng k) col w col (w.alloc (.cells #[.int .i64 0, .int .i64 0, .int .i64 0, .int .i64 0] 87)) := StepC.below ht hBd
  have rd6 : RdG kN (w.alloc (.cells #[.int .i64 0, .int .i64 0, .int .i64 0, .int .i64 0] 87)) (some ⟨w.heap.size, 0, none⟩) 1 1 [((0, 0, 0), 0)] := RdG.one' kN rfl ((0, 0, 0), 0)
  have oN := H6.ns.own
  have hHC := H6.ns.col
  have hby : ls.length + 1 ≤ 1000000000 := by omega
  have HH6 := Lib.hid H6
  have hlS : (ls ++ [((0, 0, 0), (0 : Int))]).length = ls.length + 1 := by simp
  have hk := H.k1
  clear H hA hA' hv hv' hBd H6 hm1 hm2
  go_enter Try.func42, Try.ntmps42
  go_wp2_with (at_builtin; refine wpList_appK kN rfl (.tmp 35) (.tmp 37) rfl vN ls rfl _ 1 1 [((0, 0, 0), 0)] rfl oN rd6 hby ?_; intro v7 w7 O7 G7 hat7; have S7 := StepC.app (P := fun c => c = k + 1) ht6 G7 hHC rfl hat7 O7.lt; have B7 := HH6.out.box.keep S7 (by omega); have q3 := B7.cell 3 rfl; have f3 := B7.free 3; obtain ⟨H8, S8⟩ := HH6.out.putN S7 (OwnKc.mk' kN O7); have q8 := H8.c3; have HH8 := Lib.hid H8; clear H8; obtain ⟨A7, c7, rfl, _, _⟩ := O7.form hlS)
  go_ret
  exact ⟨rfl, _, _, _, HH8.out, S6.trans S8⟩
set_option maxHeartbeats 1000000 in
theorem pq_give (H : PqX col k w g ga n b D vN vF ls lf) (ht : Tidy col w) (hl : lf.length ≤ 1000000) (hb : ∀ d ∈ lf, d ≤ 1000000) {p id : Nat} (hid : id ≤ 1000000) (hp : p ≤ lf.length) (h1 : ∀ d ∈ lf.take p, id < d) (h2 : ∀ d ∈ lf.drop p, d < id) :
    Calls Try.prog 46 #[.pointer (some ⟨g, 0, none⟩), .int .i64 (id : Int)] w fun e w' => e = .returned (.tuple #[]) ∧ TookQ col k w g ga n b D ls (lf.take p ++ id :: lf.drop p) w' := by
  obtain ⟨A, m, hv, hm1, hm2, hA⟩ := H.formF
  have x4 := H.c4
  have hbs := bsf_any (w := w) (A := A) (n := lf.length) (c := m) (l := lf) (by have := H.fs.own; rw [hv] at this; exact this.reads) hb hl hid hp h1 h2
  have HB := Lib.hid hb
  have hk := H.k1
  rw [hv] at x4
  go_enter Try.func46, Try.ntmps46
  go_wp2_with fail
  refine hbs.mono ?_
  rintro e w1 ⟨rfl, rfl⟩
  clear hbs
  have hBd : Below w.heap.size w (w.alloc (.cells #[.int .i64 (id : Int)] 3)) := (Below.refl _ _).alloc (Nat.le_refl _) _
  have H6 := H.below ht hBd
  have ht6 := ht.size hBd.size
  have S6 : StepC (Rng k) col w col (w.alloc (.cells #[.int .i64 (id : Int)] 3)) := StepC.below ht hBd
  have hi := ins_any H6.fs.own (l := lf) hl hp (h := w.heap.size) (x := id) (heap_alloc_new w _) (fun g' hg' e => by
    have h1 := H6.fs.col g' hg'
    rw [← e, ht w.heap.size (Nat.le_refl _)] at h1
    omega)
  rw [hv] at hi
  have hHC := H6.fs.col
  rw [hv] at hHC
  have HH6 := Lib.hid H6
  have hlS : (intsN (lf.take p ++ id :: lf.drop p)).length = lf.length + 1 := by simp [intsN]; omega
  clear H hA H6 hb
  go_wp2_with fail
  refine hi.mono ?_
  rintro e w2 ⟨v2, rfl, O2, G2, at2⟩
  have S7 := StepC.app (P := fun c => c = k + 2) ht6 G2 hHC rfl at2 O2.lt
  have B7 := HH6.out.box.keep S7 (by omega)
  have q4 := B7.cell 4 rfl
  have f4 := B7.free 4
  obtain ⟨H8, S8⟩ := HH6.out.putF S7 (OwnKc.mk' kI O2)
  have HH8 := Lib.hid H8
  clear H8 hi
  obtain ⟨A2, c2, rfl, _, _⟩ := O2.form hlS
  go_wp2
  go_end0
  exact ⟨rfl, _, _, _, HH8.out, S6.trans S8⟩
end
end Go.Proofs.Ytenchaifnfgijaa
