/- Words laid together in one text. Conditions: none beyond those typed. -/
import Derived.Test.YtgkokglngpbamaaZ02
import Derived.RangeFuncCalls
import Derived.RangeFuncLeaves
import Derived.RangeFuncRecord
import Derived.Test.YtgkokglngpbamaaZ14
import Derived.Deep.CutRange
import Derived.Test.YtgkokglngpbamaaZ12
import Derived.Test.YtgkokglngpbamaaShelfs
import Derived.Sort.OwnSorted
import Derived.Sort.Walk0
import Derived.Test.YtgkokglngpbamaaZ15
import Derived.OwnWalkIn
import Derived.TacticsInMore
import Derived.LoopNIn
import Derived.LoopIn
import Derived.WalkKit
/- A range over a method value that visits elements (for x, y := range t.each), over coloured memory: the loop's law. Conditions: none beyond those typed. -/
namespace Go.Proofs.Ytgkokglngpbamaa
open Go.ChangeShapes Go.WideShapes Go.ChangeAt Go.RowKit
set_option linter.unusedVariables false
set_option linter.unusedSimpArgs false

/-- What an iterator promises over coloured memory: R says what it reads at each element; a round writes blocks of colour 2 and more alone. -/
def Visits {α : Type} (P : Program) (gf : Nat) (bs : Array Value) (encs : α → Array Value) (xs : List α) (R : List α → Col → World → Prop) : Prop :=
  ∀ (l : Nat) (J : List α → Col → World → Prop) (c : Col) (W : World), (∀ pre c W, J pre c W → R pre c W) →
    (∀ pre c W W', J pre c W → Below W.heap.size W W' → J pre c W') →
    (∀ pre x rest c W, xs = pre ++ x :: rest → J pre c W → YieldAt Fence.wide 0 P l (encs x) W fun e W' => e = .returned (.bool true) ∧ ∃ c', J (pre ++ [x]) c' W' ∧ StepC (fun d => 2 ≤ d) c W c' W') →
    J [] c W → Calls P gf (bs ++ #[.func (.yield l) #[] #[]]) W fun e W' => (∃ v, e = .returned v) ∧ ∃ c', J xs c' W'
section
variable {P' P2 : Nat → Prop} {col col' : Col} {w w' : World} {P : Program}
theorem below_put {B l : Nat} {W : World} (o : Obj) (h : B ≤ l) : Below B W (W.putObj l o) := by
  refine ⟨rfl, rfl, rfl, by simp, fun b hb => World.putObj_heap_other (by omega)⟩
theorem StepC.putObj {P' : Nat → Prop} {col : Col} {w : World} (ht : Tidy col w) {l : Nat} (hp : P' (col l)) (o : Obj) : StepC P' col w col (w.putObj l o) :=
  ⟨rfl, rfl, rfl, by simp, fun _ _ => rfl, ht.size (by simp), fun b hb hq => World.putObj_heap_other (by rintro rfl; exact hq hp)⟩
/-- The loop: each element is visited, in the order of xs; what lies in memory is said by I. Blocks of colour 2 are the loop's own. -/
theorem wp_visits {α : Type} {P : Program} {g : Operand} {ps : Array Tmp} {assign body : Code} {Q : Exit → Act → World → Prop} {a : Act} {w : World} {col : Col} {gf : Nat} {bs : Array Value}
    (hg : a.eval g = .func (.func gf) bs #[]) (eg : ∀ args w, (callFunc gf args).run P w = .ok (.enter gf args) w) {encs : α → Array Value} (hps : ∀ x, (encs x).size = ps.size) {xs : List α}
    {R : List α → Col → World → Prop} (hseq : Visits P gf bs encs xs R) (ht : Tidy col w)
    (I : List α → Col → World → Prop) (hR : ∀ pre c W, I pre c W → R pre c W) (hT : ∀ pre c W, I pre c W → Tidy c W)
    (hI : ∀ pre c W c' W', I pre c W → StepC (fun d => d = 2) c W c' W' → Below w.heap.size W W' → I pre c' W')
    (h0 : I [] col w) (a₁ : α → Act)
    (hassign : ∀ (l : Nat) (x : α) (W : World) (K : Act → World → Prop), K (a₁ x) W →
      assign.wpIn (Fence.wide.inRound l) 0 P (Exit.then K (fun _ _ _ => False)) { tmps := (ps.zip (encs x)).foldl (fun t (p, v) => t.setIfInBounds p v) a.tmps, defers := [] } W)
    (hbody : ∀ (l : Nat) (pre : List α) (x : α) (rest : List α) (c : Col) (W : World), xs = pre ++ x :: rest → I pre c W → w.heap.size ≤ W.heap.size →
      body.wpIn (Fence.wide.inRound l) 0 P (fun e _ W' => e = .normal ∧ ∃ c', I (pre ++ [x]) c' W' ∧ StepC (fun d => 3 ≤ d) c W c' W') (a₁ x) W)
    (hdone : ∀ (D : Nat) (c : Col) (W : World), w.heap.size ≤ D → D < W.heap.size → c D = 2 → I xs c W → W.heap[D]? = some (.deferred (some [])) → Q .normal { a with defers := { target := .collected D, args := #[] } :: a.defers } W) :
    (Code.rangeFunc g ps assign body).wp P Q a w := by
  refine (wpIn_wide (n := 0)).1 ?_
  refine wpIn_rangeFunc ?_
  intro fn hfn
  obtain ⟨rec, hrec⟩ : ∃ rec : LoopState → Loop, rec = fun st => { state := st, pending := none, fn, tmps := a.tmps, params := ps, assign, body, defers := w.heap.size } := ⟨_, rfl⟩
  obtain ⟨D, hD⟩ : ∃ D, w.heap.size = D := ⟨_, rfl⟩
  obtain ⟨W1, hW1⟩ : ∃ W1, (w.alloc (.deferred (some []))).alloc (.loop (rec .ready)) = W1 := ⟨_, rfl⟩
  have s1 : StepC (fun d => d = 2) col w (dye col (some D) 2) (w.alloc (.deferred (some []))) := by rw [← hD]; exact StepC.new ht _ 2 _
  have s2 : StepC (fun d => d = 2) (dye col (some D) 2) (w.alloc (.deferred (some []))) (dye (dye col (some D) 2) (some (D + 1)) 2) W1 := by
    rw [← hW1, show D + 1 = (w.alloc (.deferred (some []))).heap.size by simp [hD]]
    exact StepC.new s1.tidy _ 2 _
  have hB1 : Below D w W1 := by
    rw [← hW1, ← hD]
    exact ((Below.refl _ w).alloc (Nat.le_refl _) _).alloc (by simp) _
  have hL1 : W1.heap[D + 1]? = some (.loop (rec .ready)) := by
    rw [← hW1, ← hD]; have := World.alloc_heap_new (w.alloc (.deferred (some []))) (.loop (rec .ready)); rwa [World.size_alloc] at this
  have hK1 : W1.heap[D]? = some (.deferred (some [])) := by
    rw [← hW1, ← hD]; exact (Below.heap_alloc _ _ _ (by simp)).trans (World.alloc_heap_new w _)
  have hI1 : I [] (dye (dye col (some D) 2) (some (D + 1)) 2) W1 := by
    refine hI _ _ _ _ _ h0 (s1.trans s2) ?_
    rw [hD]; exact hB1
  refine ⟨D + 1, [{ target := .collected D, args := #[] }], W1, { target := .fn (.func gf) #[], args := bs ++ #[.func (.yield (D + 1)) #[] #[]] }, W1, gf,
    bs ++ #[.func (.yield (D + 1)) #[] #[]], W1, ?_, ?_, fun _ _ => trivial, ?_, fun h => by simp [Fence.wide] at h, ?_⟩
  · rw [← hW1, ← hD, hrec]; exact run_enterLoop_outer _ _ _ _ _
  · simp only [resolve, hg]
    simp [go_sem]
  · simp [invoke, go_sem, eg]
  · refine (callsIn_wide.2 (hseq (D + 1)
      (fun pre c W => I pre c W ∧ (D + 1 < W.heap.size ∧ c (D + 1) = 2 ∧ c D = 2) ∧ W.heap[D + 1]? = some (.loop (rec .ready)) ∧ W.heap[D]? = some (.deferred (some [])))
      (dye (dye col (some D) 2) (some (D + 1)) 2) W1 (fun pre c W h => hR _ _ _ h.1) (fun pre c W W' h hb => ?_) (fun pre x rest c W hx h => ?_) ⟨hI1, ⟨?_, dye_of, ?_⟩, hL1, hK1⟩)).mono ?_
    · obtain ⟨h1, ⟨h2, h3, h4⟩, h5, h6⟩ := h
      have hs : StepC (fun d => d = 2) c W c W' := StepC.below (hT _ _ _ h1) hb
      exact ⟨hI _ _ _ _ _ h1 hs (hb.mono (by omega)), ⟨Nat.lt_of_lt_of_le h2 hb.size, h3, h4⟩, (hb.block _ h2).trans h5, (hb.block _ (by omega)).trans h6⟩
    · obtain ⟨h1, ⟨h2, h3, h4⟩, h5, h6⟩ := h
      have hy := run_yield (P := P) (args := encs x) h5 (by rw [hrec]; exact hps x)
      rw [hrec] at hy
      have t1 := hT _ _ _ h1
      refine ⟨fn, _, assign, body, hy, roundIn_of_wpIn trivial (hassign _ x W _ ⟨_, run_beginRound h5 (by rw [hrec]), ?_⟩)⟩
      obtain ⟨W2, hW2⟩ : ∃ W2, W.putObj (D + 1) (.loop { rec .ready with state := .busy }) = W2 := ⟨_, rfl⟩
      have q1 : StepC (fun d => d = 2) c W c W2 := by rw [← hW2]; exact StepC.putObj t1 h3 _
      have q2 : Below D W W2 := by rw [← hW2]; exact below_put _ (by omega)
      have q3 : W2.heap[D + 1]? = some (.loop { rec .ready with state := .busy }) := by rw [← hW2]; exact World.putObj_heap_same h2
      have q4 : W2.heap[D]? = some (.deferred (some [])) := by rw [← hW2]; exact (World.putObj_heap_other (by omega)).trans h6
      have q5 : I pre c W2 := hI _ _ _ _ _ h1 q1 (by rw [hD]; exact q2)
      have hsz := q2.size
      rw [hW2]
      refine wpIn_mono (hbody _ pre x rest c W2 hx q5 (by omega)) ?_
      rintro e a3 W3 ⟨rfl, c', i3, s3⟩
      have r1 : W3.heap[D + 1]? = some (.loop { rec .ready with state := .busy }) := (s3.block _ (by omega) (by rw [h3]; omega)).trans q3
      have r2 : W3.heap[D]? = some (.deferred (some [])) := (s3.block _ (by omega) (by rw [h4]; omega)).trans q4
      have e1 : c' (D + 1) = 2 := (s3.kept _ (by omega)).trans h3
      have e2 : c' D = 2 := (s3.kept _ (by omega)).trans h4
      have hr : (Instr.endRound (D + 1) none).run P W3 = .ok (.bool true) (W3.putObj (D + 1) (.loop (rec .ready))) := by
        have h := run_endRound (P := P) none r1
        rw [hrec] at h ⊢
        exact h
      have hz := s3.size
      have n1 : StepC (fun d => d = 2) c' W3 c' (W3.putObj (D + 1) (.loop (rec .ready))) := StepC.putObj s3.tidy e1 _
      refine ⟨_, _, hr, ?_⟩
      exact ⟨rfl, c', ⟨hI _ _ _ _ _ i3 n1 (by rw [hD]; exact below_put _ (by omega)), ⟨by simp; omega, e1, e2⟩, World.putObj_heap_same (by omega), (World.putObj_heap_other (by omega)).trans r2⟩,
        ((q1.mono fun c h => by omega).trans (s3.mono fun c h => by omega)).trans (n1.mono fun c h => by omega)⟩
    · exact (Array.getElem?_eq_some_iff.1 hL1).1
    · rw [dye_no (by intro e; injection e with e; omega)]; exact dye_of
    · rintro e W2 ⟨⟨v, rfl⟩, c', h1, ⟨h2, h3, h4⟩, h5, h6⟩
      refine ⟨none, _, by have := run_endLoop (P := P) h5 (by rw [hrec]; simp); rw [hrec] at this; exact this, ?_⟩
      have n1 : StepC (fun d => d = 2) c' W2 c' (W2.putObj (D + 1) (.loop (rec .exhausted))) := StepC.putObj (hT _ _ _ h1) h3 _
      rw [hrec] at n1
      exact hdone D c' _ (by omega) (by simp; omega) h4 (hI _ _ _ _ _ h1 n1 (by rw [hD]; exact below_put _ (by omega))) ((World.putObj_heap_other (by omega)).trans h6)
/-- A function whose body holds such loops: its marks are taken at its end. -/
theorem calls_of_marks {f : FuncId} {fn : Func} {c : Code} {args : Array Value} {w : World} {R : Ending → World → Prop} (hf : P.funcs[f]? = some fn) (hb : fn.body = some c)
    (h : c.wp P (bodyPostM Fence.wide 0 P fn R) { tmps := args ++ Array.replicate (fn.ntmps - args.size) undef, defers := [] } w) : Calls P f args w R :=
  callsIn_wide.1 (callsIn_of_wp_marks (F := Fence.wide) (n := 0) hf hb trivial ((wpIn_wide (n := 0)).2 h))
end
end Go.Proofs.Ytgkokglngpbamaa

/- The program's tables of int values: where a search ends. Conditions: none beyond those typed. -/
namespace Go.Proofs.Ytgkokglngpbamaa
open Go.ChangeShapes Go.WideShapes Go.ChangeAt Go.RowKit
set_option linter.unusedVariables false
set_option linter.unusedSimpArgs false
set_option maxRecDepth 100000

section
variable {P : Nat → Prop} {col col' : Col} {w w' : World} {k g n u N : Nat} {T : List Int} {seed : Int} {A : Option Addr} {cT b c : Nat} {t : Tb Int} {home : ByteArray → Nat} {s : ByteArray}
/-- Where a search ends: at the key, or at a free place, and then the key is nowhere. -/
def Foundi (t : Tb Int) (home : ByteArray → Nat) (s : ByteArray) (i : Nat) (yes : Bool) : Prop :=
  (yes = true ∧ ∃ v, t[i]? = some (some (s, v))) ∨ (yes = false ∧ Emp t i ∧ (∀ q, q < t.length → dst t.length (home s) q < dst t.length (home s) i → Occ t q) ∧ ∀ (p : Nat) (v : Int), t[p]? ≠ some (some (s, v)))
def FindOuti (t : Tb Int) (home : ByteArray → Nat) (s : ByteArray) (N : Nat) (w : World) (r : Ending) (w' : World) : Prop := ∃ (i : Nat) (yes : Bool), r = .returned (.tuple #[.int .i64 i, .bool yes]) ∧ i < N ∧ Foundi t home s i yes ∧ w = w'
end
end Go.Proofs.Ytgkokglngpbamaa

/- The program's tables of int values: New, and what a nil table returns. Conditions: none beyond those typed. -/
namespace Go.Proofs.Ytgkokglngpbamaa
open Go.ChangeShapes Go.WideShapes Go.ChangeAt Go.RowKit
set_option linter.unusedVariables false
set_option linter.unusedSimpArgs false
set_option maxRecDepth 100000

section
variable {P : Nat → Prop} {col col' : Col} {w w' W : World} {k g n u N : Nat} {T : List Int} {seed : Int} {A : Option Addr} {cT b c gm bc cc : Nat} {t : Tb Int} {home : ByteArray → Nat} {s : ByteArray} {m : MSt Int} {v : Int}
theorem plOfi_free (home : ByteArray → Nat) (N : Nat) : (List.replicate N (none : Option (ByteArray × Int))).map (plOf (0 : Int) home) = List.replicate N ((false, 0, ⟨#[]⟩, (0 : Int)) : Pl Int) := by simp [plOf]
end
end Go.Proofs.Ytgkokglngpbamaa

/- The program's tables of string values: where a search ends. Conditions: none beyond those typed. -/
namespace Go.Proofs.Ytgkokglngpbamaa
open Go.ChangeShapes Go.WideShapes Go.ChangeAt Go.RowKit
set_option linter.unusedVariables false
set_option linter.unusedSimpArgs false
set_option maxRecDepth 100000

section
variable {P : Nat → Prop} {col col' : Col} {w w' : World} {k g n u N : Nat} {T : List Int} {seed : Int} {A : Option Addr} {cT b c : Nat} {t : Tb ByteArray} {home : ByteArray → Nat} {s : ByteArray}
/-- Where a search ends: at the key, or at a free place, and then the key is nowhere. -/
def Founds (t : Tb ByteArray) (home : ByteArray → Nat) (s : ByteArray) (i : Nat) (yes : Bool) : Prop :=
  (yes = true ∧ ∃ v, t[i]? = some (some (s, v))) ∨ (yes = false ∧ Emp t i ∧ (∀ q, q < t.length → dst t.length (home s) q < dst t.length (home s) i → Occ t q) ∧ ∀ (p : Nat) (v : ByteArray), t[p]? ≠ some (some (s, v)))
def FindOuts (t : Tb ByteArray) (home : ByteArray → Nat) (s : ByteArray) (N : Nat) (w : World) (r : Ending) (w' : World) : Prop := ∃ (i : Nat) (yes : Bool), r = .returned (.tuple #[.int .i64 i, .bool yes]) ∧ i < N ∧ Founds t home s i yes ∧ w = w'
end
end Go.Proofs.Ytgkokglngpbamaa

/- The program's tables of string values: New, and what a nil table returns. Conditions: none beyond those typed. -/
namespace Go.Proofs.Ytgkokglngpbamaa
open Go.ChangeShapes Go.WideShapes Go.ChangeAt Go.RowKit
set_option linter.unusedVariables false
set_option linter.unusedSimpArgs false
set_option maxRecDepth 100000

section
variable {P : Nat → Prop} {col col' : Col} {w w' W : World} {k g n u N : Nat} {T : List Int} {seed : Int} {A : Option Addr} {cT b c gm bc cc : Nat} {t : Tb ByteArray} {home : ByteArray → Nat} {s : ByteArray} {m : MSt ByteArray} {v : ByteArray}
theorem plOfs_free (home : ByteArray → Nat) (N : Nat) : (List.replicate N (none : Option (ByteArray × ByteArray))).map (plOf (⟨#[]⟩ : ByteArray) home) = List.replicate N ((false, 0, ⟨#[]⟩, (⟨#[]⟩ : ByteArray)) : Pl ByteArray) := by simp [plOf]
end
end Go.Proofs.Ytgkokglngpbamaa

/- slices.Sort of a row of texts of the call's own; make of an empty row with room. Conditions: none beyond those typed. -/
namespace Go.Proofs.Ytgkokglngpbamaa
open Go.ChangeShapes Go.WideShapes Go.ChangeAt Go.RowKit Go.Sort
set_option linter.unusedVariables false
set_option linter.unusedSimpArgs false
set_option maxRecDepth 100000

def bytesT (l : List ByteArray) : List (List UInt8) := l.map fun z => z.data.toList
def ofBytesT (l : List (List UInt8)) : List ByteArray := l.map fun b => ⟨b.toArray⟩
/-- In ascending order. -/
def ordT (l : List ByteArray) : List ByteArray := ofBytesT ((bytesT l).mergeSort fun x y => decide (x ≤ y))
theorem bytes_of (l : List (List UInt8)) : bytesT (ofBytesT l) = l := by
  induction l with
  | nil => rfl
  | cons a r ih => exact congrArg (List.cons a) ih
theorem of_bytes (l : List ByteArray) : ofBytesT (bytesT l) = l := by
  induction l with
  | nil => rfl
  | cons a r ih => exact congrArg (List.cons a) ih
theorem cells_enc (l : List ByteArray) : cellsK kT l = (bytesT l).map encStr := by
  induction l with
  | nil => rfl
  | cons a r ih => rw [cellsK_cons, ih]; simp [bytesT, kT, encStr]
theorem ord_len (l : List ByteArray) : (ordT l).length = l.length := by simp [ordT, ofBytesT, bytesT]
theorem ord_mem (l : List ByteArray) (s : ByteArray) : s ∈ ordT l ↔ s ∈ l := by
  unfold ordT ofBytesT bytesT
  simp only [List.mem_map, List.mem_mergeSort]
  constructor
  · rintro ⟨_, ⟨z, hz, rfl⟩, rfl⟩; simpa using hz
  · intro hs; exact ⟨_, ⟨s, hs, rfl⟩, by simp⟩
theorem le_bl (x y : List UInt8) : decide (x ≤ y) = !Op.bytesLess y x := by
  rw [bytesLess_eq, ← decide_not]
  apply decide_eq_decide.2
  exact Iff.rfl
theorem ord_srt {l : List ByteArray} (hn : l.Nodup) : (ordT l).Pairwise fun a b => sless a b = true := by
  have h1 : ((bytesT l).mergeSort fun x y => decide (x ≤ y)).Pairwise fun x y => decide (x ≤ y) = true := by
    apply List.pairwise_mergeSort
    · intro x y z h1 h2
      rw [le_bl] at h1 h2 ⊢
      cases hzx : Op.bytesLess z x with
      | false => rfl
      | true =>
        rcases bl_total x y with e | e | e
        · subst e; rw [hzx] at h2; cases h2
        · rw [bl_trans _ _ _ hzx e] at h2; cases h2
        · rw [e] at h1; cases h1
    · intro x y
      rw [le_bl, le_bl]
      cases hxy : Op.bytesLess y x with
      | false => rfl
      | true => rw [bl_asymm hxy]; rfl
  have h2 : ((bytesT l).mergeSort fun x y => decide (x ≤ y)).Nodup := (List.mergeSort_perm _ _).nodup_iff.2 (by
    unfold bytesT
    refine List.Pairwise.map _ ?_ hn
    intro a b hab e
    exact hab (ByteArray.ext (Array.toList_inj.1 e)))
  unfold ordT ofBytesT
  refine List.Pairwise.map _ ?_ (h1.and h2)
  intro a b hab
  have h3 := hab.1
  rw [le_bl] at h3
  unfold sless
  rw [Lib.toList_data, Lib.toList_data]
  rcases bl_total a b with e | e | e
  · exact absurd e hab.2
  · simpa using e
  · rw [e] at h3; cases h3
theorem ordT_any {w : World} {g c n : Nat} {l : List ByteArray} (h : OwnK kT w (.slice (some ⟨g, 0, none⟩) n c) l) (hn : n ≤ 1000000) :
    Calls Try.prog 63 #[.slice (some ⟨g, 0, none⟩) n c] w fun e w' => e = .returned (.tuple #[]) ∧ OwnK kT w' (.slice (some ⟨g, 0, none⟩) n c) (ordT l) ∧ w.grownBy w' (some g) := by
  obtain rfl := h.len
  have hb0 : w.ownsRow 0 kT.ty kT.k (.slice (some ⟨g, 0, none⟩) l.length c) l.length (cellsK kT l) := h
  rcases hb0.2 with ⟨hnil, _⟩ | ⟨g', cap, cur, hv, hbase, hb, h1, h2, h3, h4⟩
  · cases hnil
  injection hv with e1 e2 e3
  injection e1 with e1
  injection e1 with e1
  subst e1 e3
  have hl : (bytesT l).length = l.length := by simp [bytesT]
  have h4' : cur.toList.take (bytesT l).length = (bytesT l).map encStr := by
    rw [cells_enc, show kT.k = 1 from rfl, Nat.mul_one] at h4
    rw [hl]; exact h4
  have hH := holds_of_block hb h4'
  have hcall := Try.slices_Sort_string g 0 c (bytesT l) w hH (Array.getElem?_eq_some_iff.1 hb).1 (by rw [hl]; omega)
  rw [hl] at hcall
  refine hcall.mono ?_
  rintro e w' ⟨rfl, q, os, rfl⟩
  have hts : ((bytesT l).mergeSort fun x y => decide (x ≤ y)).length = (bytesT l).length := by simp
  have hrow := ownsRow_sorted (w := w) (base := 0) (n := q) (os := os) hts hbase hb (by rw [hl]; exact h1) h2 (by simpa [kT] using h3)
  refine ⟨rfl, ?_, grownBy_sorted _⟩
  show World.ownsRow _ 0 kT.ty kT.k _ (ordT l).length (cellsK kT (ordT l))
  rw [cells_enc, ord_len]
  unfold ordT
  rw [bytes_of]
  rw [hl] at hrow
  exact hrow
end Go.Proofs.Ytgkokglngpbamaa

/- The program's tables of numbers: Keys; all that the statements use of them. Conditions: none beyond those typed. -/
namespace Go.Proofs.Ytgkokglngpbamaa
open Go.ChangeShapes Go.WideShapes Go.ChangeAt Go.RowKit
set_option linter.unusedVariables false
set_option linter.unusedSimpArgs false
set_option maxRecDepth 100000

section
variable {α : Type} {t : Tb α} {i : Nat} {e : ByteArray × α}
/-- The keys in their places' order. -/
def keysT (t : Tb α) : List ByteArray := (ents t).map Prod.fst
theorem keysT_yes (h : t[i]? = some (some e)) : keysT (t.take (i + 1)) = keysT (t.take i) ++ [e.1] := by
  rw [List.take_add_one, h]
  simp [keysT, ents]
theorem keysT_no (h : t[i]? = some none) : keysT (t.take (i + 1)) = keysT (t.take i) := by
  rw [List.take_add_one, h]
  simp [keysT, ents]
theorem keysT_le (t : Tb α) : (keysT t).length ≤ t.length := by
  rw [keysT, List.length_map]
  exact List.length_filterMap_le _ _
end
section
variable {P : Nat → Prop} {col col' : Col} {w w' W : World} {k g n u N : Nat} {T : List Int} {seed : Int} {A : Option Addr} {cT b c gm bc : Nat} {t : Tb Int} {home : ByteArray → Nat} {s : ByteArray} {m : MSt Int} {v : Int}
end
end Go.Proofs.Ytgkokglngpbamaa

/- The program's tables of numbers of 64 bits: Keys. Conditions: none beyond those typed. -/
namespace Go.Proofs.Ytgkokglngpbamaa
open Go.ChangeShapes Go.WideShapes Go.ChangeAt Go.RowKit
set_option linter.unusedVariables false
set_option linter.unusedSimpArgs false
set_option maxRecDepth 100000

section
variable {P : Nat → Prop} {col col' : Col} {w w' W : World} {k g n u N : Nat} {T : List Int} {seed : Int} {A : Option Addr} {cT b c gm bc : Nat} {t : Tb Int} {home : ByteArray → Nat} {s : ByteArray} {m : MSt Int} {v : Int}
theorem noneKeysw (w : World) : Calls Try.prog 57 #[.pointer none] w fun e w' => ∃ A c, e = .returned (.slice A 0 c) ∧ Below w.heap.size w w' := by
  go_enter Try.func57, Try.ntmps57
  go_wp2
  go_ret
  exact ⟨none, 0, rfl, Below.refl _ _⟩
set_option maxHeartbeats 4000000 in
theorem keysw_any (H : PMw col k w g m) (ht : Tidy col w) : Calls Try.prog 57 #[.pointer (some ⟨g, 0, none⟩)] w (KeysOut w m.keys) := by
  obtain ⟨hG, T, seed, A, cT, b, c, N, t, M, hL, R⟩ := H
  obtain ⟨_, hlN, hN6, hN0, hlen⟩ := M.room hG hL R
  have x3 := M.c3
  have x4 := M.c4
  obtain ⟨hcp, hcm⟩ := M.cap
  have hM := Lib.hid M
  have hcnt := R.count hG hL
  have hfin := Lib.hid (show ∀ l, l = keysT t → ordT l = m.keys from fun l e => by
    subst e
    exact R.keys hG (ord_srt hL.nodup) fun s => ord_mem _ s)
  obtain ⟨u0, hu0⟩ : ∃ u0, m.l.length = u0 := ⟨_, rfl⟩
  have hkl : (keysT t).length = u0 := by rw [← hu0, ← hcnt]; exact List.length_map ..
  obtain ⟨CS, hmk, hOw⟩ := make0_any kT (n := u0) (by omega)
  have hmk' : ∀ W : World, (Instr.makeSlice 56 (.int .i64 0) (.int .i64 (u0 : Int))).run Try.prog W = .ok (.slice (some ⟨W.heap.size, 0, none⟩) 0 u0) (W.alloc (.cells CS 9)) := hmk
  have HO := Lib.hid (hOw w)
  have B0 : Below w.heap.size w (w.alloc (.cells CS 9)) := (Below.refl _ _).alloc (Nat.le_refl _) _
  have HB0 := Lib.hid B0
  have x4' := (cellB x4 B0).1
  have hmkl : m.keys.length = u0 := by rw [← hu0]; exact keys_len m
  have HML := Lib.hid hmkl
  have HKL := Lib.hid hkl
  rw [hu0] at x3
  clear hmk hOw M R hL hG hcnt hkl hmkl
  go_enter Try.func57, Try.ntmps57
  go_wp2
  go_loopw [3, 18] (fun kv iv wr => ∃ (i gk d nk : Nat) (l : List ByteArray), i ≤ N ∧ iv = .int .i64 (i : Int) ∧ kv = .slice (some ⟨gk, 0, none⟩) nk d ∧ l = keysT (t.take i) ∧ nk ≤ i ∧ OwnK kT wr (.slice (some ⟨gk, 0, none⟩) nk d) l ∧ w.heap.size ≤ gk ∧ Below w.heap.size w wr) (fun _ iv _ => N - (intOf iv).toNat)
  case atStart => exact ⟨0, w.heap.size, u0, 0, [], Nat.zero_le _, rfl, rfl, rfl, Nat.le_refl _, HO.out, Nat.le_refl _, HB0.out⟩
  case round =>
    obtain ⟨i, gk, d, nk, l, hi, rfl, rfl, hl, hni, O, hgk, hB⟩ := hrel
    clear x3 x4 x4' HO HB0 B0 hmk'
    by_cases hlt : i < N
    · have hil : i < t.length := by omega
      have hiI : (i : Int) < (N : Int) := by omega
      have M := hM.out.below ht hB
      rcases occ_or hil with ⟨⟨kk, v⟩, ho⟩ | hem
      · have hr : (t.map (plOf 0 (homeT T seed N)))[i]? = some (plOf 0 (homeT T seed N) (some (kk, v))) := by rw [List.getElem?_map, ho]; rfl
        obtain ⟨y0, y1, y2, y3, _⟩ := M.at_ hr
        have y0' : wr.cell? ⟨b, i * 4, none⟩ = some (.bool true) := y0
        have y1' : wr.cell? ⟨b, i * 4 + 1, none⟩ = some (.int .i64 (homeT T seed N kk : Int)) := y1
        have y2' : wr.cell? ⟨b, i * 4 + 2, none⟩ = some (.string kk) := y2
        have y3' : wr.cell? ⟨b, i * 4 + 3, none⟩ = some (.int .u64 v) := y3
        have HL := Lib.hid (show l ++ [kk] = keysT (t.take (i + 1)) by rw [keysT_yes ho, hl])
        have hln := O.len
        generalize homeT T seed N kk = hm at y1'
        have O1 : OwnK kT ((wr.alloc (.cells #[.bool true, .int .i64 (hm : Int), .string kk, .int .u64 v] 92)).alloc (.cells #[.string kk] 9)) (.slice (some ⟨gk, 0, none⟩) nk d) l := (O.alloc _).alloc _
        have R1 : RdG kT ((wr.alloc (.cells #[.bool true, .int .i64 (hm : Int), .string kk, .int .u64 v] 92)).alloc (.cells #[.string kk] 9)) (some ⟨wr.heap.size + 1, 0, none⟩) 1 1 [kk] := RdG.one2 kT kk rfl rfl (by simp)
        have B1 : Below w.heap.size w ((wr.alloc (.cells #[.bool true, .int .i64 (hm : Int), .string kk, .int .u64 v] 92)).alloc (.cells #[.string kk] 9)) := (hB.alloc hB.size _).alloc (hB.alloc hB.size _).size _
        have N1 : New w (.slice (some ⟨gk, 0, none⟩) nk d) := New.lit hgk
        have hby : l.length + 1 ≤ 1000000000 := by omega
        have hl2 : (l ++ [kk]).length = nk + 1 := by simp [hln]
        have h0n : 0 < nk + 1 := by omega
        clear y0 y1 y2 y3 hr ho hl M hln
        go_wp2_with (at_builtin; refine wpList_appK kT rfl (.tmp 24) (.tmp 27) rfl _ l rfl _ 1 1 [kk] rfl O1 R1 hby ?_; intro v2 w2 O2 G2 hat2; have N2 : New w v2 := New.app N1 B1 hat2; have B2 := B1.grown G2 B1.size (fun q hq => N1 q hq); obtain ⟨A2, c2, rfl, _, _⟩ := O2.form hl2; obtain ⟨g2, rfl, _⟩ := O2.head h0n; have hg2 := N2 g2 rfl)
        go_roundw
        case rel => exact ⟨i + 1, g2, c2, nk + 1, l ++ [kk], by omega, by go_num, by first | rfl | (push_cast; rfl), HL.out, by omega, O2, hg2, B2⟩
        case measure => (simp [intOf] <;> omega)
      · have hem' : t[i]? = some none := hem
        have hr : (t.map (plOf 0 (homeT T seed N)))[i]? = some (plOf 0 (homeT T seed N) none) := by rw [List.getElem?_map, hem']; rfl
        obtain ⟨y0, y1, y2, y3, _⟩ := M.at_ hr
        have y0' : wr.cell? ⟨b, i * 4, none⟩ = some (.bool false) := y0
        have y1' : wr.cell? ⟨b, i * 4 + 1, none⟩ = some (.int .i64 0) := y1
        have y2' : wr.cell? ⟨b, i * 4 + 2, none⟩ = some (.string ⟨#[]⟩) := y2
        have y3' : wr.cell? ⟨b, i * 4 + 3, none⟩ = some (.int .u64 0) := y3
        have HL := Lib.hid (show l = keysT (t.take (i + 1)) by rw [keysT_no hem']; exact hl)
        clear y0 y1 y2 y3 hr hem hem' hl M
        go_wp2
        go_roundw
        case rel => exact ⟨i + 1, gk, d, nk, l, by omega, by go_num, rfl, HL.out, by omega, O.below ((Below.refl _ _).alloc (Nat.le_refl _) _), hgk, hB.alloc hB.size _⟩
        case measure => (simp [intOf] <;> omega)
    · have hiN : i = N := by omega
      have HL := Lib.hid (show l = keysT t by rw [hl, hiN, List.take_of_length_le (by omega)])
      have HN := Lib.hid (show nk = u0 by rw [← O.len, HL.out, HKL.out])
      have hiI : ¬ (i : Int) < (N : Int) := by omega
      have hS := ordT_any O (by omega)
      clear hl hiN
      go_wp2_with fail
      refine hS.mono ?_
      rintro r w2 ⟨rfl, O2, G2⟩
      have B2 : Below w.heap.size w w2 := hB.grown G2 hB.size (fun q hq => by injection hq with hq; omega)
      go_wp2
      go_ret
      unfold KeysOut
      rw [HML.out, ← HN.out, ← hfin.out l HL.out]
      exact ⟨some ⟨gk, 0, none⟩, d, rfl, O2.reads, fun b' o sp e => by injection e with e; injection e with e; omega, B2⟩
end
end Go.Proofs.Ytgkokglngpbamaa

/- The program's tables (Misra-Gries): each visits the tracked keys in ascending order. Conditions: none beyond those typed. -/
namespace Go.Proofs.Ytgkokglngpbamaa
open Go.ChangeShapes Go.WideShapes Go.ChangeAt Go.RowKit
set_option linter.unusedVariables false
set_option linter.unusedSimpArgs false
set_option maxRecDepth 100000
attribute [local go_sem] Oper.semAt_some

/-- What a loop over the keys of a table reads. -/
structure RdEach (g gm : Nat) (m : MSt Int) (pre : List (ByteArray × Int)) (c : Col) (W : World) : Prop where
  tidy : Tidy c W
  cell : W.cell? ⟨g, 0, none⟩ = some (.pointer (some ⟨gm, 0, none⟩))
  idx : ∃ m', PMw c 48 W gm m' ∧ (pre = [] → m'.l = m.l) ∧ ∀ x rest, m.l = pre ++ x :: rest → m'.look x.1 = some x.2
def encP (x : ByteArray × Int) : Array Value := #[.string x.1, .int .u64 x.2]
section
variable {g gm : Nat} {m : MSt Int}
set_option maxHeartbeats 4000000 in
theorem each_visits (hsz : ∀ p ∈ m.l, Sz p.1) (hfew : m.l.length ≤ 64) : Visits Try.prog 42 #[.pointer (some ⟨g, 0, none⟩)] encP m.l (RdEach g gm m) := by
  intro l J c W hR hJ hY h0
  have r0 := hR _ _ _ h0
  obtain ⟨m0, I0, hm0, _⟩ := r0.idx
  have hK := keysw_any I0 r0.tidy
  have hkeys : m0.keys = m.l.map Prod.fst := by unfold MSt.keys; rw [hm0 rfl]
  rw [hkeys] at hK
  obtain ⟨ks, hks⟩ : ∃ ks, m.l.map Prod.fst = ks := ⟨_, rfl⟩
  obtain ⟨N, hN⟩ : ∃ N, m.l.length = N := ⟨_, rfl⟩
  have hkl : ks.length = N := by rw [← hks, List.length_map, hN]
  rw [hks] at hK
  have y0 := r0.cell
  have ht0 := Lib.hid r0.tidy
  have hN6 : N ≤ 64 := by omega
  clear hkeys hm0 I0
  rw [show (#[Value.pointer (some ⟨g, 0, none⟩)] ++ #[Value.func (.yield l) #[] #[]] : Array Value) = #[.pointer (some ⟨g, 0, none⟩), .func (.yield l) #[] #[]] from rfl]
  refine (callsIn_wide (n := 0)).1 (callsIn_of_wp Try.func42 rfl trivial ?_ rfl)
  simp only [Try.ntmps42, List.size_toArray, List.length_cons, List.length_nil, Nat.reduceAdd, Nat.reduceSub, Array.replicate_succ, Array.replicate_zero, List.push_toArray, List.append_toArray, List.nil_append, List.cons_append]
  gi_wp2_with (refine ⟨trivial, rfl, ?_⟩; gi_at_call 57; refine (callsIn_wide.2 hK).mono ?_; rintro e w1 ⟨A, ck, rfl, hRK, hAn, b1⟩; rw [hkl] at hRK ⊢; have hcap := hRK.cap; have hmax := hRK.max)
  have HS := Lib.hid (show J [] c w1 ∧ RdK0 kT c w1 A N ck ks from ⟨hJ _ _ _ _ h0 b1, hRK, fun hn b o sp e => ht0.out b (hAn b o sp e)⟩)
  clear hK hRK hAn b1 y0 h0 r0
  gi_loopw [14] (fun iv wr => ∃ (pre rest : List (ByteArray × Int)) (c' : Col), m.l = pre ++ rest ∧ iv = .int .i64 (pre.length : Int) ∧ J pre c' wr ∧ RdK0 kT c' wr A N ck ks) (fun iv _ => N - (intOf iv).toNat)
  case atStart => exact ⟨[], m.l, c, rfl, rfl, HS.out.1, HS.out.2⟩
  case round =>
    clear HS ht0
    obtain ⟨pre, rest, c', hx, rfl, hJ1, hRK⟩ := hrel
    have r1 := hR _ _ _ hJ1
    have hlen : pre.length + rest.length = N := by rw [← hN, hx, List.length_append]
    cases rest with
    | nil =>
      have hiN : ¬ (pre.length : Int) < (N : Int) := by simp at hlen; omega
      have HE := Lib.hid (show J m.l c' wr by rw [hx, List.append_nil]; exact hJ1)
      clear hJ1 hRK r1 hx hlen
      gi_wp2
      go_end0
      exact ⟨⟨_, rfl⟩, _, HE.out⟩
    | cons x rest =>
      have hiN : (pre.length : Int) < (N : Int) := by simp at hlen; omega
      have hlt : pre.length < N := by omega
      obtain ⟨b, o, kx, rfl, hk, _, hblt, hc⟩ := hRK.rd.at_ hlt
      have y0' := hc 0 (.string kx) rfl
      have y2 : wr.cell? ⟨b, o + pre.length, none⟩ = some (.string kx) := by simpa [show kT.k = 1 from rfl] using y0'
      have hkx : kx = x.1 := by
        rw [← hks, hx, List.map_append, List.getElem?_append_right (by simp)] at hk
        simp at hk
        exact hk.symm
      subst hkx
      obtain ⟨m1, I1, _, hl1⟩ := r1.idx
      have hG := getw_any I1 r1.tidy x.1 (hsz x (by rw [hx]; simp))
      have hgx : getG (0 : Int) m1 x.1 = (x.2, true) := by unfold getG; rw [hl1 x rest hx]; rfl
      rw [hgx] at hG
      have hG' : Calls Try.prog 33 #[.pointer (some ⟨gm, 0, none⟩), .string x.1] wr fun e w' => e = .returned (.tuple #[.int .u64 x.2, .bool true]) ∧ Below wr.heap.size wr w' := hG
      have y1 := r1.cell
      have HRK := Lib.hid hRK
      have HT1 := Lib.hid r1.tidy
      have HJ1 := Lib.hid hJ1
      have HX := Lib.hid hx
      have HN := Lib.hid hlen
      clear hG hgx hl1 I1 r1 hRK hk hc y0' hJ1 hx hlen
      gi_wp2_with (refine ⟨trivial, rfl, ?_⟩; gi_at_call 33; refine (callsIn_wide.2 hG').mono ?_; rintro e w4 ⟨rfl, b4⟩; obtain ⟨fn, tmps, assign, body, hy, hRd⟩ := hY pre x rest c' w4 HX.out (hJ _ _ _ _ HJ1.out b4); dsimp only [encP] at hy)
      refine ⟨rfl, hRd.mono ?_⟩
      rintro e W3 ⟨rfl, c3, hJ3, s3⟩
      have HF := Lib.hid (show J (pre ++ [x]) c3 W3 ∧ RdK0 kT c3 W3 (some ⟨b, o, none⟩) N ck ks ∧ m.l = (pre ++ [x]) ++ rest ∧ ((pre ++ [x]).length = pre.length + 1) from
        ⟨hJ3, (HRK.out.keep (StepC.below (P := fun _ => False) HT1.out b4) (fun h => h)).keep s3 (by omega), by rw [HX.out, List.append_assoc]; rfl, by simp⟩)
      have hw : IntKind.i64.wrap ((pre.length : Int) + 1) = (pre.length : Int) + 1 := by rw [IntKind.wrap_i64]; omega
      clear hRd hy hJ3 s3 hG' y1 y2 HRK HT1 HJ1 b4
      gi_wp2
      go_roundw
      case rel => exact ⟨pre ++ [x], rest, c3, HF.out.2.2.1, by rw [HF.out.2.2.2]; push_cast; rfl, HF.out.1, HF.out.2.1⟩
      case measure => (simp [intOf] <;> omega)
end
end Go.Proofs.Ytgkokglngpbamaa
