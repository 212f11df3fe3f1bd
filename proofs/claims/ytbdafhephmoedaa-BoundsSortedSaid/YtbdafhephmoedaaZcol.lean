/- Colours of blocks: which object may write which block. A step that writes the blocks of some colours alone, and what stays under it. Colour 0: nobody writes it again. Conditions: none beyond those typed. -/
import Derived.Test.YtbdafhephmoedaaKrow
import Derived.Test.YtbdafhephmoedaaBm
import Derived.Lib.Builder
namespace Go.Proofs.Ytbdafhephmoedaa
open Go.ChangeShapes Go.WideShapes Go.ChangeAt Go.RowKit
set_option linter.unusedVariables false
set_option linter.unusedSimpArgs false
set_option maxRecDepth 100000

abbrev Col := Nat → Nat
/-- The colours of one object. -/
def Rng (k c : Nat) : Prop := k ≤ c ∧ c < k + 16
/-- Blocks that are not there yet have colour 0. -/
def Tidy (col : Col) (w : World) : Prop := ∀ b, w.heap.size ≤ b → col b = 0
/-- From w to w' blocks of the colours P alone are written; blocks keep their colours. -/
structure StepC (P : Nat → Prop) (col : Col) (w : World) (col' : Col) (w' : World) : Prop where
  os : w'.os = w.os
  tape : w'.tape = w.tape
  output : w'.output = w.output
  size : w.heap.size ≤ w'.heap.size
  kept : ∀ b, b < w.heap.size → col' b = col b
  tidy : Tidy col' w'
  block : ∀ b, b < w.heap.size → ¬ P (col b) → w'.heap[b]? = w.heap[b]?
/-- This block has colour c. -/
def dye (col : Col) (o : Option Nat) (c : Nat) : Col := fun b => if o = some b then c else col b
/-- The block of a row has this colour. -/
def HasCol (col : Col) (v : Value) (c : Nat) : Prop := ∀ q, v.ownBlock = some q → col q = c
/-- The block of what a slice reads has colour 0. -/
def Imm (col : Col) (A : Option Addr) (n : Nat) : Prop := 0 < n → ∀ b o sp, A = some ⟨b, o, sp⟩ → col b = 0
section
variable {P P' : Nat → Prop} {col col' col'' : Col} {w w' w'' : World} {k c g n : Nat}
theorem dye_of {b : Nat} : dye col (some b) c b = c := if_pos rfl
theorem dye_no {o : Option Nat} {b : Nat} (h : o ≠ some b) : dye col o c b = col b := if_neg h
theorem Tidy.size (h : Tidy col w) (hs : w.heap.size ≤ w'.heap.size) : Tidy col w' := fun b hb => h b (by omega)
theorem StepC.refl (h : Tidy col w) : StepC P col w col w := ⟨rfl, rfl, rfl, Nat.le_refl _, fun _ _ => rfl, h, fun _ _ _ => rfl⟩
theorem StepC.trans (h : StepC P col w col' w') (h' : StepC P col' w' col'' w'') : StepC P col w col'' w'' :=
  ⟨h'.os.trans h.os, h'.tape.trans h.tape, h'.output.trans h.output, Nat.le_trans h.size h'.size, fun b hb => (h'.kept b (Nat.lt_of_lt_of_le hb h.size)).trans (h.kept b hb), h'.tidy,
    fun b hb hp => (h'.block b (Nat.lt_of_lt_of_le hb h.size) (by rw [h.kept b hb]; exact hp)).trans (h.block b hb hp)⟩
theorem StepC.mono (h : StepC P col w col' w') (hP : ∀ c, P c → P' c) : StepC P' col w col' w' := ⟨h.os, h.tape, h.output, h.size, h.kept, h.tidy, fun b hb hp => h.block b hb fun hq => hp (hP _ hq)⟩
theorem StepC.below (ht : Tidy col w) (h : Below w.heap.size w w') : StepC P col w col w' := ⟨h.os, h.tape, h.output, h.size, fun _ _ => rfl, ht.size h.size, fun b hb _ => h.block b hb⟩
theorem StepC.drew (ht : Tidy col w) : StepC P col w col w.drew := StepC.below ht (Below.refl _ _).drew
theorem StepC.alloc (ht : Tidy col w) (o : Obj) : StepC P col w col (w.alloc o) := StepC.below ht ((Below.refl _ _).alloc (Nat.le_refl _) o)
theorem StepC.set (ht : Tidy col w) {a : Addr} (hp : P (col a.block)) (u : Value) : StepC P col w col (w.setCell a u) :=
  ⟨rfl, rfl, rfl, by simp [World.setCell], fun _ _ => rfl, ht.size (by simp [World.setCell]), fun b hb hq => Below.heap_setCell _ _ _ _ (by rintro rfl; exact hq hp)⟩
/-- Blocks of the colours P have turned, or are new; one block is given a colour. -/
theorem StepC.dyed (ht : Tidy col w) (h : StepC P col w col w') {o : Option Nat} (hold : ∀ b, b < w.heap.size → o = some b → col b = c) (hlt : ∀ b, o = some b → b < w'.heap.size) : StepC P col w (dye col o c) w' :=
  ⟨h.os, h.tape, h.output, h.size, fun b hb => by
    unfold dye
    split
    · rename_i e; exact (hold b hb e).symm
    · rfl, fun b hb => by
    rw [dye_no fun e => by have := hlt b e; omega]
    exact h.tidy b hb, h.block⟩
/-- A row of colour c has grown (append). -/
theorem StepC.grownBy (ht : Tidy col w) {row : Option Nat} (hg : w.grownBy w' row) (hr : ∀ q, row = some q → P (col q)) : StepC P col w col w' :=
  ⟨hg.os, hg.tape, hg.output, hg.size, fun b hb => rfl, ht.size hg.size, fun b hb hq => hg.block b hb (by rintro e; exact hq (hr b e.symm))⟩
theorem StepC.app (ht : Tidy col w) {v v' : Value} (hg : w.grownBy w' v.ownBlock) (hc : HasCol col v c) (hP : P c) (hv : v'.ownBlock = v.ownBlock ∨ v'.ownBlock = some w.heap.size) (hl : ∀ q, v'.ownBlock = some q → q < w'.heap.size) :
    StepC P col w (dye col v'.ownBlock c) w' :=
  (StepC.grownBy ht hg fun q hq => by rw [hc q hq]; exact hP).dyed ht (fun b hb e => by
    rcases hv with hv | hv
    · exact hc b (hv.symm.trans e)
    · rw [hv] at e; injection e with e; omega) hl
/-- A new row is given a colour. -/
theorem StepC.newRow (ht : Tidy col w) {o : Option Nat} (hb : Below w.heap.size w w') (hn : ∀ b, o = some b → w.heap.size ≤ b ∧ b < w'.heap.size) : StepC P col w (dye col o c) w' :=
  (StepC.below ht hb).dyed ht (fun b hb e => by have := hn b e; omega) (fun b e => (hn b e).2)
/-- A block that is new and gets a colour. -/
theorem StepC.new (ht : Tidy col w) (o : Obj) (c : Nat) (P : Nat → Prop) : StepC P col w (dye col (some w.heap.size) c) (w.alloc o) :=
  StepC.newRow ht ((Below.refl _ _).alloc (Nat.le_refl _) o) fun b e => by injection e with e; subst e; exact ⟨Nat.le_refl _, by simp⟩
theorem rng0 {k : Nat} (hk : 1 ≤ k) : ¬ Rng k 0 := fun h => by have := h.1; omega
theorem rngs_no {a b : Nat} (h : a + 16 ≤ b ∨ b + 16 ≤ a) : ∀ c, Rng a c → ¬ Rng b c := fun c h1 h2 => by have := h1.1; have := h1.2; have := h2.1; have := h2.2; omega
theorem no16 {c n k : Nat} (hn : n ≤ 2) (hk : 16 ≤ k) (h : Rng k c) : ¬ c = n := by have := h.1; omega
theorem StepC.lt (h : StepC P col w col' w') {b : Nat} (hb : b < w.heap.size) : b < w'.heap.size := Nat.lt_of_lt_of_le hb h.size
/-- A cell that is not written. -/
theorem StepC.cell (hs : StepC P col w col' w') {a : Addr} {v : Value} (hc : w.cell? a = some v) (h0 : ¬ P (col a.block)) : w'.cell? a = some v := (World.cell?_of_block (w := w) (hs.block _ (World.block_lt_of_cell? w a hc) h0)).trans hc
theorem HasCol.step {v : Value} (h : HasCol col v c) (hs : StepC P col w col' w') (hl : ∀ q, v.ownBlock = some q → q < w.heap.size) : HasCol col' v c := fun q hq => (hs.kept q (hl q hq)).trans (h q hq)
theorem HasCol.dye (v : Value) (c : Nat) : HasCol (dye col v.ownBlock c) v c := fun q hq => by rw [hq]; exact dye_of
theorem HasCol.nil (col : Col) (c : Nat) : HasCol col (.slice none 0 0) c := fun q hq => by simp [Value.ownBlock] at hq
theorem HasCol.of {m d : Nat} (h : HasCol col (.slice (some ⟨g, 0, none⟩) m d) c) : col g = c := h g rfl
theorem Imm.step {A : Option Addr} (h : Imm col A n) (hs : StepC P col w col' w') (hl : 0 < n → ∀ b o sp, A = some ⟨b, o, sp⟩ → b < w.heap.size) : Imm col' A n := fun hn b o sp e => (hs.kept b (hl hn b o sp e)).trans (h hn b o sp e)

/-- An own row of a colour. -/
structure OwnKc {α : Type} (K : Kind α) (col : Col) (w : World) (c : Nat) (v : Value) (l : List α) : Prop where
  own : OwnK K w v l
  col : HasCol col v c
/-- A slice that reads as elements and never turns. -/
structure RdK0 {α : Type} (K : Kind α) (col : Col) (w : World) (A : Option Addr) (n c : Nat) (l : List α) : Prop where
  rd : RdG K w A n c l
  imm : Imm col A n
/-- A slice that reads as bytes and never turns. -/
structure Rd0 (col : Col) (w : World) (A : Option Addr) (n c : Nat) (l : List Int) : Prop where
  rd : Rd w A n c l
  imm : Imm col A n
/-- A slice that reads as bytes, in a block of a colour. -/
structure RdX (c0 : Nat) (col : Col) (w : World) (A : Option Addr) (n c : Nat) (l : List Int) : Prop where
  rd : Rd w A n c l
  imm : 0 < n → ∀ b o sp, A = some ⟨b, o, sp⟩ → col b = c0
/-- A block of cells of a colour. -/
structure BoxC (col : Col) (w : World) (g c : Nat) (cs : Array Value) (t : TypeId) : Prop where
  heap : w.heap[g]? = some (.cells cs t (0, 0))
  col : col g = c
theorem BoxC.lt {cs : Array Value} {t : TypeId} (h : BoxC col w g c cs t) : g < w.heap.size := (Array.getElem?_eq_some_iff.1 h.heap).1
theorem BoxC.keep {cs : Array Value} {t : TypeId} (h : BoxC col w g c cs t) (hs : StepC P col w col' w') (hp : ¬ P c) : BoxC col' w' g c cs t :=
  ⟨(hs.block g h.lt (by rw [h.col]; exact hp)).trans h.heap, (hs.kept g h.lt).trans h.col⟩
theorem BoxC.cell {cs : Array Value} {t : TypeId} (h : BoxC col w g c cs t) (i : Nat) {u : Value} (hu : cs[i]? = some u) : w.cell? ⟨g, i, none⟩ = some u := by rw [Lib.cell_of_heap h.heap]; exact hu
theorem BoxC.free {cs : Array Value} {t : TypeId} (h : BoxC col w g c cs t) (i : Nat) : w.frozen? ⟨g, i, none⟩ = false := by simp [World.frozen?, h.heap]
theorem BoxC.put {cs : Array Value} {t : TypeId} (h : BoxC col w g c cs t) (i : Nat) (u : Value) : BoxC col (w.setCell ⟨g, i, none⟩ u) g c (cs.setIfInBounds i u) t := by
  refine ⟨?_, h.col⟩
  have := h.heap
  simp [World.setCell, Array.getElem?_modify, this]
variable {α : Type} {K : Kind α} {v : Value} {l : List α} {A : Option Addr} {m d : Nat}
theorem OwnKc.keep (h : OwnKc K col w c v l) (hs : StepC P col w col' w') (hp : ¬ P c) : OwnKc K col' w' c v l :=
  ⟨h.own.far fun q hq => hs.block q (h.own.lt q hq) (by rw [h.col q hq]; exact hp), h.col.step hs h.own.lt⟩
theorem OwnKc.nil (K : Kind α) (col : Col) (w : World) (c : Nat) : OwnKc K col w c (.slice none 0 0) [] := ⟨OwnK.nil K w, HasCol.nil col c⟩
/-- Behind an append onto it, or as it is made. -/
theorem OwnKc.mk' (K : Kind α) (ho : OwnK K w v l) : OwnKc K (dye col v.ownBlock c) w c v l := ⟨ho, HasCol.dye v c⟩
theorem OwnKc.set (h : OwnKc K col w c (.slice (some ⟨g, 0, none⟩) n d) l) {j i : Nat} {a a' : α} {u : Value} (ha : l[j]? = some a) (hi : i < K.k) (he : K.enc a' = (K.enc a).set i u) :
    OwnKc K col (w.setCell ⟨g, j * K.k + i, none⟩ u) c (.slice (some ⟨g, 0, none⟩) n d) (l.set j a') := ⟨h.own.store ha hi he, h.col⟩
theorem RdK0.keep (h : RdK0 K col w A n d l) (hs : StepC P col w col' w') (hp : ¬ P 0) : RdK0 K col' w' A n d l := by
  have hl : 0 < n → ∀ b o sp, A = some ⟨b, o, sp⟩ → b < w.heap.size := fun hn b o sp e => by
    obtain ⟨b', o', a, e', _, _, hb, _⟩ := h.rd.at_ hn
    rw [e'] at e; injection e with e; injection e with e; omega
  refine ⟨⟨h.rd.1, h.rd.2.1, h.rd.2.2.1, fun j a ha => ?_⟩, h.imm.step hs hl⟩
  obtain ⟨b, o, hA, hc⟩ := h.rd.2.2.2 j a ha
  have hn : 0 < n := by
    have := (List.getElem?_eq_some_iff.1 ha).1
    have := h.rd.len
    omega
  exact ⟨b, o, hA, fun i u hu => (World.cell?_of_block (w := w) (hs.block b (hl hn b o none hA) (by rw [h.imm hn b o none hA]; exact hp))).trans (hc i u hu)⟩
theorem Rd0.keep {x : List Int} (h : Rd0 col w A n d x) (hs : StepC P col w col' w') (hp : ¬ P 0) : Rd0 col' w' A n d x := by
  have hl : 0 < n → ∀ b o sp, A = some ⟨b, o, sp⟩ → b < w.heap.size := fun hn b o sp e => by
    obtain ⟨b', o', a, e', _, _, _, hb, _⟩ := h.rd.at_ hn
    rw [e'] at e; injection e with e; injection e with e; omega
  refine ⟨⟨h.rd.1, h.rd.2.1, h.rd.2.2.1, h.rd.2.2.2.1, fun j z hz => ?_⟩, h.imm.step hs hl⟩
  obtain ⟨b, o, hA, hc⟩ := h.rd.2.2.2.2 j z hz
  have hn : 0 < n := by
    have := (List.getElem?_eq_some_iff.1 hz).1
    have := h.rd.len
    omega
  exact ⟨b, o, hA, (World.cell?_of_block (w := w) (hs.block b (hl hn b o none hA) (by rw [h.imm hn b o none hA]; exact hp))).trans hc⟩

theorem RdX.keep {c0 : Nat} {x : List Int} (h : RdX c0 col w A n d x) (hs : StepC P col w col' w') (hp : ¬ P c0) : RdX c0 col' w' A n d x := by
  have hl : 0 < n → ∀ b o sp, A = some ⟨b, o, sp⟩ → b < w.heap.size := fun hn b o sp e => by
    obtain ⟨b', o', a, e', _, _, _, hb, _⟩ := h.rd.at_ hn
    rw [e'] at e; injection e with e; injection e with e; omega
  refine ⟨⟨h.rd.1, h.rd.2.1, h.rd.2.2.1, h.rd.2.2.2.1, fun j z hz => ?_⟩, fun hn b o sp e => (hs.kept b (hl hn b o sp e)).trans (h.imm hn b o sp e)⟩
  obtain ⟨b, o, hA, hc⟩ := h.rd.2.2.2.2 j z hz
  have hn : 0 < n := by
    have := (List.getElem?_eq_some_iff.1 hz).1
    have := h.rd.len
    omega
  exact ⟨b, o, hA, (World.cell?_of_block (w := w) (hs.block b (hl hn b o none hA) (by rw [h.imm hn b o none hA]; exact hp))).trans hc⟩

theorem Rd0.x {x : List Int} (h : Rd0 col w A n d x) : RdX 0 col w A n d x := ⟨h.rd, h.imm⟩
/-- Bytes in new memory: nobody writes them again. -/
theorem Rd0.own {W : World} {x : List Int} (ht : Tidy col W) (h : Own w W.heap.size (.slice A n d) x) : Rd0 col w A n d x := ⟨h.reads, fun _ b o sp e => ht b (h.lt b (by rw [e]; rfl)).1⟩
/-- Since the call began in w0 nothing elder has turned. -/
structure Since (w0 : World) (col : Col) (w : World) : Prop where
  below : Below w0.heap.size w0 w
  elder : ∀ b, b < w0.heap.size → col b = 0
  tidy : Tidy col w
theorem Since.start (w : World) : Since w (fun _ => 0) w := ⟨Below.refl _ _, fun _ _ => rfl, fun _ _ => rfl⟩
theorem Since.step {w0 : World} (h : Since w0 col w) (hs : StepC P col w col' w') (hp : ¬ P 0) : Since w0 col' w' :=
  ⟨⟨hs.os.trans h.below.os, hs.tape.trans h.below.tape, hs.output.trans h.below.output, Nat.le_trans h.below.size hs.size, fun b hb => (hs.block b (Nat.lt_of_lt_of_le hb h.below.size) (by rw [h.elder b hb]; exact hp)).trans (h.below.block b hb)⟩,
    fun b hb => (hs.kept b (Nat.lt_of_lt_of_le hb h.below.size)).trans (h.elder b hb), hs.tidy⟩
end
/-- An element of four cells is written. -/
theorem OwnKc.put4 {α : Type} {K : Kind α} {col : Col} {w : World} {c x n m i : Nat} {l : List α} {a a' : α} {u0 u1 u2 u3 : Value} (h : OwnKc K col w c (.slice (some ⟨x, 0, none⟩) n m) l) (ht : Tidy col w) (hk : K.k = 4) (ha : l[i]? = some a)
    {p0 p1 p2 : α} (e0 : K.enc p0 = (K.enc a).set 0 u0) (e1 : K.enc p1 = (K.enc p0).set 1 u1) (e2 : K.enc p2 = (K.enc p1).set 2 u2) (e3 : K.enc a' = (K.enc p2).set 3 u3) :
    OwnKc K col ((((w.setCell ⟨x, i * 4, none⟩ u0).setCell ⟨x, i * 4 + 1, none⟩ u1).setCell ⟨x, i * 4 + 2, none⟩ u2).setCell ⟨x, i * 4 + 3, none⟩ u3) c (.slice (some ⟨x, 0, none⟩) n m) (l.set i a') ∧
      StepC (fun d => d = c) col w col ((((w.setCell ⟨x, i * 4, none⟩ u0).setCell ⟨x, i * 4 + 1, none⟩ u1).setCell ⟨x, i * 4 + 2, none⟩ u2).setCell ⟨x, i * 4 + 3, none⟩ u3) := by
  have hi := (List.getElem?_eq_some_iff.1 ha).1
  have hc := h.col.of
  have h0 := h.set (j := i) (i := 0) ha (by omega) e0
  have a0 : (l.set i p0)[i]? = some p0 := by rw [List.getElem?_set, if_pos rfl, if_pos hi]
  have h1 := h0.set (j := i) (i := 1) a0 (by omega) e1
  rw [List.set_set] at h1
  have a1 : (l.set i p1)[i]? = some p1 := by rw [List.getElem?_set, if_pos rfl, if_pos hi]
  have h2 := h1.set (j := i) (i := 2) a1 (by omega) e2
  rw [List.set_set] at h2
  have a2 : (l.set i p2)[i]? = some p2 := by rw [List.getElem?_set, if_pos rfl, if_pos hi]
  have h3 := h2.set (j := i) (i := 3) a2 (by omega) e3
  rw [List.set_set] at h3
  rw [hk] at h3
  have s0 := StepC.set (P := fun d => d = c) (a := ⟨x, i * 4, none⟩) ht hc u0
  have s1 := StepC.set (P := fun d => d = c) (a := ⟨x, i * 4 + 1, none⟩) s0.tidy hc u1
  have s2 := StepC.set (P := fun d => d = c) (a := ⟨x, i * 4 + 2, none⟩) s1.tidy hc u2
  have s3 := StepC.set (P := fun d => d = c) (a := ⟨x, i * 4 + 3, none⟩) s2.tidy hc u3
  exact ⟨h3, ((s0.trans s1).trans s2).trans s3⟩
end Go.Proofs.Ytbdafhephmoedaa
