/- Deck.Event: an event of a deck's making. Conditions: none beyond those typed. -/
import Derived.Test.YtfihaonpifoekaaEdeck
import Derived.Deep.RegionHeld3
import Derived.Deep.RegionLaw
namespace Go.Proofs.Ytfihaonpifoekaa
open Go.ChangeShapes Go.WideShapes Go.ChangeAt Go.RowKit
set_option linter.unusedVariables false
set_option linter.unusedSimpArgs false
set_option maxRecDepth 100000

theorem OwnT.drew {w : World} {base : Nat} {v : Value} {l : List Tg} (h : OwnT w base v l) : OwnT w.drew base v l := h
theorem RdT.drew {w : World} {A : Option Addr} {n c : Nat} {l : List Tg} (h : RdT w A n c l) : RdT w.drew A n c l := h
/-- At most one kind of error among the tags, and no long text. -/
def OneErr (l : List Tg) : Prop := (∃ z, ∀ t ∈ l, vErr t = 0 ∨ vErr t = z) ∧ ∀ t ∈ l, t.1.size ≤ 32 ∧ t.2.size ≤ 70
theorem Fine.one {l : List Tg} (h : Fine l) : OneErr l := ⟨⟨0, fun t ht => .inl (h.2.2 t ht)⟩, fun t ht => by have := vErr_size (h.2.2 t ht); omega⟩
/-- What Deck.Event gives back. -/
def EventDk (B : World) (g : Nat) (A : Option Addr) (n c : Nat) (t : Int) (W : World) (e : Ending) (W' : World) : Prop :=
  ∃ A' n' c' l x, e = .returned (.agg #[.slice A' n' c', .int .i64 t, .int .u64 x]) ∧ RdT W' A' n' c' l ∧ n' ≤ 3 ∧ OneErr l ∧ (0 ≤ x ∧ x ≤ 18446744073709551615) ∧ Dk B W' g A n c ∧ W.grownBy W' (some g)

/-- The same, and the tags lie in memory that was not there. -/
def EventDkF (B : World) (g : Nat) (A : Option Addr) (n c : Nat) (t : Int) (W : World) (e : Ending) (W' : World) : Prop :=
  ∃ A' n' c' l x, e = .returned (.agg #[.slice A' n' c', .int .i64 t, .int .u64 x]) ∧ RdT W' A' n' c' l ∧ n' ≤ 3 ∧ OneErr l ∧ (0 ≤ x ∧ x ≤ 18446744073709551615) ∧ Dk B W' g A n c ∧ W.grownBy W' (some g) ∧ ∀ b o, A' = some ⟨b, o, none⟩ → W.heap.size ≤ b
theorem EventDkF.out {B : World} {g : Nat} {A : Option Addr} {n c : Nat} {t : Int} {W W' : World} {e : Ending} (h : EventDkF B g A n c t W e W') : EventDk B g A n c t W e W' := by
  obtain ⟨A', n', c', l, x, h1, h2, h3, h4, h5, h6, h7, _⟩ := h
  exact ⟨A', n', c', l, x, h1, h2, h3, h4, h5, h6, h7⟩

theorem grow_in {w0 w : World} {row : Option Nat} {g : Nat} (h : w0.grownBy w row) (hg : row = some g ∨ w0.heap.size ≤ g) (i : Nat) (v : Value) : w0.grownBy (w.setCell ⟨g, i, none⟩ v) row := by
  refine ⟨h.os, h.tape, h.output, by simpa [World.setCell] using h.size, fun k hk hne => ?_⟩
  have hkg : g ≠ k := by
    rintro rfl
    rcases hg with h | h
    · exact hne h.symm
    · omega
  have := h.block k hk hne
  rw [← this]
  simp [World.setCell, Array.getElem?_modify, hkg]
theorem EBox.put3 {w : World} {g : Nat} {A : Option Addr} {n c : Nat} {t x : Int} (h : EBox w g A n c t x) (A' : Option Addr) (n' c' : Nat) (t' x' : Int) :
    EBox (((w.setCell ⟨g, 0, none⟩ (.slice A' n' c')).setCell ⟨g, 1, none⟩ (.int .i64 t')).setCell ⟨g, 2, none⟩ (.int .u64 x')) g A' n' c' t' x' := by
  have h' : w.heap[g]? = _ := h
  unfold EBox
  simp [World.setCell, Array.getElem?_modify, h']
theorem EBox.put0 {w : World} {g : Nat} {A : Option Addr} {n c : Nat} {t x : Int} (h : EBox w g A n c t x) (A' : Option Addr) (n' c' : Nat) :
    EBox (w.setCell ⟨g, 0, none⟩ (.slice A' n' c')) g A' n' c' t x := by
  have h' : w.heap[g]? = _ := h
  unfold EBox
  simp [World.setCell, Array.getElem?_modify, h']
theorem EBox.put2 {w : World} {g : Nat} {A : Option Addr} {n c : Nat} {t x : Int} (h : EBox w g A n c t x) (x' : Int) :
    EBox (w.setCell ⟨g, 2, none⟩ (.int .u64 x')) g A n c t x' := by
  have h' : w.heap[g]? = _ := h
  unfold EBox
  simp [World.setCell, Array.getElem?_modify, h']
theorem grow_put3 {w0 w : World} {row : Option Nat} {g : Nat} (h : w0.grownBy w row) (hg : row = some g ∨ w0.heap.size ≤ g) (v0 v1 v2 : Value) :
    w0.grownBy (((w.setCell ⟨g, 0, none⟩ v0).setCell ⟨g, 1, none⟩ v1).setCell ⟨g, 2, none⟩ v2) row :=
  grow_in (grow_in (grow_in h hg 0 v0) hg 1 v1) hg 2 v2
/-- What stands while Deck.Event changes its event, which lies in block k. -/
def EvS (B W : World) (g k : Nat) (A : Option Addr) (n c : Nat) (t : Int) (A5 : Option Addr) (n5 c5 : Nat) (x5 : Int) (l5 : List Tg) (W5 : World) : Prop :=
  EBox W5 k A5 n5 c5 t x5 ∧ EBox W5 W.heap.size none 0 0 0 0 ∧ RdT W5 A5 n5 c5 l5 ∧ (∀ b o, A5 = some ⟨b, o, none⟩ → W.heap.size < b ∧ b ≠ k) ∧ Dk B W5 g A n c ∧ W.grownBy W5 (some g) ∧ g < W.heap.size ∧ W.heap.size < k
section
variable {B W W5 W6 : World} {g k n c n5 c5 : Nat} {A A5 : Option Addr} {t x5 : Int} {l5 : List Tg}
theorem EvS.box (h : EvS B W g k A n c t A5 n5 c5 x5 l5 W5) : EBox W5 k A5 n5 c5 t x5 := h.1
theorem EvS.out (h : EvS B W g k A n c t A5 n5 c5 x5 l5 W5) : EBox W5 W.heap.size none 0 0 0 0 := h.2.1
theorem EvS.dk (h : EvS B W g k A n c t A5 n5 c5 x5 l5 W5) : Dk B W5 g A n c := h.2.2.2.2.1
theorem EvS.next (h : EvS B W g k A n c t A5 n5 c5 x5 l5 W5) (hD : Dk B W6 g A n c) (hg : W5.grownBy W6 (some g)) : EvS B W g k A n c t A5 n5 c5 x5 l5 W6 := by
  obtain ⟨h1, h2, h3, h4, h5, h6, h7, h8⟩ := h
  exact ⟨h1.far (hg.block _ h1.lt (by intro e; injection e; omega)), h2.far (hg.block _ h2.lt (by intro e; injection e; omega)), h3.grown hg (fun b o e => by have := (h4 b o e).1; intro e'; injection e'; omega), h4, hD, h6.trans hg, h7, h8⟩
theorem EvS.other {j : Nat} {l6 : List Tg} (h : EvS B W g k A n c t A5 n5 c5 x5 l5 W5) (hg : W5.grownBy W6 (some j)) (hj : W.heap.size < j) (hk : j ≠ k) (hr : RdT W6 A5 n5 c5 l6) : EvS B W g k A n c t A5 n5 c5 x5 l6 W6 := by
  obtain ⟨h1, h2, h3, h4, h5, h6, h7, h8⟩ := h
  exact ⟨h1.far (hg.block _ h1.lt (by intro e; injection e; omega)), h2.far (hg.block _ h2.lt (by intro e; injection e; omega)), hr, h4, h5.far hg (fun k hk => by injection hk; omega), grown_on h6 hg (fun k hk => by injection hk; omega), h7, h8⟩
theorem EvS.put2 (h : EvS B W g k A n c t A5 n5 c5 x5 l5 W5) (x6 : Int) : EvS B W g k A n c t A5 n5 c5 x6 l5 (W5.setCell ⟨k, 2, none⟩ (.int .u64 x6)) := by
  obtain ⟨h1, h2, h3, h4, h5, h6, h7, h8⟩ := h
  have hg := grow_in (World.grownBy.refl W5 (some k)) (.inl rfl) 2 (.int .u64 x6)
  exact ⟨h1.put2 x6, h2.far (hg.block _ h2.lt (by intro e; injection e; omega)), h3.grown hg (fun b o e => by have := (h4 b o e).2; intro e'; injection e'; omega), h4, h5.far hg (fun k hk => by injection hk; omega), grow_in h6 (.inr (by omega)) _ _, h7, h8⟩
theorem EvS.put0 {A6 : Option Addr} {n6 c6 : Nat} {l6 : List Tg} (h : EvS B W g k A n c t A5 n5 c5 x5 l5 W5) (hr : RdT W5 A6 n6 c6 l6) (hA : ∀ b o, A6 = some ⟨b, o, none⟩ → W.heap.size < b ∧ b ≠ k) :
    EvS B W g k A n c t A6 n6 c6 x5 l6 (W5.setCell ⟨k, 0, none⟩ (.slice A6 n6 c6)) := by
  obtain ⟨h1, h2, h3, h4, h5, h6, h7, h8⟩ := h
  have hg := grow_in (World.grownBy.refl W5 (some k)) (.inl rfl) 0 (.slice A6 n6 c6)
  exact ⟨h1.put0 _ _ _, h2.far (hg.block _ h2.lt (by intro e; injection e; omega)), hr.grown hg (fun b o e => by have := (hA b o e).2; intro e'; injection e'; omega), hA, h5.far hg (fun k hk => by injection hk; omega), grow_in h6 (.inr (by omega)) _ _, h7, h8⟩
theorem EvS.app {j : Nat} {A6 : Option Addr} {n6 c6 : Nat} {l6 : List Tg} (h : EvS B W g k A n c t A5 n5 c5 x5 l5 W5) (hg : W5.grownBy W6 (some j)) (hj : W.heap.size < j) (hk : j ≠ k) (hr : RdT W6 A6 n6 c6 l6) (hA : ∀ b o, A6 = some ⟨b, o, none⟩ → W.heap.size < b ∧ b ≠ k) :
    EBox W6 k A5 n5 c5 t x5 ∧ EvS B W g k A n c t A6 n6 c6 x5 l6 (W6.setCell ⟨k, 0, none⟩ (.slice A6 n6 c6)) := by
  obtain ⟨h1, h2, h3, h4, h5, h6, h7, h8⟩ := h
  have e1 := h1.far (hg.block _ h1.lt (by intro e; injection e; omega))
  have e2 := h2.far (hg.block _ h2.lt (by intro e; injection e; omega))
  have e5 := h5.far hg (fun k hk => by injection hk; omega)
  have e6 := grown_on h6 hg (fun k hk => by injection hk; omega)
  have hg' := grow_in (World.grownBy.refl W6 (some k)) (.inl rfl) 0 (.slice A6 n6 c6)
  exact ⟨e1, e1.put0 _ _ _, e2.far (hg'.block _ e2.lt (by intro e; injection e; omega)), hr.grown hg' (fun b o e => by have := (hA b o e).2; intro e'; injection e'; omega), hA, e5.far hg' (fun k hk => by injection hk; omega), grow_in e6 (.inr (by omega)) _ _, h7, h8⟩
theorem OwnT.place {w w' : World} {base g n c : Nat} {A : Option Addr} {v v' : Value} {l : List Tg} {B k : Nat} (h : OwnT w' base v' l) (hv : v' = .slice A n c) (hb : v'.ownBlock = v.ownBlock ∨ v'.ownBlock = some w.heap.size) (hg : v.ownBlock = some g) (hgB : B < g) (hgk : g ≠ k) (hB : B < w.heap.size) (hk : k < w.heap.size)
    (hf : ∀ b o, A = some ⟨b, o, none⟩ → o = 0 ∧ base ≤ b) : ∀ b o, A = some ⟨b, o, none⟩ → B < b ∧ b ≠ k := by
  rintro b o rfl
  obtain ⟨rfl, _⟩ := hf b o rfl
  subst hv
  have e : (Value.slice (some ⟨b, 0, none⟩) n c).ownBlock = some b := rfl
  rw [e, hg] at hb
  rcases hb with h | h <;> injection h with h <;> omega
theorem EvS.fin (h : EvS B W g k A n c t A5 n5 c5 x5 l5 W5) (hn : n5 ≤ 3) (h1 : OneErr l5) (hx : 0 ≤ x5 ∧ x5 ≤ 18446744073709551615) (v0 v1 v2 : Value) :
    EventDkF B g A n c t W (.returned (.agg #[.slice A5 n5 c5, .int .i64 t, .int .u64 x5])) (((W5.setCell ⟨W.heap.size, 0, none⟩ v0).setCell ⟨W.heap.size, 1, none⟩ v1).setCell ⟨W.heap.size, 2, none⟩ v2) := by
  obtain ⟨_, _, hr, hA, hD, hG, hgl, _⟩ := h
  have h5 := grow_put3 (World.grownBy.refl W5 (some W.heap.size)) (.inl rfl) v0 v1 v2
  exact ⟨A5, n5, c5, l5, x5, rfl, hr.grown h5 (fun b o e => by have := (hA b o e).1; intro e'; injection e'; omega), hn, h1, hx, hD.far h5 (fun k hk => by injection hk with hk; omega), grow_put3 hG (.inr (Nat.le_refl _)) v0 v1 v2, fun b o e => by have := (hA b o e).1; omega⟩
end
theorem cell_alloc (w : World) (o : Obj) {g i : Nat} (h : g < w.heap.size) : (w.alloc o).drew.cell? ⟨g, i, none⟩ = w.cell? ⟨g, i, none⟩ :=
  ((Below.refl w.heap.size w).alloc (Nat.le_refl _) o).cell (p := ⟨g, i, none⟩) h
theorem one_dup {l : List Tg} {t : Tg} (h : Fine l) (ht : t ∈ l) : OneErr (l ++ [t]) := by
  refine ⟨⟨0, fun x hx => .inl ?_⟩, fun x hx => ?_⟩ <;>
  · have hx' : x ∈ l := by
      rcases List.mem_append.1 hx with h | h
      · exact h
      · simp at h; subst h; exact ht
    have := h.2.2 x hx'
    have := vErr_size this
    first | assumption | omega
theorem one_set {l : List Tg} {t : Tg} (h : Fine l) (hs : t.1.size ≤ 32 ∧ t.2.size ≤ 70) : OneErr (l.set 0 t) := by
  refine ⟨⟨vErr t, fun x hx => ?_⟩, fun x hx => ?_⟩
  · rcases List.mem_or_eq_of_mem_set hx with h' | rfl
    · exact .inl (h.2.2 x h')
    · exact .inr rfl
  · rcases List.mem_or_eq_of_mem_set hx with h' | rfl
    · have := vErr_size (h.2.2 x h'); omega
    · exact hs
abbrev long70 : ByteArray := ⟨#[48, 49, 50, 51, 52, 53, 54, 55, 56, 57, 48, 49, 50, 51, 52, 53, 54, 55, 56, 57, 48, 49, 50, 51, 52, 53, 54, 55, 56, 57, 48, 49, 50, 51, 52, 53, 54, 55, 56, 57, 48, 49, 50, 51, 52, 53, 54, 55, 56, 57, 48, 49, 50, 51, 52, 53, 54, 55, 56, 57, 48, 49, 50, 51, 52, 53, 54, 55, 56, 57]⟩
theorem one_nil : OneErr [] := ⟨⟨0, fun x hx => by simp at hx⟩, fun x hx => by simp at hx⟩

set_option maxHeartbeats 1000000 in
theorem devent_own {B W : World} {g n c : Nat} {A : Option Addr} (t : Int) (h : Dk B W g A n c) :
    Calls Try.prog 29 #[.pointer (some ⟨g, 0, none⟩), .int .i64 t] W (EventDkF B g A n c t W) := by
  have hgl := h.lt
  have hE0 := EBox.new W none 0 0 0 0
  have hD0 := h.alloc (.cells #[.slice none 0 0, .int .i64 0, .int .u64 0] 66)
  have hg0 : W.grownBy (W.alloc (.cells #[.slice none 0 0, .int .i64 0, .int .u64 0] 66)) (some g) := World.grownBy_alloc _ _ _
  go_enter Try.func29, Try.ntmps29
  go_wp2_with fail
  refine (tags_made hD0).mono ?_
  rintro e W1 ⟨v, l, rfl, hO1, hF, hD1, hg1⟩
  rw [show (W.alloc (.cells #[.slice none 0 0, .int .i64 0, .int .u64 0] 66)).heap.size = W.heap.size + 1 from by simp] at hO1
  have hE1 := hE0.far (hg1.block _ hE0.lt (by intro e; injection e; omega))
  have hG1 := hg0.trans hg1
  go_wp2_with fail
  refine (small_any hD1).mono ?_
  rintro e W2 ⟨r, hr, rfl, hD2, hg2⟩
  have hO2 := hO1.grown hg2 (fun k hk => by injection hk; omega)
  have hE2 := hE1.far (hg2.block _ hE1.lt (by intro e; injection e; omega))
  have hG2 := hG1.trans hg2
  obtain ⟨A2, c2, rfl, hr2, hf2⟩ := hO2.formN rfl
  clear hE0 hD0 hg0 hO1 hE1 hG1 hg1 hg2 hD1
  have hD3 := hD2.alloc (.cells #[.slice A2 l.length c2, .int .i64 t, .int .u64 (1 + (r : Int))] 66)
  have hE3 := hE2.below ((Below.refl _ _).alloc (Nat.le_refl _) (.cells #[.slice A2 l.length c2, .int .i64 t, .int .u64 (1 + (r : Int))] 66))
  have hX3 := EBox.new W2 A2 l.length c2 t (1 + (r : Int))
  have hO3 := hO2.alloc (.cells #[.slice A2 l.length c2, .int .i64 t, .int .u64 (1 + (r : Int))] 66)
  have hG3 := hG2.trans (World.grownBy_alloc W2 (.cells #[.slice A2 l.length c2, .int .i64 t, .int .u64 (1 + (r : Int))] 66) _)
  have hgt := World.block_lt_of_cell? _ ⟨_, 0, none⟩ hE2.c0
  have hlt2 := hO2.lt
  have hl2 := hD2.lt
  go_wp2_with fail
  obtain ⟨k, hk⟩ : ∃ k, k = W2.heap.size := ⟨_, rfl⟩
  rw [← hk] at hX3 hlt2 hl2 hgt ⊢
  generalize W2.alloc (.cells #[.slice A2 l.length c2, .int .i64 t, .int .u64 (1 + (r : Int))] 66) = W3 at *
  clear hk hD2 hO2 hE2 hG2
  refine (next_dk hD3 24 (by omega) (by omega)).mono ?_
  rintro e W4 ⟨s, hs, rfl, hD4, hg4⟩
  have hO4 := hO3.grown hg4 (fun k hk => by injection hk; omega)
  have hE4 := hE3.far (hg4.block _ hE3.lt (by intro e; injection e; omega))
  have hX4 := hX3.far (hg4.block _ hX3.lt (by intro e; injection e; omega))
  have hG4 := hG3.trans hg4
  clear hO3 hE3 hX3 hG3 hg4 hD3
  obtain ⟨A4, c4, he4, hr4, hf4⟩ := hO4.formN rfl
  injection he4 with e41 e42 e43
  subst e41 e43
  have hS4 : EvS B W g k A n c t A2 l.length c2 (1 + (r : Int)) l W4 := ⟨hX4, hE4, hr4, fun b o e => by
    have h1 := (hf4 b o e).2
    have h2 := hlt2 b (by rw [e]; obtain ⟨rfl, _⟩ := hf4 b o e; rfl)
    omega, hD4, hG4, hgl, hgt⟩
  have hn4 : l.length ≤ 2 := hF.2.1
  have hn5 : 1 ≤ l.length := hF.1
  have HF := Lib.hid hF
  have HO := Lib.hid hO4
  have HX : ∀ W5 : World, W5 = W4 → W5 = W4 := fun _ h => h
  clear hX4 hE4 hG4 hr4 hf4 hr2 hf2 hF hO4 HX
  have x0 := hS4.box.c0
  have x1 := hS4.box.c1
  have x2 := hS4.box.c2
  have y0 := hS4.box.frozen 0
  have y2 := hS4.box.frozen 2
  have e0 := hS4.out.c0
  have e1 := hS4.out.c1
  have e2 := hS4.out.c2
  have f0 := hS4.out.frozen 0
  have f1 := hS4.out.frozen 1
  have f2 := hS4.out.frozen 2
  by_cases h6 : 6 < s
  · have d0 : ((s : Int) == 0) = false := beq_false_of_ne (by omega)
    have d1 : ((s : Int) == 1) = false := beq_false_of_ne (by omega)
    have d2 : ((s : Int) == 2) = false := beq_false_of_ne (by omega)
    have d3 : ((s : Int) == 3) = false := beq_false_of_ne (by omega)
    have d4 : ((s : Int) == 4) = false := beq_false_of_ne (by omega)
    have d5 : ((s : Int) == 5) = false := beq_false_of_ne (by omega)
    have d6 : ((s : Int) == 6) = false := beq_false_of_ne (by omega)
    go_wp2
    refine bodyPost_ret (results_cell_row rfl _ _ W.heap.size _ _ (0, 0) _ rfl (hS4.out.put3 _ _ _ _ _) Try.underlying66 rfl (by kernel_rfl)) rfl ?_
    exact hS4.fin (by omega) HF.out.one ⟨by omega, by omega⟩ _ _ _
  by_cases s0 : s = 0
  · subst s0
    clear x0 x1 x2 y0 y2 e0 e1 e2 f0 f1 f2
    go_wp2_with fail
    refine (weight_any hD4).mono ?_
    rintro e W5 ⟨x5, hx5, hx6, rfl, hD5, hg5⟩
    have hS5 := hS4.next hD5 hg5
    have hS6 := hS5.put2 x5
    have y2 := hS5.box.frozen 2
    have x2' := hS5.box.c2
    have x0 := hS6.box.c0
    have x1 := hS6.box.c1
    have x2 := hS6.box.c2
    have e0 := hS6.out.c0
    have e1 := hS6.out.c1
    have e2 := hS6.out.c2
    have f0 := hS6.out.frozen 0
    have f1 := hS6.out.frozen 1
    have f2 := hS6.out.frozen 2
    go_wp2
    refine bodyPost_ret (results_cell_row rfl _ _ W.heap.size _ _ (0, 0) _ rfl (hS6.out.put3 _ _ _ _ _) Try.underlying66 rfl (by kernel_rfl)) rfl ?_
    exact hS6.fin (by omega) HF.out.one ⟨by omega, by omega⟩ _ _ _
  by_cases s3 : s = 3
  · subst s3
    clear e0 e1 e2 f0 f1 f2 x0 x1
    have hS6 := hS4.put2 0
    have x0 := hS6.box.c0
    have x1 := hS6.box.c1
    have x2' := hS6.box.c2
    have e0 := hS6.out.c0
    have e1 := hS6.out.c1
    have e2 := hS6.out.c2
    have f0 := hS6.out.frozen 0
    have f1 := hS6.out.frozen 1
    have f2 := hS6.out.frozen 2
    go_wp2
    refine bodyPost_ret (results_cell_row rfl _ _ W.heap.size _ _ (0, 0) _ rfl (hS6.out.put3 _ _ _ _ _) Try.underlying66 rfl (by kernel_rfl)) rfl ?_
    exact hS6.fin (by omega) HF.out.one ⟨by omega, by omega⟩ _ _ _
  by_cases s4 : s = 4
  · subst s4
    clear e0 e1 e2 f0 f1 f2 x1 x2
    have hS6 := hS4.put0 (RdT.none_ W4) (fun b o e => by cases e)
    have x0' := hS6.box.c0
    have x1 := hS6.box.c1
    have x2 := hS6.box.c2
    have e0 := hS6.out.c0
    have e1 := hS6.out.c1
    have e2 := hS6.out.c2
    have f0 := hS6.out.frozen 0
    have f1 := hS6.out.frozen 1
    have f2 := hS6.out.frozen 2
    go_wp2
    refine bodyPost_ret (results_cell_row rfl _ _ W.heap.size _ _ (0, 0) _ rfl (hS6.out.put3 _ _ _ _ _) Try.underlying66 rfl (by kernel_rfl)) rfl ?_
    exact hS6.fin (by omega) one_nil ⟨by omega, by omega⟩ _ _ _
  by_cases s6 : s = 6
  · subst s6
    clear x0 x1 x2 y0 y2 e0 e1 e2 f0 f1 f2
    go_wp2_with fail
    refine (next_dk hD4 2 (by omega) (by omega)).mono ?_
    rintro e W5 ⟨u, hu, rfl, hD5, hg5⟩
    have hS5 := hS4.next hD5 hg5
    have hS6 := hS5.put2 (9223372036854775808 + (u : Int))
    have y2 := hS5.box.frozen 2
    have x2' := hS5.box.c2
    have x0 := hS6.box.c0
    have x1 := hS6.box.c1
    have x2 := hS6.box.c2
    have e0 := hS6.out.c0
    have e1 := hS6.out.c1
    have e2 := hS6.out.c2
    have f0 := hS6.out.frozen 0
    have f1 := hS6.out.frozen 1
    have f2 := hS6.out.frozen 2
    go_wp2
    refine bodyPost_ret (results_cell_row rfl _ _ W.heap.size _ _ (0, 0) _ rfl (hS6.out.put3 _ _ _ _ _) Try.underlying66 rfl (by kernel_rfl)) rfl ?_
    exact hS6.fin (by omega) HF.out.one ⟨by omega, by omega⟩ _ _ _
  obtain ⟨gt, hgt1, hgt2, hgt3, hRow⟩ : ∃ gt, A2 = some ⟨gt, 0, none⟩ ∧ W.heap.size < gt ∧ gt ≠ k ∧ Row W4 gt c2 l := by
    obtain ⟨A6, c6, he6, _, hh⟩ := HO.out.form
    injection he6 with e1 e2 e3
    subst e1 e3
    rcases hh with ⟨_, h⟩ | ⟨gt, hA, hb, hr⟩
    · subst h; simp at hn5
    · have := hS4.2.2.2.1 gt 0 hA
      exact ⟨gt, hA, this.1, this.2, hr⟩
  subst hgt1
  obtain ⟨b, o, p, q, he, hg, hp, hq, hbl, h1, h2⟩ := hS4.2.2.1.at_ (k := 0) (by omega)
  injection he with he
  injection he with he1 he2
  subst he1 he2
  have h1 : W4.cell? ⟨gt, 0, none⟩ = some (.string p) := h1
  have h2 : W4.cell? ⟨gt, 1, none⟩ = some (.string q) := h2
  have z0 := hRow.frozen 0
  have z1 := hRow.frozen 1
  have hpq := vErr_size (HF.out.2.2 _ (List.mem_of_getElem? hg))
  have hpp : p.size ≤ 32 := hpq.1
  have hqq : q.size ≤ 64 := hpq.2
  have HG := Lib.hid hg
  have HR := Lib.hid hRow
  clear hg hRow hpq
  by_cases s2 : s = 2
  · subst s2
    clear e0 e1 e2 f0 f1 f2 x1 x2 h2 z1
    have R1 : Row (W4.setCell ⟨gt, 0, none⟩ (.string ⟨#[75]⟩)) gt c2 (l.set 0 (⟨#[75]⟩, q)) := HR.out.put0 HG.out (by decide)
    have hR1 := R1.rd
    rw [List.length_set] at hR1
    have hS6 := hS4.other (grow_in (World.grownBy.refl W4 (some gt)) (.inl rfl) 0 (.string ⟨#[75]⟩)) hgt2 hgt3 hR1
    clear R1 hR1
    have x0' := x0
    have x0 := hS6.box.c0
    have x1 := hS6.box.c1
    have x2 := hS6.box.c2
    have e0 := hS6.out.c0
    have e1 := hS6.out.c1
    have e2 := hS6.out.c2
    have f0 := hS6.out.frozen 0
    have f1 := hS6.out.frozen 1
    have f2 := hS6.out.frozen 2
    go_wp2
    refine bodyPost_ret (results_cell_row rfl _ _ W.heap.size _ _ (0, 0) _ rfl (hS6.out.put3 _ _ _ _ _) Try.underlying66 rfl (by kernel_rfl)) rfl ?_
    exact hS6.fin (by omega) (one_set HF.out ⟨by show (⟨#[75]⟩ : ByteArray).size ≤ 32; decide, by show q.size ≤ 70; omega⟩) ⟨by omega, by omega⟩ _ _ _
  by_cases s5 : s = 5
  · subst s5
    clear e0 e1 e2 f0 f1 f2 x1 x2 h1 z0
    have R1 : Row (W4.setCell ⟨gt, 1, none⟩ (.string long70)) gt c2 (l.set 0 (p, long70)) := HR.out.put1 HG.out (by decide)
    have hR1 := R1.rd
    rw [List.length_set] at hR1
    have hS6 := hS4.other (grow_in (World.grownBy.refl W4 (some gt)) (.inl rfl) 1 (.string long70)) hgt2 hgt3 hR1
    clear R1 hR1
    have x0' := x0
    have x0 := hS6.box.c0
    have x1 := hS6.box.c1
    have x2 := hS6.box.c2
    have e0 := hS6.out.c0
    have e1 := hS6.out.c1
    have e2 := hS6.out.c2
    have f0 := hS6.out.frozen 0
    have f1 := hS6.out.frozen 1
    have f2 := hS6.out.frozen 2
    go_wp2
    refine bodyPost_ret (results_cell_row rfl _ _ W.heap.size _ _ (0, 0) _ rfl (hS6.out.put3 _ _ _ _ _) Try.underlying66 rfl (by kernel_rfl)) rfl ?_
    exact hS6.fin (by omega) (one_set HF.out ⟨by show p.size ≤ 32; omega, by show long70.size ≤ 70; decide⟩) ⟨by omega, by omega⟩ _ _ _
  obtain rfl : s = 1 := by omega
  clear e0 e1 e2 f0 f1 f2 x1 x2 hlt2
  have hOl := HO.out.lt
  have hbase : W.heap.size + 1 ≤ W4.heap.size := by have := hS4.box.lt; omega
  have hsz : p.size ≤ 140737488355328 ∧ q.size ≤ 140737488355328 := ⟨hp, hq⟩
  have hgk := hS4.box.lt
  have HM := Lib.hid (one_dup HF.out (List.mem_of_getElem? HG.out))
  have hal : l.length + 1 ≤ 1000000 := by omega
  have hOa := (HO.out.alloc (.cells #[.string p, .string q] 73)).drew
  have hRa := (RdT.one' (w := W4) rfl hsz).drew
  have hba : W.heap.size + 1 ≤ (W4.alloc (.cells #[.string p, .string q] 73)).drew.heap.size := by simp; omega
  obtain ⟨nl, hnl⟩ : ∃ nl, nl = l.length := ⟨_, rfl⟩
  have HNL := Lib.hid hnl
  rw [← hnl] at hS4 HO hOa x0 hn4 hn5 hOl ⊢
  have i3 : 0 < nl := by omega
  have i4 : (0 : Int) < (nl : Int) := by omega
  clear hnl
  go_wp2_with fail
  have hg1 : W4.grownBy (W4.alloc (.cells #[.string p, .string q] 73)).drew (some gt) := grow_drewN (World.grownBy_alloc W4 _ _) 1
  have hsz4 : (W4.alloc (.cells #[.string p, .string q] 73)).drew.heap.size = W4.heap.size + 1 := by simp
  have hB5 : W.heap.size < (W4.alloc (.cells #[.string p, .string q] 73)).drew.heap.size := by omega
  have hk5 : k < (W4.alloc (.cells #[.string p, .string q] 73)).drew.heap.size := by omega
  have hln : (l ++ [(p, q)]).length = nl + 1 := by rw [List.length_append, HNL.out]; rfl
  go_region_law (refine step_appT rfl (.tmp 22) (.tmp 27) rfl (W.heap.size + 1) _ l rfl _ 1 1 [(p, q)] rfl hOa hRa hal hba ?_; intro v' w' hO' hg' hv'; obtain ⟨A6, c6, e6, hr6, hf6⟩ := hO'.formN hln; have hA6 := hO'.place (k := k) e6 hv' rfl hgt2 hgt3 hB5 hk5 hf6; subst e6; have hX6 := hS4.app (hg1.trans hg') hgt2 hgt3 hr6 hA6; have x6 := hX6.1.c0; have y6 := hX6.1.frozen 0)
  all_goals
    obtain ⟨_, hS6⟩ := hX6
    clear x6 y6 x0 y0 hO' hg' hv' hr6 hf6 hA6 h1 h2 z0 z1
    have x0 := hS6.box.c0
    have x1 := hS6.box.c1
    have x2 := hS6.box.c2
    have e0 := hS6.out.c0
    have e1 := hS6.out.c1
    have e2 := hS6.out.c2
    have f0 := hS6.out.frozen 0
    have f1 := hS6.out.frozen 1
    have f2 := hS6.out.frozen 2
    go_wp2
    refine bodyPost_ret (results_cell_row rfl _ _ W.heap.size _ _ (0, 0) _ rfl (hS6.out.put3 _ _ _ _ _) Try.underlying66 rfl (by kernel_rfl)) rfl ?_
    exact hS6.fin (by omega) HM.out ⟨by omega, by omega⟩ _ _ _
theorem devent_any {B W : World} {g n c : Nat} {A : Option Addr} (t : Int) (h : Dk B W g A n c) :
    Calls Try.prog 29 #[.pointer (some ⟨g, 0, none⟩), .int .i64 t] W (EventDk B g A n c t W) := (devent_own t h).mono fun _ _ => EventDkF.out
end Go.Proofs.Ytfihaonpifoekaa
