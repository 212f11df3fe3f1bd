/- Deck.Word and Deck.Table: words of a hash function of a deck's making. Conditions: none beyond those typed. -/
import Derived.Test.YtcckfdhajbbieaaUrow
import Derived.Test.YtcckfdhajbbieaaEdeck
namespace Go.Proofs.Ytcckfdhajbbieaa
open Go.ChangeShapes Go.WideShapes Go.ChangeAt Go.RowKit
set_option linter.unusedVariables false
set_option linter.unusedSimpArgs false
set_option maxRecDepth 100000

/-- A word comes back, and the deck; nothing else has turned. -/
def WordDk (B : World) (g : Nat) (A : Option Addr) (n c : Nat) (W : World) (e : Ending) (W' : World) : Prop :=
  ∃ x : Int, (0 ≤ x ∧ x ≤ 18446744073709551615) ∧ e = .returned (.int .u64 x) ∧ Dk B W' g A n c ∧ W.grownBy W' (some g)
set_option maxHeartbeats 400000 in
theorem word_dk {B W : World} {g n c : Nat} {A : Option Addr} (h : Dk B W g A n c) : Calls Try.prog 25 #[.pointer (some ⟨g, 0, none⟩)] W (WordDk B g A n c W) := by
  go_enter Try.func25, Try.ntmps25
  go_wp2_with fail
  refine (next_dk h 4294967296 (by omega) (by omega)).mono ?_
  rintro e W1 ⟨r1, hr1, rfl, h1, g1⟩
  go_wp2_with fail
  refine (next_dk h1 4294967296 (by omega) (by omega)).mono ?_
  rintro e W2 ⟨r2, hr2, rfl, h2, g2⟩
  go_wp2
  go_ret
  exact ⟨_, bits_within .xor .u64 _ _, rfl, h2, g1.trans g2⟩

/-- v is a row of numbers of 64 bits of the call's own (blocks from base on), which holds l. -/
def OwnU (w : World) (base : Nat) (v : Value) (l : List Int) : Prop :=
  w.ownsRow base 34 1 v l.length (l.map (Value.int .u64)) ∧ (∀ z ∈ l, 0 ≤ z ∧ z ≤ 18446744073709551615)
theorem info_u64 : (Try.prog.info? 34).map (fun i => (i.zero, i.size, i.bytes)) = some (some (.int .u64 0), 1, 8) := by kernel_rfl
section
variable {w w' : World} {base g n c : Nat} {v : Value} {l : List Int}
theorem OwnU.grown {row : Option Nat} (h : OwnU w base v l) (hg : w.grownBy w' row) (hr : v.ownBlock = none ∨ v.ownBlock ≠ row) : OwnU w' base v l := ⟨World.ownsRow.kept h.1 (row := row) hg hr, h.2⟩
theorem OwnU.len {A : Option Addr} (h : OwnU w base (.slice A n c) l) : l.length = n := by
  rcases h.1.2 with ⟨h, hn⟩ | ⟨g, cap, cur, h, _⟩
  · injection h with _ h2 _; omega
  · injection h with _ h2 _; omega
theorem OwnU.reads (h : OwnU w base (.slice (some ⟨g, 0, none⟩) n c) l) : RdU w (some ⟨g, 0, none⟩) n c l := by
  obtain rfl := h.len
  obtain ⟨hown, hb⟩ := h
  rcases hown.2 with ⟨h', hn⟩ | ⟨g', cap, cur, h', hbg, hg, hnc, hcm, hcs, htake⟩
  · cases h'
  · injection h' with h1 h2 h3
    injection h1 with h1
    injection h1 with h1
    subst h1 h3
    refine ⟨rfl, hnc, hcm, hb, fun j z hz => ⟨g, 0, rfl, ?_⟩⟩
    have hc := hown.cells (g := g) rfl j (.int .u64 z) (by rw [List.getElem?_map, hz]; rfl)
    rw [Addr.add_lit] at hc
    exact hc
theorem OwnU.free (h : OwnU w base (.slice (some ⟨g, 0, none⟩) n c) l) (k : Nat) : w.frozen? ⟨g, k, none⟩ = false := by
  obtain rfl := h.len
  exact h.1.frozenAt k
theorem OwnU.store (h : OwnU w base (.slice (some ⟨g, 0, none⟩) n c) l) (k : Nat) {z : Int} (hz : 0 ≤ z ∧ z ≤ 18446744073709551615) : OwnU (w.setCell ⟨g, k, none⟩ (.int .u64 z)) base (.slice (some ⟨g, 0, none⟩) n c) (l.set k z) := by
  obtain rfl := h.len
  refine ⟨?_, fun y hy => ?_⟩
  · rw [List.length_set, List.map_set]
    exact (h.1.stored k _).1
  · rcases List.mem_or_eq_of_mem_set hy with h' | rfl
    · exact h.2 y h'
    · exact hz
theorem OwnU.low (h : OwnU w base v l) {q : Nat} (hq : q < base) : v.ownBlock = none ∨ v.ownBlock ≠ some q := .inr fun e => by have := World.ownsRow.lt h.1 q e; omega
theorem OwnU.made (h : w.ownsRow base 34 1 (.slice (some ⟨g, 0, none⟩) n n) n (madeCells (Value.int .u64 0).cells n).toList) : OwnU w base (.slice (some ⟨g, 0, none⟩) n n) (List.replicate n 0) := by
  refine ⟨?_, fun z hz => by have := (List.mem_replicate.1 hz).2; omega⟩
  rw [List.length_replicate, List.map_replicate]
  rw [show (Value.int .u64 0).cells = #[Value.int .u64 0] from rfl, toList_madeCells_one] at h
  exact h
end
/-- A table comes back, and the deck; nothing else has turned. -/
def TableDk (B : World) (g : Nat) (A : Option Addr) (n c : Nat) (W : World) (e : Ending) (W' : World) : Prop :=
  ∃ (k c' : Nat) (t : List Int), e = .returned (.slice (some ⟨k, 0, none⟩) 16 c') ∧ RdU W' (some ⟨k, 0, none⟩) 16 c' t ∧ W.heap.size ≤ k ∧ Dk B W' g A n c ∧ W.grownBy W' (some g)
theorem _root_.Go.World.grownBy.mono {w w' : World} {row : Option Nat} (h : w.grownBy w' none) : w.grownBy w' row := ⟨h.os, h.tape, h.output, h.size, fun k hk _ => h.block k hk (by simp)⟩
set_option maxHeartbeats 1000000 in
theorem table_dk {B W : World} {g n c : Nat} {A : Option Addr} (h : Dk B W g A n c) : Calls Try.prog 11 #[.pointer (some ⟨g, 0, none⟩)] W (TableDk B g A n c W) := by
  obtain ⟨i0, hi0, hz0, hz1, hz2⟩ := info_parts info_u64
  have hby : i0.bytes * 16 ≤ 281474976710656 := by rw [hz2]; omega
  have hmx : 16 ≤ maxLen := by simp only [maxLen]; omega
  have HZ2 := Lib.hid hz2
  have hgl := h.lt
  clear hz2
  go_enter Try.func11, Try.ntmps11
  go_wp2_with (at_make; refine wpList_make_full _ rfl _ _ 22 rfl W.heap.size 34 i0 _ 1 Try.underlying22 hi0 hz0 hz1 _ _ _ _ 16 rfl rfl rfl rfl hby hmx (Nat.le_refl _) ?_)
  intro W1 hown hgrow
  have hown' : OwnU W1 W.heap.size (.slice (some ⟨W.heap.size, 0, none⟩) 16 16) (List.replicate 16 0) := OwnU.made hown
  have D1 : Dk B W1 g A n c := h.far hgrow (fun k e => by cases e)
  clear hown hi0 hz0 hz1 hby hmx HZ2
  go_wp2_with fail
  refine (next_dk D1 4 (by omega) (by omega)).mono ?_
  rintro e W2 ⟨r, hr, rfl, D2, g2⟩
  have O2 := hown'.grown g2 (hown'.low hgl)
  have G2 : W.grownBy W2 (some g) := (World.grownBy.mono hgrow).trans g2
  generalize List.replicate 16 (0 : Int) = z16 at *
  clear hown' D1 g2 hgrow
  by_cases hr1 : r = 1
  · subst hr1
    go_wp2
    go_loopw [12] (fun i W' => ∃ (k : Nat) (t : List Int), k ≤ 16 ∧ i = .int .i64 k ∧ OwnU W' W.heap.size (.slice (some ⟨W.heap.size, 0, none⟩) 16 16) t ∧ Dk B W' g A n c ∧ W.grownBy W' (some g)) (fun i _ => 16 - (intOf i).toNat)
    case atStart => exact ⟨0, _, Nat.zero_le _, rfl, O2, D2, G2⟩
    case round =>
      clear O2 D2 G2
      obtain ⟨k, t, hk, rfl, O, D, G⟩ := hrel
      by_cases hlt : k < 16
      · have hki : (k : Int) < 16 := by omega
        go_wp2
        go_roundw
        case rel => exact ⟨k + 1, t, by omega, by go_num, O, D, G⟩
        case measure => (simp [intOf] <;> omega)
      · have hki : ¬ (k : Int) < 16 := by omega
        go_wp2
        go_ret
        exact ⟨_, _, t, rfl, O.reads, Nat.le_refl _, D, G⟩
  · have hv : ((r : Int) == 1) = false := beq_false_of_ne (by omega)
    go_wp2
    go_loopw [12] (fun i W' => ∃ (k : Nat) (t : List Int), k ≤ 16 ∧ i = .int .i64 k ∧ OwnU W' W.heap.size (.slice (some ⟨W.heap.size, 0, none⟩) 16 16) t ∧ Dk B W' g A n c ∧ W.grownBy W' (some g)) (fun i _ => 16 - (intOf i).toNat)
    case atStart => exact ⟨0, _, Nat.zero_le _, rfl, O2, D2, G2⟩
    case round =>
      clear O2 D2 G2
      obtain ⟨k, t, hk, rfl, O, D, G⟩ := hrel
      by_cases hlt : k < 16
      · have hki : (k : Int) < 16 := by omega
        go_wp2_with fail
        refine (word_dk D).mono ?_
        rintro e W3 ⟨x, hx, rfl, D3, G3⟩
        have O3 := O.grown G3 (O.low hgl)
        have hl3 := O3.len
        obtain ⟨b, o, z, e1, _, _, _, hbl, hc3⟩ := O3.reads.at_ (k := k) hlt
        injection e1 with e1; injection e1 with e11 e12; subst e11 e12
        rw [Nat.zero_add] at hc3
        have hf3 := O3.free k
        have O4 := O3.store k hx
        have D4 : Dk B (W3.setCell ⟨W.heap.size, k, none⟩ (.int .u64 x)) g A n c := D3.far (row := some W.heap.size) ⟨rfl, rfl, rfl, by simp [World.setCell], fun q _ hq => Below.heap_setCell _ _ _ _ (fun e => hq (by rw [e]))⟩ (fun q e => by injection e with e; omega)
        have G5 := G.trans G3
        have G4 : W.grownBy (W3.setCell ⟨W.heap.size, k, none⟩ (.int .u64 x)) (some g) := ⟨G5.os, G5.tape, G5.output, by have := G5.size; simpa [World.setCell] using this, fun q hq hr => (Below.heap_setCell _ _ _ _ (by show q ≠ W.heap.size; omega)).trans (G5.block q hq hr)⟩
        go_wp2
        go_roundw
        case rel => exact ⟨k + 1, _, by omega, by go_num, O4, D4, G4⟩
        case measure => (simp [intOf] <;> omega)
      · have hki : ¬ (k : Int) < 16 := by omega
        go_wp2
        go_ret
        exact ⟨_, _, t, rfl, O.reads, Nat.le_refl _, D, G⟩
end Go.Proofs.Ytcckfdhajbbieaa
