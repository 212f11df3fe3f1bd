/- What the statements about package frame share: awake, and the events of a deck. Conditions: none beyond those typed. -/
import Derived.Test.YtoaijnpkenflbaaFdeck
import Derived.Test.YtoaijnpkenflbaaFbody
import Derived.Test.YtoaijnpkenflbaaFread2
import Derived.Test.YtoaijnpkenflbaaFsame
namespace Go.Proofs.Ytoaijnpkenflbaa
open Go.ChangeShapes Go.WideShapes Go.ChangeAt Go.RowKit
set_option linter.unusedVariables false
set_option linter.unusedSimpArgs false
set_option maxRecDepth 100000

/-- A literal slice of events. -/
theorem RawAt.lit (R : List RawE) (w : World) (hm : R.length ≤ maxLen) : RawAt (w.alloc (.cells (cellsE R).toArray 30)) (some ⟨w.heap.size, 0, none⟩) R.length R.length R := by
  refine ⟨rfl, Nat.le_refl _, hm, fun j r hr => ?_⟩
  obtain ⟨a, b, c⟩ := cellsE_at hr
  have hc : ∀ (i : Nat) (u : Value), (cellsE R)[i]? = some u → (w.alloc (.cells (cellsE R).toArray 30)).cell? ⟨w.heap.size, 0 + i, none⟩ = some u := fun i u hu => by
    rw [Nat.zero_add]
    exact (cell_of_row _ w.heap.size i (cellsE R).toArray 30 (0, 0) (heap_alloc_new w _)).trans (by simpa using hu)
  refine ⟨_, _, rfl, hc _ _ a, ?_, ?_⟩
  · have := hc _ _ b; rwa [← Nat.add_assoc] at this
  · have := hc _ _ c; rwa [← Nat.add_assoc] at this
def tgA : List Tg := [(⟨#[97]⟩, ⟨#[]⟩)]
def tgB : List Tg := [(⟨#[65]⟩, ⟨#[]⟩)]
def evs3 : List Ev := [(tgA, 1, 2), (tgB, 1, 2), (tgA, 1, 2)]
theorem sound3 : ∀ e ∈ evs3, Fit e := fun e he => by
  have h : e = (tgA, 1, 2) ∨ e = (tgB, 1, 2) := by
    rcases List.mem_cons.1 he with h | he
    · exact .inl h
    · rcases List.mem_cons.1 he with h | he
      · exact .inr h
      · rcases List.mem_cons.1 he with h | he
        · exact .inl h
        · simp at he
  rcases h with rfl | rfl
  · exact ⟨by decide, by decide, by decide, by decide⟩
  · exact ⟨by decide, by decide, by decide, by decide⟩
theorem ins3 : inpsB 255 (bdB evs3) = [(keyBy tgA, 1, 2, 0), badI, (keyBy tgA, 1, 2, 0)] := by
  rw [ins_each (by decide) (by decide) (sound_fit sound3)]
  have hk := keyBy_le tgA
  have h1 : inpE 255 (tgA, 1, 2) = (keyBy tgA, 1, 2, 0) := inp_ok (by decide +kernel) (by show ¬ (255 : Int) < (keyBy tgA).size; omega)
  have h2 : inpE 255 (tgB, 1, 2) = badI := by
    have hz : itE tgB 1 2 = 3 := by decide +kernel
    show inp 255 tgB 1 2 = badI
    rw [inp_bad (by rw [hz]; decide), hz]
    rfl
  simp [evs3, h1, h2]
set_option maxHeartbeats 1000000 in
theorem awake_any (w : World) : Calls Try.prog 15 #[] w (Yes w) := by
  go_enter Try.func15, Try.ntmps15
  go_wp2_with fail
  have hTA := RdT.one' (w := w) (h := w.heap.size) rfl (p := ⟨#[97]⟩) (q := ⟨#[]⟩) ⟨by decide, by decide⟩
  have hTB := RdT.one' (w := w.alloc (.cells #[.string ⟨#[97]⟩, .string ⟨#[]⟩] 33)) (h := w.heap.size + 1) (by simp) (p := ⟨#[65]⟩) (q := ⟨#[]⟩) ⟨by decide, by decide⟩
  have hA4 := ((hTA.alloc (.cells #[.string ⟨#[65]⟩, .string ⟨#[]⟩] 33)).alloc (.cells #[.slice (some ⟨w.heap.size, 0, none⟩) 1 1, .int .i64 1, .int .u64 2] 30)).alloc (.cells #[.slice (some ⟨w.heap.size + 1, 0, none⟩) 1 1, .int .i64 1, .int .u64 2] 30)
  have hB4 := (hTB.alloc (.cells #[.slice (some ⟨w.heap.size, 0, none⟩) 1 1, .int .i64 1, .int .u64 2] 30)).alloc (.cells #[.slice (some ⟨w.heap.size + 1, 0, none⟩) 1 1, .int .i64 1, .int .u64 2] 30)
  have hb4 : Below w.heap.size w ((((w.alloc (.cells #[.string ⟨#[97]⟩, .string ⟨#[]⟩] 33)).alloc (.cells #[.string ⟨#[65]⟩, .string ⟨#[]⟩] 33)).alloc (.cells #[.slice (some ⟨w.heap.size, 0, none⟩) 1 1, .int .i64 1, .int .u64 2] 30)).alloc (.cells #[.slice (some ⟨w.heap.size + 1, 0, none⟩) 1 1, .int .i64 1, .int .u64 2] 30)) :=
    ((((Below.refl _ w).alloc (by simp) _).alloc (by simp) _).alloc (by simp <;> omega) _).alloc (by simp <;> omega) _
  obtain ⟨W4, hW4⟩ : ∃ W4, W4 = (((w.alloc (.cells #[.string ⟨#[97]⟩, .string ⟨#[]⟩] 33)).alloc (.cells #[.string ⟨#[65]⟩, .string ⟨#[]⟩] 33)).alloc (.cells #[.slice (some ⟨w.heap.size, 0, none⟩) 1 1, .int .i64 1, .int .u64 2] 30)).alloc (.cells #[.slice (some ⟨w.heap.size + 1, 0, none⟩) 1 1, .int .i64 1, .int .u64 2] 30) := ⟨_, rfl⟩
  have hsz : w.heap.size + 1 + 1 + 1 + 1 = W4.heap.size := by rw [hW4]; simp
  rw [← hW4] at hA4 hB4 hb4 ⊢
  rw [hsz]
  have hR := RawAt.lit [(some ⟨w.heap.size, 0, none⟩, 1, 1, 1, 2), (some ⟨w.heap.size + 1, 0, none⟩, 1, 1, 1, 2), (some ⟨w.heap.size, 0, none⟩, 1, 1, 1, 2)] W4 (by simp [maxLen])
  have hA5 := hA4.alloc (.cells (cellsE [(some ⟨w.heap.size, 0, none⟩, 1, 1, 1, 2), (some ⟨w.heap.size + 1, 0, none⟩, 1, 1, 1, 2), (some ⟨w.heap.size, 0, none⟩, 1, 1, 1, 2)]).toArray 30)
  have hB5 := hB4.alloc (.cells (cellsE [(some ⟨w.heap.size, 0, none⟩, 1, 1, 1, 2), (some ⟨w.heap.size + 1, 0, none⟩, 1, 1, 1, 2), (some ⟨w.heap.size, 0, none⟩, 1, 1, 1, 2)]).toArray 30)
  have hb5 := hb4.alloc hb4.size (.cells (cellsE [(some ⟨w.heap.size, 0, none⟩, 1, 1, 1, 2), (some ⟨w.heap.size + 1, 0, none⟩, 1, 1, 1, 2), (some ⟨w.heap.size, 0, none⟩, 1, 1, 1, 2)]).toArray 30)
  have hE : RdE (W4.alloc (.cells (cellsE [(some ⟨w.heap.size, 0, none⟩, 1, 1, 1, 2), (some ⟨w.heap.size + 1, 0, none⟩, 1, 1, 1, 2), (some ⟨w.heap.size, 0, none⟩, 1, 1, 1, 2)]).toArray 30)) (some ⟨W4.heap.size, 0, none⟩) 3 3 evs3 := by
    refine ⟨_, hR, rfl, fun j r e hr he => ?_⟩
    match j, hr, he with
    | 0, hr, he => simp [evs3] at hr he; subst hr he; exact ⟨hA5, show 1 ≤ 1000 by decide, rfl, rfl⟩
    | 1, hr, he => simp [evs3] at hr he; subst hr he; exact ⟨hB5, show 1 ≤ 1000 by decide, rfl, rfl⟩
    | 2, hr, he => simp [evs3] at hr he; subst hr he; exact ⟨hA5, show 1 ≤ 1000 by decide, rfl, rfl⟩
    | j + 3, hr, he => simp [evs3] at he
  have hbE := bdE_fit sound3 (by decide) (by decide)
  have hbO := (bdO_ok hbE).1
  clear hW4 hTA hTB hA4 hB4 hb4 hR hA5 hB5
  refine (body_any _ _ _ evs3 _ hE (fun e he => (sound3 e he).2.2.2)).mono ?_
  rintro e w6 ⟨A6, n6, c6, rfl, hr6, hb6⟩
  rw [hbO] at hr6
  rw [hbE]
  have hb7 := below_then hb5 hb6
  clear hE hb5 hb6 hbE hbO
  go_wp2_with fail
  refine (read_frame_any _ _ _ _ 255 _ hr6 (by omega) (by omega)).mono ?_
  rw [ins3]
  rintro e w8 ⟨v8, rfl, hO8, hb8⟩
  have hb9 := below_then hb7 hb8
  obtain ⟨A8, c8, rfl, hr8⟩ := hO8.form (n := 3) rfl
  obtain ⟨b, o, rfl, x0, x1, x2, x3⟩ := hr8.2.2.2 0 _ rfl
  obtain ⟨b', o', h', y0, y1, y2, y3⟩ := hr8.2.2.2 1 _ rfl
  injection h' with h'
  injection h' with h1' h2'
  subst h1' h2'
  obtain ⟨b', o', h', z0, z1, z2, z3⟩ := hr8.2.2.2 2 _ rfl
  injection h' with h'
  injection h' with h1' h2'
  subst h1' h2'
  simp only [badI] at y0 y1 y2 y3
  have hQ := eqIn_cells (keyBy tgA) (keyBy tgA) 1 1 2 2 0 0
  rw [decide_eq_true rfl] at hQ
  have hcap := hr8.cap
  have hmx := hr8.max
  clear hO8 hb7 hb8 hr6 hr8
  generalize keyBy tgA = ks at *
  simp only [Nat.zero_mul, Nat.one_mul, Nat.add_zero, Nat.add_assoc, Nat.reduceMul, Nat.reduceAdd] at x0 x1 x2 x3 y0 y1 y2 y3 z0 z1 z2 z3
  have hbl := World.block_lt_of_cell? _ _ x0
  go_wp2
  go_quiet (fail)
  go_wp2
  go_ret
  exact ⟨rfl, below_drewN hb9 _⟩
end Go.Proofs.Ytoaijnpkenflbaa
