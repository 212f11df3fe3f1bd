/- Decks that make tags, weights and events: Deck.Tags, Small, Weight, Event. Conditions: none beyond those typed. -/
import Derived.Test.YtfihaonpifoekaaTlist
import Derived.Test.YtfihaonpifoekaaTwords
import Derived.Test.YtfihaonpifoekaaEenc
import Derived.Deep.RegionHeld3
namespace Go.Proofs.Ytfihaonpifoekaa
open Go.ChangeShapes Go.WideShapes Go.ChangeAt Go.RowKit
set_option linter.unusedVariables false
set_option linter.unusedSimpArgs false
set_option maxRecDepth 100000

/-- A deck in block g, whose numbers were there in world B; all since then has left alone what is older than B. -/
def Dk (B W : World) (g : Nat) (A : Option Addr) (n c : Nat) : Prop := RdI B A n c ∧ Below B.heap.size B W ∧ B.heap.size ≤ g ∧ ∃ a, DeckAt W g A n c a
section
variable {B W W' : World} {g n c : Nat} {A : Option Addr}
theorem Dk.new (h : RdI B A n c) : Dk B (B.alloc (.cells #[.slice A n c, .int .i64 0] 62)) B.heap.size A n c :=
  ⟨h, (Below.refl _ _).alloc (Nat.le_refl _) _, Nat.le_refl _, 0, heap_alloc_new B _, Nat.zero_le _⟩
theorem Dk.lt (h : Dk B W g A n c) : g < W.heap.size := by obtain ⟨_, _, _, a, hD⟩ := h; exact hD.lt
theorem Dk.ge (h : Dk B W g A n c) : B.heap.size ≤ g := h.2.2.1
theorem Dk.low (h : Dk B W g A n c) : Below B.heap.size B W := h.2.1
theorem Dk.step (h : Dk B W g A n c) (hD : ∃ a, DeckAt W' g A n c a) (hg : W.grownBy W' (some g)) : Dk B W' g A n c :=
  ⟨h.1, h.2.1.grown hg h.2.1.size (fun k hk => by injection hk with hk; have := h.2.2.1; omega), h.2.2.1, hD⟩
theorem Dk.far {row : Option Nat} (h : Dk B W g A n c) (hg : W.grownBy W' row) (hr : ∀ k, row = some k → g < k) : Dk B W' g A n c := by
  obtain ⟨h1, h2, h3, a, hD⟩ := h
  refine ⟨h1, h2.grown hg h2.size (fun k hk => by have := hr k hk; omega), h3, a, hD.far (hg.block g hD.lt ?_)⟩
  intro e
  have := hr g e.symm
  omega
theorem Dk.below (h : Dk B W g A n c) (hb : Below W.heap.size W W') : Dk B W' g A n c := by
  obtain ⟨h1, h2, h3, a, hD⟩ := h
  exact ⟨h1, h2.trans (hb.mono h2.size), h3, a, hD.below hb⟩
theorem Dk.alloc (h : Dk B W g A n c) (o : Obj) : Dk B (W.alloc o) g A n c := h.below ((Below.refl _ _).alloc (Nat.le_refl _) _)
theorem Dk.drewN (h : Dk B W g A n c) (k : Nat) : Dk B (W.drewN k) g A n c := ⟨h.1, below_drewN h.2.1 k, h.2.2.1, h.2.2.2⟩
end

/-- A number below k comes back, and the deck; nothing else has turned. -/
def NextDk (B : World) (g : Nat) (A : Option Addr) (n c : Nat) (k : Int) (W : World) (e : Ending) (W' : World) : Prop :=
  ∃ r : Nat, (r : Int) < k ∧ e = .returned (.int .i64 (r : Int)) ∧ Dk B W' g A n c ∧ W.grownBy W' (some g)
theorem next_dk {B W : World} {g n c : Nat} {A : Option Addr} (h : Dk B W g A n c) (k : Int) (h3 : 1 ≤ k) (h4 : k ≤ 4398046511104) :
    Calls Try.prog 19 #[.pointer (some ⟨g, 0, none⟩), .int .i64 k] W (NextDk B g A n c k W) := by
  obtain ⟨a, hD⟩ := h.2.2.2
  refine (next_any g A n c a k W hD (h.1.below h.2.1) ?_ h3 h4).mono ?_
  · intro j hj b o hA
    obtain ⟨b', o', z, hA', hc, _⟩ := h.1.2.2 j hj
    rw [hA] at hA'
    injection hA' with hA'
    injection hA' with e1 e2
    subst e1
    have := World.block_lt_of_cell? B ⟨b, _, none⟩ hc
    have := h.ge
    intro e
    simp at *
    omega
  · rintro e W' ⟨r, hr, he, hD', hg⟩
    exact ⟨r, hr, he, h.step hD' hg, hg⟩

/-- A weight comes back. -/
def WeightDk (B : World) (g : Nat) (A : Option Addr) (n c : Nat) (W : World) (e : Ending) (W' : World) : Prop :=
  ∃ x : Int, 0 ≤ x ∧ x ≤ 18446744073709551615 ∧ e = .returned (.int .u64 x) ∧ Dk B W' g A n c ∧ W.grownBy W' (some g)
theorem small_any {B W : World} {g n c : Nat} {A : Option Addr} (h : Dk B W g A n c) :
    Calls Try.prog 34 #[.pointer (some ⟨g, 0, none⟩)] W fun e W' => ∃ r : Nat, r < 20 ∧ e = .returned (.int .u64 (1 + (r : Int))) ∧ Dk B W' g A n c ∧ W.grownBy W' (some g) := by
  go_enter Try.func34, Try.ntmps34
  go_wp2_with fail
  refine (next_dk h 20 (by omega) (by omega)).mono ?_
  rintro e W' ⟨r, hr, rfl, hD, hg⟩
  go_wp2
  go_ret
  exact ⟨r, by omega, by go_num, hD, hg⟩
set_option maxHeartbeats 1000000 in
theorem weight_any {B W : World} {g n c : Nat} {A : Option Addr} (h : Dk B W g A n c) :
    Calls Try.prog 35 #[.pointer (some ⟨g, 0, none⟩)] W (WeightDk B g A n c W) := by
  go_enter Try.func35, Try.ntmps35
  go_wp2_with fail
  refine (next_dk h 12 (by omega) (by omega)).mono ?_
  rintro e W1 ⟨r, hr, rfl, hD, hg⟩
  by_cases h0 : r = 0
  · subst h0
    go_wp2_with fail
    refine (next_dk hD 1099511627776 (by omega) (by omega)).mono ?_
    rintro e W2 ⟨s, hs, rfl, hD2, hg2⟩
    go_wp2
    go_ret
    exact ⟨1 + (s : Int), by omega, by omega, by go_num, hD2, hg.trans hg2⟩
  by_cases h1 : r = 1
  · subst h1
    go_wp2_with fail
    refine (next_dk hD 1099511627776 (by omega) (by omega)).mono ?_
    rintro e W2 ⟨s, hs, rfl, hD2, hg2⟩
    go_wp2
    go_ret
    exact ⟨9223372036854775808 - (s : Int), by omega, by omega, by go_num, hD2, hg.trans hg2⟩
  by_cases h2 : r = 2
  · subst h2
    go_wp2_with fail
    refine (next_dk hD 7 (by omega) (by omega)).mono ?_
    rintro e W2 ⟨s, hs, rfl, hD2, hg2⟩
    go_wp2_with fail
    refine (next_dk hD2 61 (by omega) (by omega)).mono ?_
    rintro e W3 ⟨u, hu, rfl, hD3, hg3⟩
    go_wp2
    go_ret
    exact ⟨IntKind.u64.wrap _, wrap_u64_nonneg _, by rw [IntKind.wrap_u64]; omega, rfl, hD3, (hg.trans hg2).trans hg3⟩
  have d0 : ((r : Int) == 0) = false := beq_false_of_ne (by omega)
  have d1 : ((r : Int) == 1) = false := beq_false_of_ne (by omega)
  have d2 : ((r : Int) == 2) = false := beq_false_of_ne (by omega)
  go_wp2_with fail
  refine (next_dk hD 20 (by omega) (by omega)).mono ?_
  rintro e W2 ⟨s, hs, rfl, hD2, hg2⟩
  go_wp2
  go_ret
  exact ⟨1 + (s : Int), by omega, by omega, by go_num, hD2, hg.trans hg2⟩

theorem grown_on {a b c : World} {row row' : Option Nat} (h : a.grownBy b row) (k : b.grownBy c row') (hr : ∀ j, row' = some j → a.heap.size ≤ j) : a.grownBy c row :=
  ⟨k.os.trans h.os, k.tape.trans h.tape, k.output.trans h.output, Nat.le_trans h.size k.size, fun j hj hne => (k.block j (Nat.lt_of_lt_of_le hj h.size) (fun e => by have := hr j e.symm; omega)).trans (h.block j hj hne)⟩
theorem OwnT.grown {w w' : World} {base : Nat} {v : Value} {l : List Tg} {row : Option Nat} (h : OwnT w base v l) (hg : w.grownBy w' row) (hr : ∀ k, row = some k → k < base) : OwnT w' base v l := by
  refine ⟨h.1.kept (row := row) hg ?_, h.2⟩
  cases hv : v.ownBlock with
  | none => exact .inl rfl
  | some k => exact .inr fun e => by have := (h.lt k hv).1; have := hr k e.symm; omega
/-- Tags of a deck's own making. -/
def Fine (l : List Tg) : Prop := 1 ≤ l.length ∧ l.length ≤ 2 ∧ ∀ t ∈ l, vErr t = 0
def tK (r : Nat) : Tg := (⟨#[107]⟩, chr (97 + r))
def tAB : Tg := (⟨#[97, 46, 98]⟩, ⟨#[]⟩)
def tHost (r : Nat) : Tg := (⟨#[104, 111, 115, 116, 45]⟩ ++ chr (48 + r), ⟨#[48, 49, 50, 51, 52, 53, 54, 55, 56, 57]⟩)
theorem tK_ok (r : Nat) : vErr (tK r) = 0 := vErr_ok (by decide) (by decide) (Nat.le_trans (chr_size _) (by decide))
theorem tAB_ok : vErr tAB = 0 := by decide
theorem tHost_ok {r : Nat} (h : r < 3) : vErr (tHost r) = 0 := by
  match r, h with
  | 0, _ => decide
  | 1, _ => decide
  | 2, _ => decide
theorem fine_one (r : Nat) : Fine [tK r] := ⟨by simp, by simp, fun t ht => by simp at ht; subst ht; exact tK_ok r⟩
theorem fine_two {r : Nat} {t : Tg} (h : vErr t = 0) : Fine [tK r, t] := ⟨by simp, by simp, fun x hx => by
  simp at hx
  rcases hx with rfl | rfl
  · exact tK_ok r
  · exact h⟩
/-- What Deck.Tags gives back. -/
def TagsDk (B : World) (g : Nat) (A : Option Addr) (n c : Nat) (W : World) (e : Ending) (W' : World) : Prop :=
  ∃ v l, e = .returned v ∧ OwnT W' W.heap.size v l ∧ Fine l ∧ Dk B W' g A n c ∧ W.grownBy W' (some g)
theorem lit_tag (W : World) (t : Tg) (h : t.1.size ≤ 140737488355328 ∧ t.2.size ≤ 140737488355328) {base : Nat} (hb : base ≤ W.heap.size) :
    OwnT (W.alloc (.cells #[.string t.1, .string t.2] 73)) base (.slice (some ⟨W.heap.size, 0, none⟩) 1 1) [t] := by
  refine ⟨⟨rfl, .inr ⟨W.heap.size, 1, #[.string t.1, .string t.2], rfl, hb, heap_alloc_new W _, Nat.le_refl _, by simp [maxLen], rfl, rfl⟩⟩, fun x hx => ?_⟩
  simp at hx; subst hx; exact h

set_option maxHeartbeats 1000000 in
theorem tags_made {B W : World} {g n c : Nat} {A : Option Addr} (h : Dk B W g A n c) :
    Calls Try.prog 33 #[.pointer (some ⟨g, 0, none⟩)] W (TagsDk B g A n c W) := by
  have hgl := h.lt
  go_enter Try.func33, Try.ntmps33
  go_wp2_with fail
  refine (next_dk h 9 (by omega) (by omega)).mono ?_
  rintro e W1 ⟨r, hr, rfl, hD1, hg1⟩
  have hC1 := conv_one (W1.alloc (.cells #[.int .u8 ((97 + r : Nat) : Int)] 5)) W1.heap.size (97 + r) (by omega) (by rw [World.cell?_alloc_at _ _ _ _ (by simp)]; rfl)
  rw [show ((97 + r : Nat) : Int) = 97 + (r : Int) from by omega] at hC1
  have hw1 : IntKind.u8.wrap (97 + (r : Int)) = 97 + (r : Int) := by rw [IntKind.wrap_u8]; omega
  have hz1 := hg1.size
  have hO2 := lit_tag (W1.alloc (.cells #[.int .u8 (97 + (r : Int))] 5)) (tK r) ⟨by show (⟨#[107]⟩ : ByteArray).size ≤ _; decide, Nat.le_trans (chr_size _) (by decide)⟩ (base := W.heap.size) (by simp; omega)
  have hD2 := (hD1.alloc (.cells #[.int .u8 (97 + (r : Int))] 5)).alloc (.cells #[.string (tK r).1, .string (tK r).2] 73)
  have hg2 : W.grownBy ((W1.alloc (.cells #[.int .u8 (97 + (r : Int))] 5)).alloc (.cells #[.string (tK r).1, .string (tK r).2] 73)) (some g) := (hg1.trans (World.grownBy_alloc _ _ _)).trans (World.grownBy_alloc _ _ _)
  have hz2 := hg2.size
  go_wp2_with fail
  obtain ⟨W2, hW2⟩ : ∃ W2, W2 = (W1.alloc (.cells #[.int .u8 (97 + (r : Int))] 5)).alloc (.cells #[.string (tK r).1, .string (tK r).2] 73) := ⟨_, rfl⟩
  have hb2 : (W1.alloc (.cells #[.int .u8 (97 + (r : Int))] 5)).heap.size = W1.heap.size + 1 := by simp
  rw [← hW2] at hO2 hD2 hg2
  rw [hb2] at hO2
  have hW3 : W2 = (W1.alloc (.cells #[.int .u8 (97 + (r : Int))] 5)).alloc (.cells #[.string ⟨#[107]⟩, .string (chr (97 + r))] 73) := hW2
  rw [← hW3]
  rw [← hW2] at hz2
  clear hW2 hW3 hC1 hw1 hD1 hg1
  refine (next_dk hD2 8 (by omega) (by omega)).mono ?_
  rintro e W3 ⟨s, hs, rfl, hD3, hg3⟩
  have hO3 := hO2.grown hg3 (fun k hk => by injection hk with hk; omega)
  have hg4 := hg2.trans hg3
  have hz4 := hg4.size
  clear hO2 hD2 hg2 hg3
  by_cases h0 : s = 0
  · subst h0
    have hOa := hO3.alloc (.cells #[.string tAB.1, .string tAB.2] 73)
    have hRa := RdT.one' (w := W3) rfl (p := tAB.1) (q := tAB.2) ⟨by decide, by decide⟩
    go_wp2_with (at_builtin; refine wpList_appT rfl (.tmp 18) (.tmp 20) rfl W.heap.size _ _ rfl _ 1 1 [tAB] rfl hOa hRa ?_ ?_ ?_)
    · simp
    · simp; omega
    · intro v' w' hO' hg' _
      have hD' := (hD3.alloc (.cells #[.string tAB.1, .string tAB.2] 73)).far hg' (fun k hk => by have := (hOa.lt k hk).1; omega)
      have hG' := grown_on (hg4.trans (World.grownBy_alloc W3 (.cells #[.string tAB.1, .string tAB.2] 73) _)) hg' (fun k hk => (hOa.lt k hk).1)
      go_wp2
      go_ret
      exact ⟨_, _, rfl, hO', fine_two tAB_ok, hD', hG'⟩
  by_cases h1 : s = 1
  · subst h1
    go_wp2_with fail
    refine (next_dk hD3 3 (by omega) (by omega)).mono ?_
    rintro e W4 ⟨u, hu, rfl, hD4, hg5⟩
    have hO4 := hO3.grown hg5 (fun k hk => by injection hk with hk; omega)
    have hg6 := hg4.trans hg5
    have hz6 := hg6.size
    clear hO3 hD3 hg4 hg5 hz4
    have hC1 := conv_one (W4.alloc (.cells #[.int .u8 ((48 + u : Nat) : Int)] 5)) W4.heap.size (48 + u) (by omega) (by rw [World.cell?_alloc_at _ _ _ _ (by simp)]; rfl)
    rw [show ((48 + u : Nat) : Int) = 48 + (u : Int) from by omega] at hC1
    have hw1 : IntKind.u8.wrap (48 + (u : Int)) = 48 + (u : Int) := by rw [IntKind.wrap_u8]; omega
    have hOa := (hO4.alloc (.cells #[.int .u8 (48 + (u : Int))] 5)).alloc (.cells #[.string (tHost u).1, .string (tHost u).2] 73)
    have hsz : (tHost u).1.size ≤ 140737488355328 ∧ (tHost u).2.size ≤ 140737488355328 := by
      have := vErr_size (tHost_ok (r := u) (by omega))
      omega
    have hRa := RdT.one' (w := W4.alloc (.cells #[.int .u8 (48 + (u : Int))] 5)) rfl (p := (tHost u).1) (q := (tHost u).2) hsz
    rw [show (W4.alloc (.cells #[.int .u8 (48 + (u : Int))] 5)).heap.size = W4.heap.size + 1 from by simp] at hRa
    have hok := tHost_ok (r := u) (by omega)
    have hcs := chr_size (48 + u)
    go_wp2_with (at_builtin; refine wpList_appT rfl (.tmp 24) (.tmp 33) rfl W.heap.size _ _ rfl _ 1 1 [tHost u] rfl hOa hRa ?_ ?_ ?_)
    · simp
    · simp; omega
    · intro v' w' hO' hg' _
      have hD' := ((hD4.alloc (.cells #[.int .u8 (48 + (u : Int))] 5)).alloc (.cells #[.string (tHost u).1, .string (tHost u).2] 73)).far hg' (fun k hk => by have := (hOa.lt k hk).1; omega)
      have hG' := grown_on ((hg6.trans (World.grownBy_alloc W4 (.cells #[.int .u8 (48 + (u : Int))] 5) _)).trans (World.grownBy_alloc _ (.cells #[.string (tHost u).1, .string (tHost u).2] 73) _)) hg' (fun k hk => (hOa.lt k hk).1)
      go_wp2
      go_ret
      exact ⟨_, _, rfl, hO', fine_two hok, hD', hG'⟩
  have d0 : ((s : Int) == 0) = false := beq_false_of_ne (by omega)
  have d1 : ((s : Int) == 1) = false := beq_false_of_ne (by omega)
  go_wp2
  go_ret
  exact ⟨_, _, rfl, hO3, fine_one r, hD3, hg4⟩
end Go.Proofs.Ytfihaonpifoekaa
