/- Package stream: the parts of Feed. Conditions: none beyond those typed. -/
import Derived.Test.YtfihaonpifoekaaSrow
import Derived.Test.YtfihaonpifoekaaVread
import Derived.Test.YtfihaonpifoekaaEapp
import Derived.Deep.RegionLaw
import Derived.Lib.BufferMore
namespace Go.Proofs.Ytfihaonpifoekaa
open Go.ChangeShapes Go.WideShapes Go.ChangeAt Go.RowKit
set_option linter.unusedVariables false
set_option linter.unusedSimpArgs false
set_option maxRecDepth 100000

theorem Rd.someB {w : World} {A : Option Addr} {n c : Nat} {l : List Int} (h : Rd w A n c l) (hn : 0 < n) : ∃ b o, A = some ⟨b, o, none⟩ := by
  obtain ⟨b, o, _, hA, _⟩ := h.at_ hn
  exact ⟨b, o, hA⟩
theorem Rd.dropAt {w : World} {b o n c : Nat} {l : List Int} (h : Rd w (some ⟨b, o, none⟩) n c l) {k : Nat} (hk : k ≤ n) : Rd w (some ⟨b, o + k, none⟩) (n - k) (c - k) (l.drop k) := by
  refine ⟨by rw [List.length_drop, h.1], by have := h.2.1; omega, by have := h.2.2.1; omega, fun z hz => h.bytes z (List.mem_of_mem_drop hz), fun j z hz => ?_⟩
  rw [List.getElem?_drop] at hz
  obtain ⟨b', o', hA, hc⟩ := h.2.2.2.2 _ z hz
  injection hA with hA
  injection hA with e1 e2
  subst e1 e2
  exact ⟨b, o + k, rfl, by rw [Nat.add_assoc]; exact hc⟩
theorem Rd.dropEnd {w : World} {b o n c : Nat} {l : List Int} (h : Rd w (some ⟨b, o, none⟩) n c l) {k : Nat} (hk : k ≤ n) (hc : c = k) (A : Option Addr) : Rd w A (n - k) 0 (l.drop k) := by
  have hcap := h.cap
  have hl := h.len
  rw [List.drop_eq_nil_of_le (by omega), show n - k = 0 by omega]
  exact Rd.nil _ _ _ (by simp [maxLen])
/-- b[k:], as the model slices. -/
theorem Rd.dropB {w : World} {b o n c : Nat} {l : List Int} (h : Rd w (some ⟨b, o, none⟩) n c l) {k : Nat} (hk : k ≤ n) : Rd w (if c = k then some ⟨b, o, none⟩ else some ⟨b, o + k, none⟩) (n - k) (c - k) (l.drop k) := by
  by_cases hc : c = k
  · rw [if_pos hc, show c - k = 0 by omega]
    exact h.dropEnd hk hc _
  · rw [if_neg hc]
    exact h.dropAt hk
/-- A row of bytes of the call's own comes back. -/
def OwnOut (l : List Int) (w : World) (e : Ending) (w' : World) : Prop := ∃ v, e = .returned v ∧ Own w' w.heap.size v l ∧ Below w.heap.size w w'
set_option maxHeartbeats 400000 in
theorem cloneB_any (A : Option Addr) (n c : Nat) (l : List Int) (w : World) (h : Rd w A n c l) (hn : n ≤ 140737488350000) :
    Calls Try.prog 22 #[.slice A n c] w (OwnOut l w) := by
  cases A with
  | none =>
    have hl : l = [] := by
      cases l with
      | nil => rfl
      | cons z r =>
        obtain ⟨b, o, h', _⟩ := h.2.2.2.2 0 z (by simp)
        cases h'
    subst hl
    have hn0 := h.len
    simp at hn0
    subst hn0
    have hnil : ∀ W, (binOp .eql 25 (.slice none 0 c) (.slice none 0 0)).run Try.prog W = .ok (.bool true) W := fun W => Lib.run_eql_slice_nil_nil W 0 c Try.underlying25
    go_enter Try.func22, Try.ntmps22
    go_wp2
    go_ret
    exact ⟨_, rfl, Own.nil _ _, Below.refl _ _⟩
  | some ad =>
    have hnil : ∀ W, (binOp .eql 25 (.slice (some ad) n c) (.slice none 0 0)).run Try.prog W = .ok (.bool false) W := fun W => Lib.run_eql_slice_some_nil W _ _ _ Try.underlying25
    have hown0 := Own.empty w
    have hr1 := h.alloc (.cells #[] 5)
    have hb1 : Below w.heap.size w (w.alloc (.cells #[] 5)) := (Below.refl _ _).alloc (Nat.le_refl _) _
    go_enter Try.func22, Try.ntmps22
    go_wp2_with (at_builtin; refine wpList_app rfl (.tmp 5) (.tmp 6) rfl w.heap.size _ [] rfl (some ad) n c l rfl hown0 hr1 (by simp only [List.length_nil]; omega) hb1.size ?_; intro v' w' hO' hg' _; rw [List.nil_append] at hO'; have hb2 := Below.app hb1 hown0 hg' hb1.size (Nat.le_refl _))
    go_ret
    exact ⟨_, rfl, hO', hb2⟩

theorem heap_second (w : World) (o o' : Obj) : ((w.alloc o).alloc o').drew.heap[w.heap.size + 1]? = some o' := by
  have h := heap_alloc_new (w.alloc o) o'
  rw [show (w.alloc o).heap.size = w.heap.size + 1 from by simp] at h
  exact h
/-- The stream and what is left of the piece. -/
def PartOut (A : Option Addr) (n c : Nat) (k : Int) (br : Bool) (P : Option Addr) (m d j : Nat) (w : World) (e : Ending) (w' : World) : Prop :=
  ∃ P' m' d', e = .returned (.tuple #[.agg #[.slice A n c, .int .u64 k, .bool br], .slice P' m' d']) ∧ (∀ W r, Rd W P m d r → Rd W P' m' d' (r.drop j)) ∧ Below w.heap.size w w'
set_option maxHeartbeats 1000000 in
theorem skip_any (A : Option Addr) (n c : Nat) (k : Int) (br : Bool) (P : Option Addr) (m d : Nat) (r : List Int) (w : World) (hR : Rd w P m d r) (hm : 1 ≤ m) (hk0 : 1 ≤ k) (hk1 : k ≤ 18446744073709551615) :
    Calls Try.prog 23 #[.agg #[.slice A n c, .int .u64 k, .bool br], .slice P m d] w fun e w' => ∃ j : Nat, 1 ≤ j ∧ j ≤ m ∧ (j : Int) ≤ k ∧ PartOut A n c (k - j) br P m d j w e w' := by
  obtain ⟨b, o, rfl⟩ := hR.someB (by omega)
  have hcap := hR.cap
  have hmx := hR.max
  obtain ⟨j, hj⟩ : ∃ j : Nat, min k (m : Int) = j := ⟨(min k (m : Int)).toNat, by omega⟩
  have hj1 : 1 ≤ j := by omega
  have hjm : j ≤ m := by omega
  have hjk : (j : Int) ≤ k := by omega
  have hjmi : (j : Int) ≤ (m : Int) := by omega
  have hjd : (j : Int) ≤ (d : Int) := by omega
  have HA := Lib.hid (fun (h : d = j) (W : World) (q : List Int) (hR : Rd W (some ⟨b, o, none⟩) m d q) => hR.dropEnd hjm h (some ⟨b, o, none⟩))
  have HB := Lib.hid (fun (W : World) (q : List Int) (hR : Rd W (some ⟨b, o, none⟩) m d q) => hR.dropAt hjm)
  have HJ := Lib.hid hj1
  clear hj1 hm
  go_enter Try.func23, Try.ntmps23
  go_wp2
  go_region
  go_wp2
  all_goals
    have hb2 : Below w.heap.size w ((w.alloc (.cells #[.slice A n c, .int .u64 (k - j), .bool br] 29)).alloc (.cells #[.slice A n c, .int .u64 (k - j), .bool br] 29)).drew :=
      (((Below.refl _ _).alloc (Nat.le_refl _) _).alloc (by simp) _).drew
    refine bodyPost_ret (results_cell_row2 rfl _ _ (w.heap.size + 1) 29 #[.slice A n c, .int .u64 (k - j), .bool br] (0, 0) _ rfl (heap_second w _ _) Try.underlying29 rfl (by kernel_rfl)) rfl ?_
    exact ⟨j, HJ.out, hjm, hjk, _, _, _, rfl, by first | exact HB.out | ((have e : d = j := by assumption); subst e; exact fun W q hR => HA.out rfl W q hR), hb2⟩

set_option maxHeartbeats 1000000 in
theorem lacking_any (A : Option Addr) (n c : Nat) (l : List Int) (w : World) (h : Rd w A n c l) (hn : n ≤ 1000000) :
    Calls Try.prog 30 #[.slice A n c] w fun e w' => e = .returned (.int .i64 (lackN l)) ∧ w = w' := by
  have hl := Lib.hid h.len
  have ht := rd_top h.bytes
  by_cases he : rdE l = 0
  · have hK := rd_used h.bytes he
    rw [hl.out] at hK
    by_cases h4 : 4096 < rdN l
    · have HL := Lib.hid (show lackN l = 1 from if_pos (.inr h4))
      go_enter Try.func30, Try.ntmps30
      go_wp2_with fail
      refine (read_any _ _ _ _ _ h).mono ?_
      rintro e w' ⟨rfl, rfl⟩
      rw [he]
      go_wp2
      go_ret
      exact ⟨ret_i64 HL.out.symm, rfl⟩
    · have HL := Lib.hid (show lackN l = max 1 (rdK l + rdN l - n) by unfold lackN; rw [if_neg (by rintro (h | h); exact h he; exact h4 h), hl.out])
      go_enter Try.func30, Try.ntmps30
      go_wp2_with fail
      refine (read_any _ _ _ _ _ h).mono ?_
      rintro e w' ⟨rfl, rfl⟩
      rw [he]
      go_wp2
      go_ret
      exact ⟨ret_i64 HL.out.symm, rfl⟩
  · have HL := Lib.hid (show lackN l = 1 from if_pos (.inl he))
    have hv1 : (rdE l == 0) = false := beq_false_of_ne he
    have hv2 : (rdE l != 0) = true := bne_iff_ne.2 he
    go_enter Try.func30, Try.ntmps30
    go_wp2_with fail
    refine (read_any _ _ _ _ _ h).mono ?_
    rintro e w' ⟨rfl, rfl⟩
    go_wp2
    go_ret
    exact ⟨ret_i64 HL.out.symm, rfl⟩

/-- The stream with more bytes, and what is left of the piece. -/
def TakeOut (base : Nat) (row : Option Nat) (k : Int) (br : Bool) (l : List Int) (P : Option Addr) (m d j : Nat) (w : World) (e : Ending) (w' : World) : Prop :=
  ∃ A n c P' m' d', e = .returned (.tuple #[.agg #[.slice A n c, .int .u64 k, .bool br], .slice P' m' d']) ∧ Own w' base (.slice A n c) l ∧ (∀ W r, Rd W P m d r → Rd W P' m' d' (r.drop j)) ∧ w.grownBy w' row ∧
    ((Value.slice A n c).ownBlock = row ∨ ∃ q, (Value.slice A n c).ownBlock = some q ∧ w.heap.size ≤ q)
theorem grown_setCell {w w' : World} {row : Option Nat} (h : w.grownBy w' row) {p : Addr} (hp : w.heap.size ≤ p.block) (u : Value) : w.grownBy (w'.setCell p u) row :=
  ⟨h.os, h.tape, h.output, by have := h.size; simpa [World.setCell] using this, fun q hq hr => (Below.heap_setCell _ _ _ _ (by omega)).trans (h.block q hq hr)⟩
theorem Own.farCell {w : World} {base : Nat} {v : Value} {l : List Int} (h : Own w base v l) (p : Addr) (u : Value) (hp : v.ownBlock = none ∨ v.ownBlock ≠ some p.block) : Own (w.setCell p u) base v l :=
  h.grown (row := some p.block) ⟨rfl, rfl, rfl, by simp [World.setCell], fun q _ hq => Below.heap_setCell _ _ _ _ (fun e => hq (by rw [e]))⟩ hp
theorem SBox.farCell {w : World} {g : Nat} {A : Option Addr} {n c : Nat} {k : Int} {br : Bool} (h : SBox w g A n c k br) (p : Addr) (u : Value) (hp : g ≠ p.block) : SBox (w.setCell p u) g A n c k br := h.far (Below.heap_setCell _ _ _ _ hp)
set_option maxHeartbeats 1000000 in
theorem take_any (base : Nat) (A : Option Addr) (n c : Nat) (k : Int) (br : Bool) (l : List Int) (P : Option Addr) (m d : Nat) (r : List Int) (w : World) (hO : Own w base (.slice A n c) l) (hbase : base ≤ w.heap.size) (hn : n ≤ 100000) (hR : Rd w P m d r) (hm : 1 ≤ m)
    (hfar : ∀ b o, P = some ⟨b, o, none⟩ → (Value.slice A n c).ownBlock ≠ some b) :
    Calls Try.prog 24 #[.agg #[.slice A n c, .int .u64 k, .bool br], .slice P m d] w fun e w' => ∃ j : Nat, 1 ≤ j ∧ j ≤ m ∧ (j : Int) ≤ lackN l ∧ TakeOut base (Value.slice A n c).ownBlock k br (l ++ r.take j) P m d j w e w' := by
  obtain ⟨b, o, rfl⟩ := hR.someB (by omega)
  have hcap := hR.cap
  have hmx := hR.max
  have hS := SBox.new w A n c k br
  have hb0 : Below w.heap.size w (w.alloc (.cells #[.slice A n c, .int .u64 k, .bool br] 29)) := (Below.refl _ _).alloc (Nat.le_refl _) _
  have hb1 := hb0.alloc hb0.size (.cells #[.slice none 0 0, .int .u64 0, .bool false] 29)
  have hZ := SBox.new (w.alloc (.cells #[.slice A n c, .int .u64 k, .bool br] 29)) none 0 0 0 false
  have hS1 := hS.below ((Below.refl _ _).alloc (Nat.le_refl _) (.cells #[.slice none 0 0, .int .u64 0, .bool false] 29))
  rw [show (w.alloc (.cells #[.slice A n c, .int .u64 k, .bool br] 29)).heap.size = w.heap.size + 1 from by simp] at hZ
  have hO1 := hO.below hb1
  have hR1 := hR.below hb1
  have hl1 := hO.len
  have hlk := lack_pos l
  have hlt := lack_top hO.bytes
  have hown := hO.lt
  have hg1 : w.grownBy ((w.alloc (.cells #[.slice A n c, .int .u64 k, .bool br] 29)).alloc (.cells #[.slice none 0 0, .int .u64 0, .bool false] 29)) (Value.slice A n c).ownBlock :=
    (World.grownBy_alloc w _ _).trans (World.grownBy_alloc _ _ _)
  have hsz : w.heap.size + 2 = ((w.alloc (.cells #[.slice A n c, .int .u64 k, .bool br] 29)).alloc (.cells #[.slice none 0 0, .int .u64 0, .bool false] 29)).heap.size := by simp
  clear hS hb0
  obtain ⟨j, hj⟩ : ∃ j : Nat, min (lackN l) (m : Int) = j := ⟨(min (lackN l) (m : Int)).toNat, by omega⟩
  have hj1 : 1 ≤ j := by omega
  have hjm : j ≤ m := by omega
  have hjk : (j : Int) ≤ lackN l := by omega
  have hjmi : (j : Int) ≤ (m : Int) := by omega
  have hjd : (j : Int) ≤ (d : Int) := by omega
  have hmd : (m : Int) ≤ (d : Int) := by omega
  have hx0 := hS1.c0
  go_enter Try.func24, Try.ntmps24
  go_wp2_with fail
  obtain ⟨W2, hW2⟩ : ∃ W2, W2 = (w.alloc (.cells #[.slice A n c, .int .u64 k, .bool br] 29)).alloc (.cells #[.slice none 0 0, .int .u64 0, .bool false] 29) := ⟨_, rfl⟩
  rw [← hW2] at hb1 hZ hS1 hO1 hR1 hg1 hsz hx0 ⊢
  clear hW2
  refine (lacking_any _ _ _ l _ hO1.reads (by omega)).mono ?_
  rintro e w3 ⟨rfl, rfl⟩
  have hRj := hR1.take hjm
  have hlen : l.length + j ≤ 140737488355328 := by omega
  have hbs : base ≤ W2.heap.size := by omega
  have hHA := Lib.hid (fun (h : d = j) (W : World) (q : List Int) (hR : Rd W (some ⟨b, o, none⟩) m d q) => hR.dropEnd hjm h (some ⟨b, o, none⟩))
  have hHB := Lib.hid (fun (W : World) (q : List Int) (hR : Rd W (some ⟨b, o, none⟩) m d q) => hR.dropAt hjm)
  have hne : some w.heap.size ≠ (Value.slice A n c).ownBlock := fun e => by have := hown _ e.symm; omega
  have hne1 : some (w.heap.size + 1) ≠ (Value.slice A n c).ownBlock := fun e => by have := hown _ e.symm; omega
  have hP : some b ≠ (Value.slice A n c).ownBlock := fun e' => hfar b o rfl e'.symm
  clear hfar hlk hown
  go_wp2
  have hD : W2.grownBy W2.drew (Value.slice A n c).ownBlock := ⟨rfl, rfl, rfl, Nat.le_refl _, fun _ _ _ => rfl⟩
  go_region_law (refine step_app rfl (.tmp 14) (.tmp 17) rfl base (.slice A n c) l rfl (some ⟨b, o, none⟩) j d (r.take j) rfl hO1.drew hRj.drew hlen hbs ?_; intro v' w3 hO' hg' hat'; obtain ⟨A3, n3, c3, e3, hr3⟩ := hO'.form; subst e3; have hg2 := hD.trans hg'; have S3 := hS1.grown hg2 hne; have Z3 := hZ.grown hg2 hne1; have x0 := S3.c0; have f0 := S3.frozen 0)
  have hvf : ∀ q, q < w.heap.size + 2 → w.heap.size ≤ q → (Value.slice A3 n3 c3).ownBlock ≠ some q := fun q h1 h2 e => by
    rcases hat' with h | h
    · have := hO.lt q (by rw [← h]; exact e); omega
    · rw [h] at e; injection e with e; simp at e; omega
  have hO4 := hO'.farCell ⟨w.heap.size, 0, none⟩ (.slice A3 n3 c3) (.inr (hvf w.heap.size (by omega) (Nat.le_refl _)))
  have S4 := S3.put0 A3 n3 c3
  have Z4 := Z3.farCell ⟨w.heap.size, 0, none⟩ (.slice A3 n3 c3) (by simp)
  have hg4 := grown_setCell (hg1.trans hg2) (p := ⟨w.heap.size, 0, none⟩) (by show w.heap.size ≤ w.heap.size; omega) (.slice A3 n3 c3)
  have hrow : (Value.slice A3 n3 c3).ownBlock = (Value.slice A n c).ownBlock ∨ ∃ q, (Value.slice A3 n3 c3).ownBlock = some q ∧ w.heap.size ≤ q := by
    rcases hat' with h | h
    · exact .inl h
    · exact .inr ⟨_, h, by simp; omega⟩
  clear hat' hO' hr3 S3 Z3 x0 f0 hg2 hg' hg1 hS1 hZ hb1 hO1 hR1 hRj hD hne hne1 hx0
  generalize w3.setCell ⟨w.heap.size, 0, none⟩ (.slice A3 n3 c3) = W4 at *
  have x0 := S4.c0
  have x1 := S4.c1
  have x2 := S4.c2
  have y0 := Z4.c0
  have y1 := Z4.c1
  have y2 := Z4.c2
  have e0 := Z4.frozen 0
  have e1 := Z4.frozen 1
  have e2 := Z4.frozen 2
  go_wp2
  go_region
  go_wp2
  all_goals
    have hO5 := ((hO4.farCell ⟨w.heap.size + 1, 0, none⟩ (.slice A3 n3 c3) (.inr (hvf (w.heap.size + 1) (by omega) (by omega)))).farCell ⟨w.heap.size + 1, 1, none⟩ (.int .u64 k) (.inr (hvf (w.heap.size + 1) (by omega) (by omega)))).farCell ⟨w.heap.size + 1, 2, none⟩ (.bool br) (.inr (hvf (w.heap.size + 1) (by omega) (by omega)))
    have hg5 := grown_setCell (grown_setCell (grown_setCell hg4 (p := ⟨w.heap.size + 1, 0, none⟩) (by show w.heap.size ≤ w.heap.size + 1; omega) (.slice A3 n3 c3)) (p := ⟨w.heap.size + 1, 1, none⟩) (by show w.heap.size ≤ w.heap.size + 1; omega) (.int .u64 k)) (p := ⟨w.heap.size + 1, 2, none⟩) (by show w.heap.size ≤ w.heap.size + 1; omega) (.bool br)
    have hZ5 := Z4.put3 A3 n3 c3 k br
    generalize ((W4.setCell ⟨w.heap.size + 1, 0, none⟩ (.slice A3 n3 c3)).setCell ⟨w.heap.size + 1, 1, none⟩ (.int .u64 k)).setCell ⟨w.heap.size + 1, 2, none⟩ (.bool br) = W5 at *
    have hg6 : w.grownBy W5.drew (Value.slice A n c).ownBlock := ⟨hg5.os, hg5.tape, hg5.output, hg5.size, hg5.block⟩
    refine bodyPost_ret (results_cell_row2 rfl _ _ (w.heap.size + 1) 29 #[.slice A3 n3 c3, .int .u64 k, .bool br] (0, 0) _ rfl hZ5 Try.underlying29 rfl (by kernel_rfl)) rfl ?_
    refine ⟨j, hj1, hjm, hjk, A3, n3, c3, _, _, _, rfl, hO5, ?_, hg6, hrow⟩
    first
      | exact hHB.out
      | ((have e : d = j := by assumption); subst e; exact fun W q hR => hHA.out rfl W q hR)

/-- What finish gives: the stream and no chunk, or the stream behind a chunk. -/
def FinOut (A : Option Addr) (n c : Nat) (b : List Int) (w : World) (e : Ending) (w' : World) : Prop := Below w.heap.size w w' ∧
  ((e = .returned (.tuple #[.agg #[.slice A n c, .int .u64 0, .bool false], .agg #[.slice none 0 0, .int .i64 0], .bool false]) ∧ stepB b = ((b, 0, false), [])) ∨
   ∃ k' br' A2 n2 c2 x v, e = .returned (.tuple #[.agg #[.slice none 0 0, .int .u64 k', .bool br'], .agg #[.slice A2 n2 c2, .int .i64 v], .bool true]) ∧ stepB b = (([], k', br'), [(x, v)]) ∧ Rd w' A2 n2 c2 x ∧
     ∀ q o sp, A2 = some ⟨q, o, sp⟩ → ∃ o' sp', A = some ⟨q, o', sp'⟩)
theorem SBox.putC {w : World} {g g' : Nat} {A : Option Addr} {n c : Nat} {k : Int} {br : Bool} (h : SBox w g A n c k br) (hne : g ≠ g') (v0 v1 : Value) : SBox ((w.setCell ⟨g', 0, none⟩ v0).setCell ⟨g', 1, none⟩ v1) g A n c k br :=
  (h.farCell ⟨g', 0, none⟩ v0 hne).farCell ⟨g', 1, none⟩ v1 hne
theorem CBox.putS {w : World} {g g' : Nat} {A : Option Addr} {n c : Nat} {v : Int} (h : CBox w g A n c v) (hne : g ≠ g') (v0 v1 v2 : Value) : CBox (((w.setCell ⟨g', 0, none⟩ v0).setCell ⟨g', 1, none⟩ v1).setCell ⟨g', 2, none⟩ v2) g A n c v :=
  ((h.far (Below.heap_setCell w ⟨g', 0, none⟩ v0 _ hne)).far (Below.heap_setCell _ ⟨g', 1, none⟩ v1 _ hne)).far (Below.heap_setCell _ ⟨g', 2, none⟩ v2 _ hne)
theorem stepB_form {b : List Int} (h : rdE b = 3) : stepB b = (([], 0, true), [([], 1)]) := if_pos h
theorem stepB_short {b : List Int} (h : rdE b ≠ 3) (h0 : rdE b ≠ 0) : stepB b = ((b, 0, false), []) := by
  unfold stepB; rw [if_neg h, if_neg (fun x => h0 x.1), if_neg (fun x => h0 x.1)]
theorem stepB_big {b : List Int} (h0 : rdE b = 0) (h4 : 4096 < rdN b) : stepB b = (([], rdN b, false), [([], 2)]) := by
  unfold stepB; rw [if_neg (by omega), if_pos ⟨h0, h4⟩]
theorem stepB_open {b : List Int} (h0 : rdE b = 0) (h4 : ¬ 4096 < rdN b) (h : (b.length : Int) - rdK b < rdN b) : stepB b = ((b, 0, false), []) := by
  unfold stepB; rw [if_neg (by omega), if_neg (fun x => h4 x.2), if_neg (by omega)]
theorem stepB_full {b : List Int} (h0 : rdE b = 0) (h4 : ¬ 4096 < rdN b) (h : ¬ (b.length : Int) - rdK b < rdN b) : stepB b = (([], 0, false), [((b.drop (rdK b).toNat).take (rdN b).toNat, 0)]) := by
  unfold stepB; rw [if_neg (by omega), if_neg (fun x => h4 x.2), if_pos (by omega)]
set_option maxHeartbeats 1000000 in
theorem finish_any (A : Option Addr) (n c : Nat) (b : List Int) (w : World) (h : Rd w A n c b) (hn : n ≤ 1000000) :
    Calls Try.prog 25 #[.agg #[.slice A n c, .int .u64 0, .bool false]] w (FinOut A n c b w) := by
  have hlen := h.len
  have hcap := h.cap
  have hmx := h.max
  have ht := rd_top h.bytes
  have hB3 : Below w.heap.size w (((w.alloc (.cells #[.slice A n c, .int .u64 0, .bool false] 29)).alloc (.cells #[.slice none 0 0, .int .u64 0, .bool false] 29)).alloc (.cells #[.slice none 0 0, .int .i64 0] 41)) :=
    (((Below.refl _ _).alloc (Nat.le_refl _) _).alloc (by simp) _).alloc (by simp; omega) _
  have hS1 := (SBox.new w A n c 0 false).below (((Below.refl _ _).alloc (Nat.le_refl _) (.cells #[.slice none 0 0, .int .u64 0, .bool false] 29)).alloc (by simp) (.cells #[.slice none 0 0, .int .i64 0] 41))
  have hZ2 := (SBox.new (w.alloc (.cells #[.slice A n c, .int .u64 0, .bool false] 29)) none 0 0 0 false).below ((Below.refl _ _).alloc (Nat.le_refl _) (.cells #[.slice none 0 0, .int .i64 0] 41))
  have hC3 := CBox.new ((w.alloc (.cells #[.slice A n c, .int .u64 0, .bool false] 29)).alloc (.cells #[.slice none 0 0, .int .u64 0, .bool false] 29)) none 0 0 0
  rw [show (w.alloc (.cells #[.slice A n c, .int .u64 0, .bool false] 29)).heap.size = w.heap.size + 1 from by simp] at hZ2
  rw [show ((w.alloc (.cells #[.slice A n c, .int .u64 0, .bool false] 29)).alloc (.cells #[.slice none 0 0, .int .u64 0, .bool false] 29)).heap.size = w.heap.size + 1 + 1 from by simp] at hC3
  have hx0 := hS1.c0
  have hR3 := h.below hB3
  go_enter Try.func25, Try.ntmps25
  go_wp2_with fail
  generalize (((w.alloc (.cells #[.slice A n c, .int .u64 0, .bool false] 29)).alloc (.cells #[.slice none 0 0, .int .u64 0, .bool false] 29)).alloc (.cells #[.slice none 0 0, .int .i64 0] 41)) = W3 at *
  refine (read_any _ _ _ b _ hR3).mono ?_
  rintro e w3 ⟨rfl, rfl⟩
  have x1 := hS1.c1
  have x2 := hS1.c2
  have y0 := hZ2.c0
  have y1 := hZ2.c1
  have y2 := hZ2.c2
  have e0 := hZ2.frozen 0
  have e1 := hZ2.frozen 1
  have e2 := hZ2.frozen 2
  have z0 := hC3.c0
  have z1 := hC3.c1
  have f0 := hC3.frozen 0
  have f1 := hC3.frozen 1
  by_cases h3 : rdE b = 3
  · have HF := Lib.hid (stepB_form h3)
    rw [h3]
    clear h3
    go_wp2
    have hS5 := (hZ2.put3 none 0 0 0 true).putC (show w.heap.size + 1 ≠ w.heap.size + 1 + 1 by omega) (.slice none 0 0) (.int .i64 1)
    have hC5 := (hC3.putS (show w.heap.size + 1 + 1 ≠ w.heap.size + 1 by omega) (.slice none 0 0) (.int .u64 0) (.bool true)).put2 none 0 0 1
    have hB5 := below_put2 (below_put3 hB3 (g := w.heap.size + 1) (by omega) (.slice none 0 0) (.int .u64 0) (.bool true)) (g := w.heap.size + 1 + 1) (by omega) (.slice none 0 0) (.int .i64 1)
    refine bodyPost_ret (results_cells_row3 rfl _ _ (w.heap.size + 1) (w.heap.size + 1 + 1) 29 41 #[.slice none 0 0, .int .u64 0, .bool true] #[.slice none 0 0, .int .i64 1] (0, 0) (0, 0) _ _ rfl hS5 Try.underlying29 rfl (by kernel_rfl) rfl hC5 Try.underlying41 rfl (by kernel_rfl)) rfl ?_
    exact ⟨hB5, .inr ⟨0, true, none, 0, 0, [], 1, rfl, HF.out, Rd.nil _ _ _ (by simp [maxLen]), fun q o sp e => by cases e⟩⟩
  · by_cases h0 : rdE b = 0
    · have hK := rd_used h.bytes h0
      by_cases h4 : 4096 < rdN b
      · have HF := Lib.hid (stepB_big h0 h4)
        rw [h0]
        clear h0 h3
        go_wp2
        have hS5 := (hZ2.put3 none 0 0 (rdN b) false).putC (show w.heap.size + 1 ≠ w.heap.size + 1 + 1 by omega) (.slice none 0 0) (.int .i64 2)
        have hC5 := (hC3.putS (show w.heap.size + 1 + 1 ≠ w.heap.size + 1 by omega) (.slice none 0 0) (.int .u64 (rdN b)) (.bool false)).put2 none 0 0 2
        have hB5 := below_put2 (below_put3 hB3 (g := w.heap.size + 1) (by omega) (.slice none 0 0) (.int .u64 (rdN b)) (.bool false)) (g := w.heap.size + 1 + 1) (by omega) (.slice none 0 0) (.int .i64 2)
        refine bodyPost_ret (results_cells_row3 rfl _ _ (w.heap.size + 1) (w.heap.size + 1 + 1) 29 41 #[.slice none 0 0, .int .u64 (rdN b), .bool false] #[.slice none 0 0, .int .i64 2] (0, 0) (0, 0) _ _ rfl hS5 Try.underlying29 rfl (by kernel_rfl) rfl hC5 Try.underlying41 rfl (by kernel_rfl)) rfl ?_
        exact ⟨hB5, .inr ⟨rdN b, false, none, 0, 0, [], 2, rfl, HF.out, Rd.nil _ _ _ (by simp [maxLen]), fun q o sp e => by cases e⟩⟩
      · by_cases h5 : (b.length : Int) - rdK b < rdN b
        · have HF := Lib.hid (stepB_open h0 h4 h5)
          rw [hlen] at h5 hK
          rw [h0]
          clear h0 h3 hlen
          go_wp2
          have hS5 := (hZ2.put3 A n c 0 false).putC (show w.heap.size + 1 ≠ w.heap.size + 1 + 1 by omega) (.slice none 0 0) (.int .i64 0)
          have hC5 := (hC3.putS (show w.heap.size + 1 + 1 ≠ w.heap.size + 1 by omega) (.slice A n c) (.int .u64 0) (.bool false)).put2 none 0 0 0
          have hB5 := below_put2 (below_put3 hB3 (g := w.heap.size + 1) (by omega) (.slice A n c) (.int .u64 0) (.bool false)) (g := w.heap.size + 1 + 1) (by omega) (.slice none 0 0) (.int .i64 0)
          refine bodyPost_ret (results_cells_row3 rfl _ _ (w.heap.size + 1) (w.heap.size + 1 + 1) 29 41 #[.slice A n c, .int .u64 0, .bool false] #[.slice none 0 0, .int .i64 0] (0, 0) (0, 0) _ _ rfl hS5 Try.underlying29 rfl (by kernel_rfl) rfl hC5 Try.underlying41 rfl (by kernel_rfl)) rfl ?_
          exact ⟨hB5, .inl ⟨rfl, HF.out⟩⟩
        · have hF := stepB_full h0 h4 h5
          rw [hlen] at h5 hK
          rw [h0]
          obtain ⟨q, hq⟩ := Int.eq_ofNat_of_zero_le (show 0 ≤ rdK b by omega)
          obtain ⟨p, hp⟩ := Int.eq_ofNat_of_zero_le ht.1
          rw [hq, hp, Int.toNat_natCast, Int.toNat_natCast] at hF
          have HF := Lib.hid hF
          have hq1 : 1 ≤ q := by omega
          have hqn : q ≤ n := by omega
          have hpq : q + p ≤ n := by omega
          obtain ⟨g, o, rfl⟩ := h.someB (by omega)
          have hHA := Lib.hid (fun hh : c = q => show Rd w (some ⟨g, o, none⟩) p 0 ((b.drop q).take p) by
            have hp0 : p = 0 := by omega
            subst hp0
            exact Rd.nil _ _ _ (by simp [maxLen]))
          have hHB := Lib.hid ((h.dropAt hqn).take (show p ≤ n - q by omega))
          have i1 : (q : Int) ≤ (q : Int) + (p : Int) := by omega
          have i2 : (q : Int) + (p : Int) ≤ (c : Int) := by omega
          have i3 : ¬ ((n : Int) - (q : Int) < (p : Int)) := by omega
          rw [hq, hp]
          rw [hp] at h4
          have HX := Lib.hid (show q + p - q = p by omega)
          clear h0 h3 hlen hF h5 hK hq hp ht
          go_wp2
          · have hS5 := (hZ2.put3 none 0 0 0 false).putC (show w.heap.size + 1 ≠ w.heap.size + 1 + 1 by omega) (.slice (some ⟨g, o, none⟩) p 0) (.int .i64 0)
            have hC5 := (hC3.putS (show w.heap.size + 1 + 1 ≠ w.heap.size + 1 by omega) (.slice none 0 0) (.int .u64 0) (.bool false)).put2 (some ⟨g, o, none⟩) p 0 0
            have hB5 := below_put2 (below_put3 hB3 (g := w.heap.size + 1) (by omega) (.slice none 0 0) (.int .u64 0) (.bool false)) (g := w.heap.size + 1 + 1) (by omega) (.slice (some ⟨g, o, none⟩) p 0) (.int .i64 0)
            refine bodyPost_ret (results_cells_row3 rfl _ _ (w.heap.size + 1) (w.heap.size + 1 + 1) 29 41 #[.slice none 0 0, .int .u64 0, .bool false] #[.slice (some ⟨g, o, none⟩) p 0, .int .i64 0] (0, 0) (0, 0) _ _ rfl hS5 Try.underlying29 rfl (by kernel_rfl) rfl hC5 Try.underlying41 rfl (by kernel_rfl)) rfl ?_
            exact ⟨hB5, .inr ⟨0, false, some ⟨g, o, none⟩, p, 0, _, 0, rfl, HF.out, (hHA.out h).below hB5, fun q' o' sp e => by injection e with e; injection e with e; subst e; exact ⟨_, _, rfl⟩⟩⟩
          · have hS5 := (hZ2.put3 none 0 0 0 false).putC (show w.heap.size + 1 ≠ w.heap.size + 1 + 1 by omega) (.slice (some ⟨g, o + q, none⟩) p (c - q)) (.int .i64 0)
            have hC5 := (hC3.putS (show w.heap.size + 1 + 1 ≠ w.heap.size + 1 by omega) (.slice none 0 0) (.int .u64 0) (.bool false)).put2 (some ⟨g, o + q, none⟩) p (c - q) 0
            have hB5 := below_put2 (below_put3 hB3 (g := w.heap.size + 1) (by omega) (.slice none 0 0) (.int .u64 0) (.bool false)) (g := w.heap.size + 1 + 1) (by omega) (.slice (some ⟨g, o + q, none⟩) p (c - q)) (.int .i64 0)
            refine bodyPost_ret (results_cells_row3 rfl _ _ (w.heap.size + 1) (w.heap.size + 1 + 1) 29 41 #[.slice none 0 0, .int .u64 0, .bool false] #[.slice (some ⟨g, o + q, none⟩) p (c - q), .int .i64 0] (0, 0) (0, 0) _ _ rfl hS5 Try.underlying29 rfl (by kernel_rfl) rfl hC5 Try.underlying41 rfl (by kernel_rfl)) rfl ?_
            exact ⟨hB5, .inr ⟨0, false, some ⟨g, o + q, none⟩, p, c - q, _, 0, rfl, HF.out, hHB.out.below hB5, fun q' o' sp e => by injection e with e; injection e with e; subst e; exact ⟨_, _, rfl⟩⟩⟩
    · have HF := Lib.hid (stepB_short h3 h0)
      have v1 : (rdE b == 0) = false := beq_false_of_ne h0
      have v2 : (rdE b != 0) = true := bne_iff_ne.2 h0
      have v3 : (rdE b == 3) = false := beq_false_of_ne h3
      clear h0 h3
      go_wp2
      have hS5 := (hZ2.put3 A n c 0 false).putC (show w.heap.size + 1 ≠ w.heap.size + 1 + 1 by omega) (.slice none 0 0) (.int .i64 0)
      have hC5 := (hC3.putS (show w.heap.size + 1 + 1 ≠ w.heap.size + 1 by omega) (.slice A n c) (.int .u64 0) (.bool false)).put2 none 0 0 0
      have hB5 := below_put2 (below_put3 hB3 (g := w.heap.size + 1) (by omega) (.slice A n c) (.int .u64 0) (.bool false)) (g := w.heap.size + 1 + 1) (by omega) (.slice none 0 0) (.int .i64 0)
      refine bodyPost_ret (results_cells_row3 rfl _ _ (w.heap.size + 1) (w.heap.size + 1 + 1) 29 41 #[.slice A n c, .int .u64 0, .bool false] #[.slice none 0 0, .int .i64 0] (0, 0) (0, 0) _ _ rfl hS5 Try.underlying29 rfl (by kernel_rfl) rfl hC5 Try.underlying41 rfl (by kernel_rfl)) rfl ?_
      exact ⟨hB5, .inl ⟨rfl, HF.out⟩⟩
end Go.Proofs.Ytfihaonpifoekaa
