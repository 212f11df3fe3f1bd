/- heavykeysref01.Decode: the event at the beginning of bytes, or the error. Conditions: none beyond those typed. -/
import Derived.Test.YtoaijnpkenflbaaErdec
namespace Go.Proofs.Ytoaijnpkenflbaa
open Go.ChangeShapes Go.WideShapes Go.ChangeAt Go.RowKit
set_option linter.unusedVariables false
set_option linter.unusedSimpArgs false
set_option maxRecDepth 100000

theorem EBox.put1 {w : World} {g : Nat} {A : Option Addr} {n c : Nat} {t x : Int} (h : EBox w g A n c t x) (t' : Int) : EBox (w.setCell ⟨g, 1, none⟩ (.int .i64 t')) g A n c t' x := by
  have h' : w.heap[g]? = _ := h
  unfold EBox
  simp [World.setCell, Array.getElem?_modify, h']
theorem EBox.far' {w w' : World} {g : Nat} {A : Option Addr} {n c : Nat} {t x : Int} {row : Option Nat} (h : EBox w g A n c t x) (hg : w.grownBy w' row) (hr : row ≠ some g) : EBox w' g A n c t x := h.far (hg.block _ h.lt (fun e => hr e.symm))
/-- What stands while heavykeysref01.Decode reads: the result's box, the event's box, and its tags. -/
def Inv (w W : World) (A : Option Addr) (n c : Nat) (t x : Int) (acc : List Tg) : Prop :=
  EBox W w.heap.size none 0 0 0 0 ∧ EBox W (w.heap.size + 1 + 1) A n c t x ∧ OwnT W (w.heap.size + 3) (.slice A n c) acc ∧ Below w.heap.size w W ∧ w.heap.size + 3 ≤ W.heap.size
section
variable {w W W' : World} {A : Option Addr} {n c : Nat} {t x : Int} {acc : List Tg}
theorem Inv.grown (h : Inv w W A n c t x acc) (hg : W.grownBy W' (some (w.heap.size + 1))) : Inv w W' A n c t x acc :=
  ⟨h.1.far' hg (by simp), h.2.1.far' hg (by simp), h.2.2.1.grown hg (fun k hk => by injection hk; omega), h.2.2.2.1.grown hg h.2.2.2.1.size (fun k hk => by injection hk; omega), Nat.le_trans h.2.2.2.2 hg.size⟩
theorem Inv.put1 (h : Inv w W A n c t x acc) (t' : Int) : Inv w (W.setCell ⟨w.heap.size + 1 + 1, 1, none⟩ (.int .i64 t')) A n c t' x acc := by
  have hg := grow_in (World.grownBy.refl W (some (w.heap.size + 1 + 1))) (.inl rfl) 1 (.int .i64 t')
  exact ⟨h.1.far' hg (by intro e; injection e; omega), h.2.1.put1 t', h.2.2.1.grown hg (fun k hk => by injection hk; omega), h.2.2.2.1.grown hg h.2.2.2.1.size (fun k hk => by injection hk; omega), Nat.le_trans h.2.2.2.2 hg.size⟩
theorem Inv.put2 (h : Inv w W A n c t x acc) (x' : Int) : Inv w (W.setCell ⟨w.heap.size + 1 + 1, 2, none⟩ (.int .u64 x')) A n c t x' acc := by
  have hg := grow_in (World.grownBy.refl W (some (w.heap.size + 1 + 1))) (.inl rfl) 2 (.int .u64 x')
  exact ⟨h.1.far' hg (by intro e; injection e; omega), h.2.1.put2 x', h.2.2.1.grown hg (fun k hk => by injection hk; omega), h.2.2.2.1.grown hg h.2.2.2.1.size (fun k hk => by injection hk; omega), Nat.le_trans h.2.2.2.2 hg.size⟩
theorem Inv.app {A' : Option Addr} {n' c' : Nat} {acc' : List Tg} (h : Inv w W A n c t x acc) (hO : OwnT W' (w.heap.size + 3) (.slice A' n' c') acc') (hg : W.grownBy W' (Value.slice A n c).ownBlock) : Inv w (W'.setCell ⟨w.heap.size + 1 + 1, 0, none⟩ (.slice A' n' c')) A' n' c' t x acc' := by
  have hlt := h.2.2.1.lt
  have ne : ∀ j, j < w.heap.size + 3 → (Value.slice A n c).ownBlock ≠ some j := fun j hj e => by have := (hlt j e).1; omega
  have hg' := grow_in (World.grownBy.refl W' (some (w.heap.size + 1 + 1))) (.inl rfl) 0 (.slice A' n' c')
  have hb := h.2.2.2.1.grown hg h.2.2.2.1.size (fun k hk => by have := (hlt k hk).1; omega)
  exact ⟨(h.1.far' hg (ne _ (by omega))).far' hg' (by intro e; injection e; omega), (h.2.1.far' hg (ne _ (by omega))).put0 A' n' c', hO.grown hg' (fun k hk => by injection hk; omega), hb.grown hg' hb.size (fun k hk => by injection hk; omega), Nat.le_trans h.2.2.2.2 (Nat.le_trans hg.size hg'.size)⟩
theorem Box.far {W W' : World} {g : Nat} {p q : ByteArray} {row : Option Nat} (h : Box W g p q) (hg : W.grownBy W' row) (hr : row ≠ some g) : Box W' g p q := (hg.block g (World.block_lt_of_cell? _ ⟨g, 0, none⟩ h.c0) (fun e => hr e.symm)).trans h
theorem Box.put0 {W : World} {g : Nat} {p q : ByteArray} (h : Box W g p q) (s : ByteArray) : Box (W.setCell ⟨g, 0, none⟩ (.string s)) g s q := by
  have h' : W.heap[g]? = _ := h
  unfold Box
  simp [World.setCell, Array.getElem?_modify, h']
theorem Box.put1 {W : World} {g : Nat} {p q : ByteArray} (h : Box W g p q) (s : ByteArray) : Box (W.setCell ⟨g, 1, none⟩ (.string s)) g p s := by
  have h' : W.heap[g]? = _ := h
  unfold Box
  simp [World.setCell, Array.getElem?_modify, h']
theorem Box.frozen {W : World} {g : Nat} {p q : ByteArray} (h : Box W g p q) (i : Nat) : W.frozen? ⟨g, i, none⟩ = false := by
  have : W.heap[g]? = _ := h
  simp [World.frozen?, this]
end

/-- The reader with what it has before it, or with an error. -/
def RZ (W : World) (g b : Nat) (o : Option (List Int)) (z : Int) : Prop := match o with
  | some r => RB W g b r
  | none => RE W g z ∧ z ≠ 0
theorem RZ.far {W W' : World} {g b : Nat} {o : Option (List Int)} {z : Int} {row : Option Nat} (h : RZ W g b o z) (hg : W.grownBy W' row) (h1 : row ≠ some g) (h2 : row ≠ some b) : RZ W' g b o z := by
  cases o with
  | some r => exact RB.far h hg h1 h2
  | none => exact ⟨RE.far h.1 hg h1, h.2⟩
theorem RZ.below {W W' : World} {g b : Nat} {o : Option (List Int)} {z : Int} (h : RZ W g b o z) (hb : Below W.heap.size W W') : RZ W' g b o z := by
  cases o with
  | some r => exact RB.below h hb
  | none => exact ⟨RE.below h.1 hb, h.2⟩
/-- One text read. -/
def Step (o : Option (List Int)) (z : Int) (p : ByteArray) (o' : Option (List Int)) (z' : Int) : Prop :=
  (∃ r, o = some r ∧ ((txtE r = 0 ∧ p = txtV r ∧ o' = some (txtR r)) ∨ (txtE r ≠ 0 ∧ o' = none ∧ z' = txtE r))) ∨ (o = none ∧ o' = none ∧ z' = z)
def RtZ (g b : Nat) (o : Option (List Int)) (z : Int) (W : World) (e : Ending) (W' : World) : Prop :=
  ∃ p o' z', e = .returned (.string p) ∧ p.size ≤ 140737488355328 ∧ W.grownBy W' (some g) ∧ RZ W' g b o' z' ∧ Step o z p o' z'
theorem rtext_z (g b : Nat) (o : Option (List Int)) (z : Int) (W : World) (h : RZ W g b o z) :
    Calls Try.prog 51 #[.pointer (some ⟨g, 0, none⟩), .int .u64 4096] W (RtZ g b o z W) := by
  cases o with
  | some r =>
    refine (rtext_any g b r W h).mono ?_
    rintro e W' ⟨rfl, hg, h1, h2⟩
    by_cases he : txtE r = 0
    · exact ⟨_, some (txtR r), 0, rfl, Nat.le_trans (txtV_size _) (by decide), hg, h1 he, .inl ⟨r, rfl, .inl ⟨he, rfl, rfl⟩⟩⟩
    · exact ⟨_, none, txtE r, rfl, Nat.le_trans (txtV_size _) (by decide), hg, ⟨h2 he, he⟩, .inl ⟨r, rfl, .inr ⟨he, rfl, rfl⟩⟩⟩
  | none =>
    refine (rtext_err g z W h.1 h.2).mono ?_
    rintro e W' ⟨rfl, rfl⟩
    exact ⟨_, none, z, rfl, by decide, World.grownBy.refl _ _, h, .inr ⟨rfl, rfl, rfl⟩⟩
/-- What the loop keeps. -/
def LoopR (k : Nat) (l : List Int) (j : Nat) (acc : List Tg) (o : Option (List Int)) (z : Int) : Prop := acc.length = j ∧ (∀ r, o = some r → TgsK k l j acc r) ∧ (o = none → tgsE k l = z)
theorem LoopR.next {k j : Nat} {l : List Int} {acc : List Tg} {o o1 o2 : Option (List Int)} {z z1 z2 : Int} {p q : ByteArray} (h : LoopR k l j acc o z) (hj : j < k) (s1 : Step o z p o1 z1) (s2 : Step o1 z1 q o2 z2) : LoopR k l (j + 1) (acc ++ [(p, q)]) o2 z2 := by
  obtain ⟨h0, h1, h2⟩ := h
  refine ⟨by simp [h0], ?_, ?_⟩
  · rintro r rfl
    rcases s2 with ⟨r1, rfl, ⟨a, rfl, b⟩ | ⟨_, b, _⟩⟩ | ⟨_, b, _⟩
    · injection b with b
      subst b
      rcases s1 with ⟨r0, rfl, ⟨a', rfl, b'⟩ | ⟨_, b', _⟩⟩ | ⟨_, b', _⟩
      · injection b' with b'
        subst b'
        exact (h1 r0 rfl).next hj a' a
      · cases b'
      · cases b'
    · cases b
    · cases b
  · rintro rfl
    rcases s2 with ⟨r1, rfl, ⟨a, _, b⟩ | ⟨a, _, rfl⟩⟩ | ⟨rfl, _, rfl⟩
    · cases b
    · rcases s1 with ⟨r0, rfl, ⟨a', _, b'⟩ | ⟨_, b', _⟩⟩ | ⟨_, b', _⟩
      · injection b' with b'
        subst b'
        exact (h1 r0 rfl).e2 hj a' a
      · cases b'
      · cases b'
    · rcases s1 with ⟨r0, rfl, ⟨_, _, b'⟩ | ⟨a', _, rfl⟩⟩ | ⟨rfl, _, rfl⟩
      · cases b'
      · exact (h1 r0 rfl).e1 hj a'
      · exact h2 rfl
theorem numE_full {l : List Int} (hb : ∀ z ∈ l, 0 ≤ z ∧ z ≤ 255) : numE 18446744073709551615 1 l = rdE l := by
  by_cases h : rdE l = 0
  · rw [h]; exact (numE_ok h (by have := (rd_top hb).2; omega)).1
  · exact (numE_err h).1

set_option maxHeartbeats 2000000 in
theorem rdecode_any (A : Option Addr) (n c : Nat) (l : List Int) (w : World) (hR : Rd w A n c l) :
    Calls Try.prog 31 #[.slice A n c] w (DecOut l w) := by
  have hln := Lib.hid hR.len
  have hmax := hR.max
  have hcap := hR.cap
  have hb0 := hR.bytes
  have hEx : ∃ W0, W0 = ((w.alloc (.cells #[.slice none 0 0, .int .i64 0, .int .u64 0] 30)).alloc (.cells #[.slice A n c, .int .i64 0] 86)).alloc (.cells #[.slice none 0 0, .int .i64 0, .int .u64 0] 30) := ⟨_, rfl⟩
  obtain ⟨W0, hW0⟩ := hEx
  have s1 : (w.alloc (.cells #[.slice none 0 0, .int .i64 0, .int .u64 0] 30)).heap.size = w.heap.size + 1 := by simp
  have s2 : ((w.alloc (.cells #[.slice none 0 0, .int .i64 0, .int .u64 0] 30)).alloc (.cells #[.slice A n c, .int .i64 0] 86)).heap.size = w.heap.size + 1 + 1 := by simp
  have hB0 : Below w.heap.size w W0 := by
    rw [hW0]
    exact (((Below.refl _ _).alloc (Nat.le_refl _) _).alloc (by simp) _).alloc (by simp; omega) _
  have hI0 : Inv w W0 none 0 0 0 0 [] := by
    refine ⟨?_, ?_, OwnT.none_ _ _, hB0, by rw [hW0]; simp⟩
    · rw [hW0]
      exact ((EBox.new w none 0 0 0 0).below ((Below.refl _ _).alloc (Nat.le_refl _) _)).below ((Below.refl _ _).alloc (Nat.le_refl _) _)
    · rw [hW0]
      have := EBox.new ((w.alloc (.cells #[.slice none 0 0, .int .i64 0, .int .u64 0] 30)).alloc (.cells #[.slice A n c, .int .i64 0] 86)) none 0 0 0 0
      rwa [s2] at this
  have hRow : W0.heap[w.heap.size + 1]? = some (.cells #[.slice A n c, .int .i64 0] 86 (0, 0)) := by
    rw [hW0]
    have h := heap_alloc_new (w.alloc (.cells #[.slice none 0 0, .int .i64 0, .int .u64 0] 30)) (.cells #[.slice A n c, .int .i64 0] 86)
    rw [s1] at h
    have hlt := heap_lt h
    rw [heap_alloc_old _ _ hlt]
    exact h
  have hA0 : RA W0 (w.heap.size + 1) l := ⟨A, n, c, hRow, hR.below hB0⟩
  clear s1 s2
  by_cases h1 : numE 1099511627776 1 l = 0
  rotate_left
  · have HZ := Lib.hid h1
    have HD := Lib.hid (dec_e1 h1)
    have HV : Hid (numV 1099511627776 1 l = 0) := Lib.hid (by unfold numV; rw [if_neg h1])
    clear h1 hb0
    go_enter Try.func31, Try.ntmps31
    go_wp2_with fail
    rw [← hW0]
    clear hW0
    refine (rupto_any _ 1099511627776 1 l _ hA0 (by decide) (by decide) (by decide)).mono ?_
    rintro e W1 ⟨rfl, hg1, -, hr1⟩
    rw [HV.out]
    have hI1 := hI0.grown hg1
    have hE1 := hr1 HZ.out
    have x1 := hI1.2.1.c1
    have y1 := hI1.2.1.frozen 1
    have hI2 := hI1.put1 0
    have hE2 := hE1.far (grow_in (World.grownBy.refl W1 (some (w.heap.size + 1 + 1))) (.inl rfl) 1 (.int .i64 0)) (by simp)
    have x2 := hI2.2.1.c2
    have y2 := hI2.2.1.frozen 2
    have hI3 := hI2.put2 0
    have hE9 := hE2.far (grow_in (World.grownBy.refl (W1.setCell ⟨w.heap.size + 1 + 1, 1, none⟩ (.int .i64 0)) (some (w.heap.size + 1 + 1))) (.inl rfl) 2 (.int .u64 0)) (by simp)
    go_wp2_with fail
    refine (rnumber_err _ _ _ hE2 HZ.out).mono ?_
    rintro e w' ⟨rfl, rfl⟩
    go_wp2_with fail
    refine (rupto_err _ _ _ _ _ hE9 HZ.out).mono ?_
    rintro e w' ⟨rfl, rfl⟩
    have hI9 := hI3
    clear hI0 hI1 hI2 hI3 hE1 hE2 hr1 x1 y1 x2 y2 hA0 hg1 hB0
    obtain ⟨W3, hW3⟩ : ∃ W3, W3 = (W1.setCell ⟨w.heap.size + 1 + 1, 1, none⟩ (.int .i64 0)).setCell ⟨w.heap.size + 1 + 1, 2, none⟩ (.int .u64 0) := ⟨_, rfl⟩
    rw [← hW3] at hI9 hE9 ⊢
    clear hW3
    go_wp2
    go_loopw [7] (fun i W => i = .int .i64 0 ∧ W = W3) (fun _ _ => 0)
    case atStart => exact ⟨rfl, rfl⟩
    case round =>
      obtain ⟨rfl, rfl⟩ := hrel
      obtain ⟨Az, nz, cz, hz⟩ := hE9
      have z1 : wr.cell? ⟨w.heap.size + 1, 1, none⟩ = some (.int .i64 (numE 1099511627776 1 l)) := by rw [Lib.cell_of_heap hz]; rfl
      have f0 := hI9.1.frozen 0
      have f1 := hI9.1.frozen 1
      have f2 := hI9.1.frozen 2
      have e0 := hI9.1.c0
      have e1 := hI9.1.c1
      have e2 := hI9.1.c2
      have hv1 : ((numE 1099511627776 1 l) == 0) = false := beq_false_of_ne HZ.out
      have hv2 : ((numE 1099511627776 1 l) != 0) = true := bne_iff_ne.2 HZ.out
      have HP := Lib.hid (hI9.1.put3 none 0 0 0 0)
      have HF := Lib.hid (DecOut.err HD.out HZ.out (below_put3 hI9.2.2.2.1 (Nat.le_refl _) (.slice none 0 0) (.int .i64 0) (.int .u64 0)))
      clear hI9 hz
      go_wp2_with fail
      go_region
      go_wp2
      refine bodyPost_ret (results_cell_row3 rfl _ _ w.heap.size _ _ (0, 0) _ rfl HP.out Try.underlying30 rfl (by kernel_rfl)) rfl ?_
      exact HF.out.drew
  have H1 := Lib.hid h1
  have V1 := Lib.hid (numE_zero h1 (by decide)).2.2
  have hn0 : 0 < n := by have := rd_used hb0 (numE_zero h1 (by decide)).1; have := hln.out; omega
  obtain ⟨b0, o0, rfl⟩ := hR.some_of hn0
  have hbw : b0 < w.heap.size := by obtain ⟨b', o', z, hA, _, _, _, hbl, _⟩ := hR.at_ hn0; injection hA with hA; injection hA with e1 _; subst e1; exact hbl
  have hB00 : RB W0 (w.heap.size + 1) b0 l := by
    exact ⟨o0, n, c, hRow, hR.below hB0⟩
  clear hRow
  by_cases h2 : numE 18446744073709551615 1 (numR l) = 0
  rotate_left
  · have HZ := Lib.hid h2
    have HD := Lib.hid (dec_e2 h1 h2)
    have HF2 := Lib.hid (numE_full (numR_bytes hb0))
    clear h2 hb0
    go_enter Try.func31, Try.ntmps31
    go_wp2_with fail
    rw [← hW0]
    clear hW0
    refine (rupto_any _ 1099511627776 1 l _ hA0 (by decide) (by decide) (by decide)).mono ?_
    rintro e W1 ⟨rfl, hg1, hr1, -⟩
    obtain ⟨b1, hB1, _, hbb1⟩ := hr1 H1.out
    obtain rfl := hbb1 _ hB00
    rw [V1.out]
    have hI1 := hI0.grown hg1
    have x1 := hI1.2.1.c1
    have y1 := hI1.2.1.frozen 1
    have hI2 := hI1.put1 (rdN l)
    have hB2 := hB1.far (grow_in (World.grownBy.refl W1 (some (w.heap.size + 1 + 1))) (.inl rfl) 1 (.int .i64 (rdN l))) (by intro e; injection e; omega) (by intro e; injection e; omega)
    clear hr1 hbb1 hB1 hg1
    go_wp2_with fail
    refine (rnumber_any _ (numR l) _ hB2.ra).mono ?_
    rintro e W2 ⟨rfl, hg2, hr2, hr2'⟩
    have hI3 := hI2.grown hg2
    have x2 := hI3.2.1.c2
    have y2 := hI3.2.1.frozen 2
    have hI4 := hI3.put2 (rdN (numR l))
    have hE4 : RE (W2.setCell ⟨w.heap.size + 1 + 1, 2, none⟩ (.int .u64 (rdN (numR l)))) (w.heap.size + 1) (numE 18446744073709551615 1 (numR l)) := by
      rw [HF2.out]
      exact (hr2' (by rw [← HF2.out]; exact HZ.out)).far (grow_in (World.grownBy.refl W2 (some (w.heap.size + 1 + 1))) (.inl rfl) 2 (.int .u64 (rdN (numR l)))) (by intro e; injection e; omega)
    go_wp2_with fail
    refine (rupto_err _ _ _ _ _ hE4 HZ.out).mono ?_
    rintro e w' ⟨rfl, rfl⟩
    have hI9 := hI4
    have hE9 := hE4
    clear hI0 hI1 hI2 hI3 hI4 hE4 hr2 hr2' x1 y1 x2 y2 hA0 hB2 hB0 hB00
    obtain ⟨W3, hW3⟩ : ∃ W3, W3 = W2.setCell ⟨w.heap.size + 1 + 1, 2, none⟩ (.int .u64 (rdN (numR l))) := ⟨_, rfl⟩
    rw [← hW3] at hI9 hE9 ⊢
    clear hW3
    go_wp2
    go_loopw [7] (fun i W => i = .int .i64 0 ∧ W = W3) (fun _ _ => 0)
    case atStart => exact ⟨rfl, rfl⟩
    case round =>
      obtain ⟨rfl, rfl⟩ := hrel
      obtain ⟨Az, nz, cz, hz⟩ := hE9
      have z1 : wr.cell? ⟨w.heap.size + 1, 1, none⟩ = some (.int .i64 (numE 18446744073709551615 1 (numR l))) := by rw [Lib.cell_of_heap hz]; rfl
      have f0 := hI9.1.frozen 0
      have f1 := hI9.1.frozen 1
      have f2 := hI9.1.frozen 2
      have e0 := hI9.1.c0
      have e1 := hI9.1.c1
      have e2 := hI9.1.c2
      have hv1 : ((numE 18446744073709551615 1 (numR l)) == 0) = false := beq_false_of_ne HZ.out
      have hv2 : ((numE 18446744073709551615 1 (numR l)) != 0) = true := bne_iff_ne.2 HZ.out
      have HP := Lib.hid (hI9.1.put3 none 0 0 0 0)
      have HF := Lib.hid (DecOut.err HD.out HZ.out (below_put3 hI9.2.2.2.1 (Nat.le_refl _) (.slice none 0 0) (.int .i64 0) (.int .u64 0)))
      clear hI9 hz
      go_wp2_with fail
      go_region
      go_wp2
      refine bodyPost_ret (results_cell_row3 rfl _ _ w.heap.size _ _ (0, 0) _ rfl HP.out Try.underlying30 rfl (by kernel_rfl)) rfl ?_
      exact HF.out.drew
  by_cases h3 : numE 8 5 (numR (numR l)) = 0
  rotate_left
  · have HZ := Lib.hid h3
    have HD := Lib.hid (dec_e3 h1 h2 h3)
    have HF2 : Hid (rdE (numR l) = 0) := Lib.hid ((numE_full (numR_bytes hb0)).symm.trans h2)
    have HV : Hid (numV 8 5 (numR (numR l)) = 0) := Lib.hid (by unfold numV; rw [if_neg h3])
    clear h3 hb0
    go_enter Try.func31, Try.ntmps31
    go_wp2_with fail
    rw [← hW0]
    clear hW0
    refine (rupto_any _ 1099511627776 1 l _ hA0 (by decide) (by decide) (by decide)).mono ?_
    rintro e W1 ⟨rfl, hg1, hr1, -⟩
    obtain ⟨b1, hB1, _, hbb1⟩ := hr1 H1.out
    obtain rfl := hbb1 _ hB00
    rw [V1.out]
    have hI1 := hI0.grown hg1
    have x1 := hI1.2.1.c1
    have y1 := hI1.2.1.frozen 1
    have hI2 := hI1.put1 (rdN l)
    have hB2 := hB1.far (grow_in (World.grownBy.refl W1 (some (w.heap.size + 1 + 1))) (.inl rfl) 1 (.int .i64 (rdN l))) (by intro e; injection e; omega) (by intro e; injection e; omega)
    clear hr1 hbb1 hB1 hg1
    go_wp2_with fail
    refine (rnumber_any _ (numR l) _ hB2.ra).mono ?_
    rintro e W2 ⟨rfl, hg2, hr2, hr2'⟩
    have hI3 := hI2.grown hg2
    have x2 := hI3.2.1.c2
    have y2 := hI3.2.1.frozen 2
    have hI4 := hI3.put2 (rdN (numR l))
    obtain ⟨b2, hB3, _, hbb2⟩ := hr2 HF2.out
    obtain rfl := hbb2 _ hB2
    have hB4 := hB3.far (grow_in (World.grownBy.refl W2 (some (w.heap.size + 1 + 1))) (.inl rfl) 2 (.int .u64 (rdN (numR l)))) (by intro e; injection e; omega) (by intro e; injection e; omega)
    clear hr2 hr2' hbb2 hB3 hB2
    go_wp2_with fail
    refine (rupto_any _ 8 5 _ _ hB4.ra (by decide) (by decide) (by decide)).mono ?_
    rintro e W3 ⟨rfl, hg3, hr3, hr3'⟩
    have hI5 := hI4.grown hg3
    rw [HV.out]
    have hI9 := hI5
    have hE9 := hr3' HZ.out
    clear hI0 hI1 hI2 hI3 hI4 hI5 hr3 hr3' x1 y1 x2 y2 hA0 hB4 hB0 hB00
    go_wp2
    go_loopw [7] (fun i W => i = .int .i64 0 ∧ W = W3) (fun _ _ => 0)
    case atStart => exact ⟨rfl, rfl⟩
    case round =>
      obtain ⟨rfl, rfl⟩ := hrel
      obtain ⟨Az, nz, cz, hz⟩ := hE9
      have z1 : wr.cell? ⟨w.heap.size + 1, 1, none⟩ = some (.int .i64 (numE 8 5 (numR (numR l)))) := by rw [Lib.cell_of_heap hz]; rfl
      have f0 := hI9.1.frozen 0
      have f1 := hI9.1.frozen 1
      have f2 := hI9.1.frozen 2
      have e0 := hI9.1.c0
      have e1 := hI9.1.c1
      have e2 := hI9.1.c2
      have hv1 : ((numE 8 5 (numR (numR l))) == 0) = false := beq_false_of_ne HZ.out
      have hv2 : ((numE 8 5 (numR (numR l))) != 0) = true := bne_iff_ne.2 HZ.out
      have HP := Lib.hid (hI9.1.put3 none 0 0 0 0)
      have HF := Lib.hid (DecOut.err HD.out HZ.out (below_put3 hI9.2.2.2.1 (Nat.le_refl _) (.slice none 0 0) (.int .i64 0) (.int .u64 0)))
      clear hI9 hz
      go_wp2_with fail
      go_region
      go_wp2
      refine bodyPost_ret (results_cell_row3 rfl _ _ w.heap.size _ _ (0, 0) _ rfl HP.out Try.underlying30 rfl (by kernel_rfl)) rfl ?_
      exact HF.out.drew
  have HF2 : Hid (rdE (numR l) = 0) := Lib.hid ((numE_full (numR_bytes hb0)).symm.trans h2)
  have H3 := Lib.hid h3
  have V3 := Lib.hid (numE_zero h3 (by decide)).2.2
  have hM3 := (numE_zero h3 (by decide)).2.1
  have hN3 := rd_top (numR_bytes (numR_bytes hb0))
  obtain ⟨k, hk⟩ := Int.eq_ofNat_of_zero_le hN3.1
  have HK := Lib.hid hk
  have hk8 : k ≤ 8 := by omega
  have HDk : Hid (decE l = tgsE k (numR (numR (numR l)))) := Lib.hid (by rw [dec_e4 h1 h2 h3, hk, Int.toNat_natCast])
  have HOk : Hid (decE l = 0 → decT l = tgsV k (numR (numR (numR l))) ∧ decM l = rdN l ∧ decW l = rdN (numR l) ∧ decR l = tgsR k (numR (numR (numR l))) ∧ decN l = (l.length : Int) - (decR l).length) := Lib.hid (fun h => by have := dec_ok h; rw [hk, Int.toNat_natCast] at this; exact this)
  clear h1 h2 h3 hN3 hM3 hk hb0
  go_enter Try.func31, Try.ntmps31
  go_wp2_with fail
  rw [← hW0]
  clear hW0
  refine (rupto_any _ 1099511627776 1 l _ hA0 (by decide) (by decide) (by decide)).mono ?_
  rintro e W1 ⟨rfl, hg1, hr1, -⟩
  obtain ⟨b1, hB1, _, hbb1⟩ := hr1 H1.out
  obtain rfl := hbb1 _ hB00
  rw [V1.out]
  have hI1 := hI0.grown hg1
  have x1 := hI1.2.1.c1
  have y1 := hI1.2.1.frozen 1
  have hI2 := hI1.put1 (rdN l)
  have hB2 := hB1.far (grow_in (World.grownBy.refl W1 (some (w.heap.size + 1 + 1))) (.inl rfl) 1 (.int .i64 (rdN l))) (by intro e; injection e; omega) (by intro e; injection e; omega)
  clear hr1 hbb1 hB1 hg1
  go_wp2_with fail
  refine (rnumber_any _ (numR l) _ hB2.ra).mono ?_
  rintro e W2 ⟨rfl, hg2, hr2, hr2'⟩
  have hI3 := hI2.grown hg2
  have x2 := hI3.2.1.c2
  have y2 := hI3.2.1.frozen 2
  have hI4 := hI3.put2 (rdN (numR l))
  obtain ⟨b2, hB3, _, hbb2⟩ := hr2 HF2.out
  obtain rfl := hbb2 _ hB2
  have hB4 := hB3.far (grow_in (World.grownBy.refl W2 (some (w.heap.size + 1 + 1))) (.inl rfl) 2 (.int .u64 (rdN (numR l)))) (by intro e; injection e; omega) (by intro e; injection e; omega)
  clear hr2 hr2' hbb2 hB3 hB2
  go_wp2_with fail
  refine (rupto_any _ 8 5 _ _ hB4.ra (by decide) (by decide) (by decide)).mono ?_
  rintro e W3 ⟨rfl, hg3, hr3, hr3'⟩
  have hI5 := hI4.grown hg3
  obtain ⟨b3, hB5, _, hbb3⟩ := hr3 H3.out
  obtain rfl := hbb3 _ hB4
  rw [V3.out, HK.out]
  clear hI0 hI1 hI2 hI3 hI4 hr3 hr3' x1 y1 x2 y2 hA0 hB4 hB00 hB0 hbb3 hg3 hg2
  go_wp2
  go_loopw [7] (fun i W => ∃ (j : Nat) (acc : List Tg) (o : Option (List Int)) (z : Int) (A' : Option Addr) (n' c' : Nat), j ≤ k ∧ LoopR k (numR (numR (numR l))) j acc o z ∧ RZ W (w.heap.size + 1) b0 o z ∧ Inv w W A' n' c' (rdN l) (rdN (numR l)) acc ∧ i = .int .i64 ((k : Int) - (j : Int))) (fun i _ => (intOf i).toNat)
  case atStart => exact ⟨0, [], some (numR (numR (numR l))), 0, none, 0, 0, by omega, ⟨rfl, fun r hr => by injection hr with hr; subst hr; exact TgsK.zero k _, fun h => by cases h⟩, hB5, hI5, by first | rfl | simp⟩
  case round =>
    clear hI5 hB5
    obtain ⟨j, acc, o, z, A', n', c', hj, hL, hZ, hI, rfl⟩ := hrel
    have hacc := hL.1
    by_cases hlt : j < k
    · have hi : (0 : Int) < (k : Int) - (j : Int) := by omega
      have hT1 := Box.new wr ⟨#[]⟩ ⟨#[]⟩
      have hwz := hI.2.2.2.2
      have hZ1 := hZ.below ((Below.refl _ _).alloc (Nat.le_refl _) (.cells #[.string ⟨#[]⟩, .string ⟨#[]⟩] 33))
      have HL := Lib.hid hL
      clear hL
      have HLN : Hid (∀ p q : ByteArray, (acc ++ [(p, q)]).length = j + 1) := Lib.hid (fun p q => by simp [hacc])
      go_wp2_with fail
      refine (rtext_z _ b0 o z _ hZ1).mono ?_
      rintro e W4 ⟨p, o1, z1, rfl, hp, hg4, hZ4, st1⟩
      have hG4 : wr.grownBy W4 (some (w.heap.size + 1)) := (World.grownBy_alloc wr _ _).trans hg4
      have hT4 := hT1.far hg4 (by intro e; injection e; omega)
      have t0 := hT4.c0
      have ft0 := hT4.frozen 0
      have hT5 := hT4.put0 p
      have hZ5 := hZ4.far (grow_in (World.grownBy.refl W4 (some wr.heap.size)) (.inl rfl) 0 (.string p)) (by intro e; injection e; omega) (by intro e; injection e; omega)
      have hG5 := grow_in hG4 (g := wr.heap.size) (.inr (by omega)) 0 (.string p)
      clear hZ1 hT1 hg4 hT4 hZ4 hG4 hZ
      go_wp2_with fail
      refine (rtext_z _ b0 o1 z1 _ hZ5).mono ?_
      rintro e W6 ⟨q, o2, z2, rfl, hq, hg6, hZ6, st2⟩
      have hG6 := hG5.trans hg6
      have hT6 := hT5.far hg6 (by intro e; injection e; omega)
      have t1 := hT6.c1
      have ft1 := hT6.frozen 1
      have hT7 := hT6.put1 q
      have hZ7 := hZ6.far (grow_in (World.grownBy.refl W6 (some wr.heap.size)) (.inl rfl) 1 (.string q)) (by intro e; injection e; omega) (by intro e; injection e; omega)
      have hG7 := grow_in hG6 (g := wr.heap.size) (.inr (by omega)) 1 (.string q)
      have hI7 := hI.grown hG7
      have HN := Lib.hid (HL.out.next hlt st1 st2)
      have x0 := hI7.2.1.c0
      have u0 := hT7.c0
      have u1 := hT7.c1
      clear hZ5 hT5 hg6 hT6 hZ6 hG6 hG5 hI hG7 t0 ft0 hT7
      have hI8 := hI7.grown (World.grownBy_alloc (W6.setCell ⟨wr.heap.size, 1, none⟩ (.string q)) (.cells #[.string p, .string q] 33) _)
      have hZ8 := hZ7.below ((Below.refl _ _).alloc (Nat.le_refl _) (.cells #[.string p, .string q] 33))
      have hR8 := RdT.one' (w := W6.setCell ⟨wr.heap.size, 1, none⟩ (.string q)) (h := W6.heap.size) (by simp [World.setCell]) ⟨hp, hq⟩
      have hO8 := hI8.2.2.1
      have hlt8 := hO8.lt
      have ne8 : ∀ i, i < w.heap.size + 3 → (Value.slice A' n' c').ownBlock ≠ some i := fun i hi e => by have := (hlt8 i e).1; omega
      have hby : acc.length + 1 ≤ 1000000 := by omega
      have hba := hI8.2.2.2.2
      clear hI7 hZ7
      go_wp2_with (at_builtin; refine wpList_appT rfl (.tmp 31) (.tmp 33) rfl (w.heap.size + 3) (.slice A' n' c') acc rfl _ 1 1 [(p, q)] rfl hO8 hR8 hby hba ?_)
      · intro v' W9 hO' hg' _
        obtain ⟨A9, c9, rfl, _, _⟩ := hO'.formN (n := j + 1) (HLN.out p q)
        have hX9 := hI8.2.1.far' hg' (ne8 _ (by omega))
        have k0 := hX9.c0
        have fk0 := hX9.frozen 0
        have hI9 := hI8.app hO' hg'
        have hZ9 := (hZ8.far hg' (ne8 _ (by omega)) (ne8 _ (by omega))).far (grow_in (World.grownBy.refl W9 (some (w.heap.size + 1 + 1))) (.inl rfl) 0 (.slice A9 (j + 1) c9)) (by intro e; injection e; omega) (by intro e; injection e; omega)
        clear hO' hg' hX9 hI8 hZ8 hO8 hR8 hlt8 ne8 x0 u0 u1 t1 ft1 hba
        go_wp2
        go_roundw
        case rel => exact ⟨j + 1, acc ++ [(p, q)], o2, z2, A9, _, c9, by omega, HN.out, hZ9, hI9, congrArg _ (by omega)⟩
        case measure => (simp [intOf] <;> omega)
    · obtain rfl : j = k := by omega
      have f0 := hI.1.frozen 0
      have f1 := hI.1.frozen 1
      have f2 := hI.1.frozen 2
      have e0 := hI.1.c0
      have e1 := hI.1.c1
      have e2 := hI.1.c2
      cases o with
      | some r =>
        obtain ⟨d0, d1, d2⟩ := (hL.2.1 r rfl).end_
        have hD0 : decE l = 0 := HDk.out.trans d0
        obtain ⟨g1, g2, g3, g4, g5⟩ := HOk.out hD0
        obtain ⟨o3, m, d, hh, hRd⟩ := hZ
        have y0 : wr.cell? ⟨w.heap.size + 1, 0, none⟩ = some (.slice (some ⟨b0, o3, none⟩) m d) := by rw [Lib.cell_of_heap hh]; rfl
        have y1 : wr.cell? ⟨w.heap.size + 1, 1, none⟩ = some (.int .i64 0) := by rw [Lib.cell_of_heap hh]; rfl
        have x0 := hI.2.1.c0
        have x1 := hI.2.1.c1
        have x2 := hI.2.1.c2
        have hm1 := hRd.cap
        have hm2 := hRd.max
        have hmn : (m : Int) ≤ (n : Int) := by have h1 := decR_len l; rw [hln.out, g4, d2, hRd.len] at h1; omega
        have HU : Hid (decN l = (n : Int) - (m : Int)) := Lib.hid (by rw [g5, g4, d2, hln.out, hRd.len])
        obtain ⟨A9, c9, e9, hr9, _⟩ := hI.2.2.1.formN hacc
        injection e9 with e91 e92 e93
        subst e91 e92 e93
        rw [← d1, ← g1] at hr9
        have HF := Lib.hid (DecOut.ok hD0 g2 g3 HU.out (hr9.off3 hI.1 (.slice A' n' c') (.int .i64 (rdN l)) (.int .u64 (rdN (numR l)))) (below_put3 hI.2.2.2.1 (Nat.le_refl _) (.slice A' n' c') (.int .i64 (rdN l)) (.int .u64 (rdN (numR l)))))
        have HP := Lib.hid (hI.1.put3 A' n' c' (rdN l) (rdN (numR l)))
        clear hr9 hI hRd hh d0 d1 d2 hD0 g1 g2 g3 g4 g5 hL
        go_wp2_with fail
        go_region
        go_wp2
        refine bodyPost_ret (results_cell_row3 rfl _ _ w.heap.size _ _ (0, 0) _ rfl HP.out Try.underlying30 rfl (by kernel_rfl)) rfl ?_
        exact HF.out.drew
      | none =>
        have hz := hL.2.2 rfl
        obtain ⟨hE, hz0⟩ := hZ
        have HD : Hid (decE l = z) := Lib.hid (HDk.out.trans hz)
        have HZ := Lib.hid hz0
        obtain ⟨Az, nz, cz, hh⟩ := hE
        have z1 : wr.cell? ⟨w.heap.size + 1, 1, none⟩ = some (.int .i64 z) := by rw [Lib.cell_of_heap hh]; rfl
        have hv1 : (z == 0) = false := beq_false_of_ne hz0
        have hv2 : (z != 0) = true := bne_iff_ne.2 hz0
        have HP := Lib.hid (hI.1.put3 none 0 0 0 0)
        have HF := Lib.hid (DecOut.err HD.out HZ.out (below_put3 hI.2.2.2.1 (Nat.le_refl _) (.slice none 0 0) (.int .i64 0) (.int .u64 0)))
        clear hI hh hL hz hz0
        go_wp2_with fail
        go_region
        go_wp2
        refine bodyPost_ret (results_cell_row3 rfl _ _ w.heap.size _ _ (0, 0) _ rfl HP.out Try.underlying30 rfl (by kernel_rfl)) rfl ?_
        exact HF.out.drew
end Go.Proofs.Ytoaijnpkenflbaa
