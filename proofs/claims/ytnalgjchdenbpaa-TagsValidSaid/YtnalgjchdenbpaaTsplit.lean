/- tags.cut, tags.Split and heavykeysref01.Split. Conditions: none beyond those typed. -/
import Derived.Test.YtnalgjchdenbpaaTkey
import Derived.Test.YtnalgjchdenbpaaTsame
namespace Go.Proofs.Ytnalgjchdenbpaa
open Go.ChangeShapes Go.WideShapes Go.ChangeAt Go.RowKit
set_option linter.unusedVariables false
set_option linter.unusedSimpArgs false

/-- What cut gives back. -/
def CutOut (s : ByteArray) (w : World) (e : Ending) (w' : World) : Prop :=
  match cutT s.data.toList with
  | none => e = .returned (.tuple #[.slice none 0 0, .bool false]) ∧ Below w.heap.size w w'
  | some l => ∃ A n c, e = .returned (.tuple #[.slice A n c, .bool true]) ∧ RdT w' A n c l ∧ n ≤ 1000 ∧ Below w.heap.size w w'
theorem CutOut.no {s : ByteArray} {w w' : World} (h : cutT s.data.toList = none) (hb : Below w.heap.size w w') : CutOut s w (.returned (.tuple #[.slice none 0 0, .bool false])) w' := by
  unfold CutOut; rw [h]; exact ⟨rfl, hb⟩
theorem CutOut.yes {s : ByteArray} {w w' : World} {l : List Tg} {A : Option Addr} {n c : Nat} (h : cutT s.data.toList = some l) (hr : RdT w' A n c l) (hn : n ≤ 1000) (hb : Below w.heap.size w w') :
    CutOut s w (.returned (.tuple #[.slice A n c, .bool true])) w' := by
  unfold CutOut; rw [h]; exact ⟨A, n, c, rfl, hr, hn, hb⟩

/-- Of s the tags acc are cut off, and r is left. -/
def CutAt (s : ByteArray) (acc : List Tg) (r : ByteArray) : Prop :=
  cutT s.data.toList = (cutT r.data.toList).map (acc ++ ·) ∧ acc.length * 2 + r.size ≤ s.size
theorem CutAt.start (s : ByteArray) : CutAt s [] s := ⟨by cases cutT s.data.toList <;> rfl, by simp⟩
theorem fld_size {s a : ByteArray} {r : List UInt8} (h : fld s.data.toList = some (a, r)) : r.length + 1 ≤ s.size ∧ a.size ≤ s.size := by
  have h1 := fld_lt h
  obtain ⟨h0, h2, h3, h4⟩ := fld_inv h
  rw [← ba_size] at h1
  refine ⟨h1, ?_⟩
  rw [h3, ByteArray.size_extract]; omega
theorem CutAt.none1 {s r : ByteArray} {acc : List Tg} (h : CutAt s acc r) (h0 : r.toList.isEmpty = false) (hf : fld r.data.toList = none) : cutT s.data.toList = none := by
  rw [h.1, cutT_none1 _ hf]; rfl
  rw [Lib.toList_data] at h0
  intro e; rw [e] at h0; cases h0
theorem CutAt.none2 {s r a : ByteArray} {q : List UInt8} {acc : List Tg} (h : CutAt s acc r) (hf : fld r.data.toList = some (a, q)) (hf2 : fld q = none) : cutT s.data.toList = none := by
  rw [h.1, cutT_none2 hf hf2]; rfl
theorem CutAt.next {s r a b : ByteArray} {q v : List UInt8} {acc : List Tg} (h : CutAt s acc r) (hf : fld r.data.toList = some (a, q)) (hf2 : fld q = some (b, v)) : CutAt s (acc ++ [(a, b)]) ⟨v.toArray⟩ := by
  have h1 := (fld_size hf).1
  have h2 := fld_lt hf2
  refine ⟨?_, ?_⟩
  · rw [h.1, cutT_some hf hf2]
    show _ = (cutT v).map _
    cases cutT v <;> simp
  · have := h.2
    have e : (⟨v.toArray⟩ : ByteArray).size = v.length := by simp [ByteArray.size]
    rw [e, List.length_append, List.length_singleton]
    omega
theorem CutAt.end_ {s r : ByteArray} {acc : List Tg} (h : CutAt s acc r) (h0 : r.toList.isEmpty = true) : cutT s.data.toList = some acc := by
  have : r.data.toList = [] := by rw [← Lib.toList_data]; exact List.isEmpty_iff.1 h0
  rw [h.1, this, cutT_nil]; simp

theorem ba_mk (q : List UInt8) : (⟨q.toArray⟩ : ByteArray).size = q.length ∧ (⟨q.toArray⟩ : ByteArray).data.toList = q := ⟨by rw [ba_size], rfl⟩
theorem Box.set0 {w : World} {g : Nat} {p q : ByteArray} (h : Box w g p q) (a : ByteArray) : Box (w.setCell ⟨g, 0, none⟩ (.string a)) g a q := by
  unfold Box at *; simp [World.setCell, Array.getElem?_modify, h]
theorem Box.set1 {w : World} {g : Nat} {p q : ByteArray} (h : Box w g p q) (a : ByteArray) : Box (w.setCell ⟨g, 1, none⟩ (.string a)) g p a := by
  unfold Box at *; simp [World.setCell, Array.getElem?_modify, h]
theorem Box.frozen {w : World} {g : Nat} {p q : ByteArray} (h : Box w g p q) (i : Nat) : w.frozen? ⟨g, i, none⟩ = false := by
  unfold Box at h; simp [World.frozen?, h]
theorem Box.lt {w : World} {g : Nat} {p q : ByteArray} (h : Box w g p q) : g < w.heap.size := World.block_lt_of_cell? _ ⟨g, 0, none⟩ h.c0
theorem OwnT.far {w w' : World} {base g : Nat} {v : Value} {l : List Tg} (h : OwnT w base v l) (hw : w.grownBy w' (some g)) (hg : w.heap.size ≤ g) : OwnT w' base v l :=
  ⟨h.1.kept (row := some g) hw (by
    cases hv : v.ownBlock with
    | none => exact .inl rfl
    | some k => have := (h.lt k hv).2; exact .inr (fun e => by injection e with e; omega)), h.2⟩

set_option maxRecDepth 100000 in
set_option maxHeartbeats 1000000 in
theorem cut_any (s : ByteArray) (w : World) (hs : s.size ≤ 255) :
    Calls Try.prog 31 #[.string s] w (CutOut s w) := by
  go_enter Try.func31, Try.ntmps31
  go_wp2
  go_loopw [0, 2] (fun x v W => ∃ (r : ByteArray) (acc : List Tg), x = .string r ∧ CutAt s acc r ∧ OwnT W w.heap.size v acc ∧ Below w.heap.size w W) (fun x _ _ => match x with | .string r => r.size | _ => 0)
  case atStart => exact ⟨s, [], rfl, CutAt.start s, OwnT.none_ _ _, Below.refl _ _⟩
  case round =>
    obtain ⟨r, acc, rfl, hC, hO, hb⟩ := hrel
    have hz := hb.size
    have hrs : acc.length * 2 + r.size ≤ s.size := hC.2
    cases h0 : r.toList.isEmpty
    · cases hf : fld r.data.toList with
      | none =>
        have HN := Lib.hid (hC.none1 h0 hf)
        go_wp2_with fail
        refine (field_none _ _ (by omega) hf).mono ?_
        rintro e w1 ⟨rfl, rfl⟩
        clear hf
        go_wp2
        go_ret2
        exact CutOut.no HN.out (hb.alloc hz _)
      | some x =>
        obtain ⟨a, q⟩ := x
        have hq := (fld_size hf).1
        have ha := (fld_size hf).2
        go_wp2_with fail
        refine (field_some _ _ _ _ (by omega) hf).mono ?_
        rintro e w1 ⟨rfl, m, rfl⟩
        have HF := Lib.hid hf
        clear hf
        obtain ⟨hqs, hqd⟩ := ba_mk q
        generalize hQ : (⟨q.toArray⟩ : ByteArray) = Q at *
        subst hqd
        clear hQ
        have B1 : Box ((wr.alloc (.cells #[.string ⟨#[]⟩, .string ⟨#[]⟩] 24)).drewN m) wr.heap.size ⟨#[]⟩ ⟨#[]⟩ := Box.new wr _ _
        have G1 : wr.grownBy ((wr.alloc (.cells #[.string ⟨#[]⟩, .string ⟨#[]⟩] 24)).drewN m) (some wr.heap.size) := grow_drewN (World.grownBy_alloc _ _ _) m
        generalize hW1 : (wr.alloc (.cells #[.string ⟨#[]⟩, .string ⟨#[]⟩] 24)).drewN m = W1 at *
        clear hW1
        have f0 := B1.frozen 0
        have c0 := B1.c0
        go_wp2_with fail
        have B2 := B1.set0 a
        have G2 := grow_set G1 0 (.string a)
        clear f0 c0 B1 G1
        generalize hW2 : W1.setCell ⟨wr.heap.size, 0, none⟩ (.string a) = W2 at *
        clear hW2
        cases hf2 : fld Q.data.toList with
        | none =>
          have HN := Lib.hid (hC.none2 HF.out hf2)
          refine (field_none _ _ (by omega) hf2).mono ?_
          rintro e w1 ⟨rfl, rfl⟩
          clear hf2
          have f0 := B2.frozen 1
          have c0 := B2.c1
          have hB : Below w.heap.size w (W2.setCell ⟨wr.heap.size, 1, none⟩ (.string ⟨#[]⟩)) := hb.grown (grow_set G2 1 _) hz (fun k hk => by injection hk with hk; omega)
          clear hC hO B2 G2
          go_wp2
          go_ret2
          exact CutOut.no HN.out hB
        | some y =>
          obtain ⟨d, v⟩ := y
          have hq2 := (fld_size hf2).1
          have hd2 := (fld_size hf2).2
          have HX := Lib.hid (hC.next HF.out hf2)
          refine (field_some _ _ _ _ (by omega) hf2).mono ?_
          rintro e w1 ⟨rfl, m2, rfl⟩
          clear hf2 HF hC
          obtain ⟨hvs, _⟩ := ba_mk v
          generalize hV : (⟨v.toArray⟩ : ByteArray) = V at *
          clear hV
          have B3 : Box (W2.drewN m2) wr.heap.size a ⟨#[]⟩ := B2
          have G3 := grow_drewN G2 m2
          generalize hW3 : W2.drewN m2 = W3 at *
          clear hW3
          have f0 := B3.frozen 1
          have c0 := B3.c1
          have B4 := B3.set1 d
          have G4 := grow_set G3 1 (.string d)
          have k0 := B4.c0
          have k1 := B4.c1
          have hB : Below w.heap.size w (W3.setCell ⟨wr.heap.size, 1, none⟩ (.string d)) := hb.grown G4 hz (fun k hk => by injection hk with hk; omega)
          have hO4 := hO.far G4 (Nat.le_refl _)
          have hz4 : w.heap.size ≤ W3.heap.size := by have := hB.size; simpa using this
          clear hO B2 B3 G2 G3 G4
          go_wp2_with (at_builtin; refine wpList_appT rfl (.tmp 25) (.tmp 27) rfl w.heap.size _ acc rfl _ 1 1 [(a, d)] rfl (hO4.alloc _) (RdT.one' (by simp) ⟨by omega, by omega⟩) (by simp; omega) (by simp; omega) ?_; intro v' w' hO' hg' _)
          have hB5 : Below w.heap.size w w' := (hB.alloc hB.size _).grown hg' (by simp; omega) (fun k hk => (hO4.lt k hk).1)
          go_roundw
          case rel => exact ⟨V, _, rfl, HX.out, hO', hB5⟩
          case measure => simp; omega
    · have HE := Lib.hid (hC.end_ h0)
      have hl : acc.length ≤ 1000 := by omega
      obtain ⟨A, c, rfl, hr, _⟩ := hO.form
      have HL : Hid (∀ n, n = acc.length → RdT wr A n c acc) := Lib.hid (fun n e => e ▸ hr)
      clear hr hO hC
      go_wp2
      go_ret2
      exact CutOut.yes HE.out (HL.out _ rfl) hl hb

/-- What Split gives back. -/
def SplitOut (s : ByteArray) (w : World) (e : Ending) (w' : World) : Prop :=
  ∃ A n c, e = .returned (.tuple #[.slice A n c, .int .i64 (splitErr s)]) ∧ n ≤ 1000 ∧ RdT w' A n c (splitT s) ∧ Below w.heap.size w w'
theorem SplitOut.err {s : ByteArray} {w w' : World} {z : Int} (h : splitErr s = z ∧ splitT s = []) (hb : Below w.heap.size w w') :
    SplitOut s w (.returned (.tuple #[.slice none 0 0, .int .i64 z])) w' :=
  ⟨none, 0, 0, by rw [h.1], by omega, by rw [h.2]; exact RdT.none_ w', hb⟩
theorem SplitOut.ok {s : ByteArray} {l : List Tg} {w w' : World} {A : Option Addr} {n c : Nat} (h : splitErr s = 0 ∧ splitT s = l) (hr : RdT w' A n c l) (hn : n ≤ 1000) (hb : Below w.heap.size w w') :
    SplitOut s w (.returned (.tuple #[.slice A n c, .int .i64 0])) w' :=
  ⟨A, n, c, by rw [h.1], hn, by rw [h.2]; exact hr, hb⟩
theorem split_long {s : ByteArray} (h : 255 < s.size) : splitErr s = 4 ∧ splitT s = [] := by
  have e : splitErr s = 4 := by unfold splitErr; rw [if_pos h]
  exact ⟨e, by unfold splitT; rw [e, if_neg (by decide)]⟩
theorem split_none {s : ByteArray} (h : s.size ≤ 255) (hc : cutT s.data.toList = none) : splitErr s = 3 ∧ splitT s = [] := by
  have e : splitErr s = 3 := by unfold splitErr; rw [if_neg (by omega), hc]
  exact ⟨e, by unfold splitT; rw [e, if_neg (by decide)]⟩
theorem split_ok {s : ByteArray} {l : List Tg} (h : s.size ≤ 255) (hc : cutT s.data.toList = some l) (h0 : keyErr l = 0) (hk : ((keyBy l).toList == s.toList) = true) : splitErr s = 0 ∧ splitT s = l := by
  have hk' := str_eq (beq_iff_eq.1 hk)
  have e : splitErr s = 0 := by unfold splitErr; rw [if_neg (by omega), hc]; simp only; rw [if_pos ⟨h0, hk'⟩]
  exact ⟨e, by unfold splitT; rw [e, if_pos rfl, hc]; rfl⟩
theorem split_bad1 {s : ByteArray} {l : List Tg} (h : s.size ≤ 255) (hc : cutT s.data.toList = some l) (h0 : keyErr l ≠ 0) : splitErr s = 3 ∧ splitT s = [] := by
  have e : splitErr s = 3 := by unfold splitErr; rw [if_neg (by omega), hc]; simp only; rw [if_neg (fun a => h0 a.1)]
  exact ⟨e, by unfold splitT; rw [e, if_neg (by decide)]⟩
theorem split_bad2 {s : ByteArray} {l : List Tg} (h : s.size ≤ 255) (hc : cutT s.data.toList = some l) (hk : ((keyBy l).toList == s.toList) = false) : splitErr s = 3 ∧ splitT s = [] := by
  have hk' : keyBy l ≠ s := fun e => by rw [e] at hk; simp at hk
  have e : splitErr s = 3 := by unfold splitErr; rw [if_neg (by omega), hc]; simp only; rw [if_neg (fun a => hk' a.2)]
  exact ⟨e, by unfold splitT; rw [e, if_neg (by decide)]⟩
theorem CutOut.getNone {s : ByteArray} {w w' : World} {e : Ending} (h : CutOut s w e w') (hc : cutT s.data.toList = none) : e = .returned (.tuple #[.slice none 0 0, .bool false]) ∧ Below w.heap.size w w' := by
  unfold CutOut at h; rw [hc] at h; exact h
theorem CutOut.getSome {s : ByteArray} {w w' : World} {e : Ending} {l : List Tg} (h : CutOut s w e w') (hc : cutT s.data.toList = some l) :
    ∃ A n c, e = .returned (.tuple #[.slice A n c, .bool true]) ∧ RdT w' A n c l ∧ n ≤ 1000 ∧ Below w.heap.size w w' := by
  unfold CutOut at h; rw [hc] at h; exact h

set_option maxRecDepth 100000 in
set_option maxHeartbeats 1000000 in
theorem split_any (s : ByteArray) (w : World) (hs : s.size ≤ 140737488355328) :
    Calls Try.prog 19 #[.string s] w (SplitOut s w) := by
  by_cases hl : s.size ≤ 255
  · cases hc : cutT s.data.toList with
    | none =>
      have HE := Lib.hid (split_none hl hc)
      have HC := Lib.hid hc
      clear hc
      go_enter Try.func19, Try.ntmps19
      go_wp2_with fail
      refine (cut_any s _ hl).mono ?_
      rintro e w1 h
      obtain ⟨rfl, hb⟩ := h.getNone HC.out
      go_wp2
      go_ret2
      exact SplitOut.err HE.out hb
    | some l =>
      have HC := Lib.hid hc
      by_cases h0 : keyErr l = 0
      · have H0 := Lib.hid h0
        cases hk : (keyBy l).toList == s.toList
        · have HE := Lib.hid (split_bad2 hl hc hk)
          clear hc h0
          go_enter Try.func19, Try.ntmps19
          go_wp2_with fail
          refine (cut_any s _ hl).mono ?_
          rintro e w1 h
          obtain ⟨A, n, c, rfl, hr, hn, hb⟩ := h.getSome HC.out
          go_wp2_with fail
          refine (key_any _ _ _ _ _ hr hn).mono ?_
          rintro e w2 ⟨rfl, hb2⟩
          rw [H0.out]
          have hb3 := hb.trans (hb2.mono hb.size)
          go_wp2
          go_ret2
          exact SplitOut.err HE.out hb3
        · have HE := Lib.hid (split_ok hl hc h0 hk)
          clear hc h0
          go_enter Try.func19, Try.ntmps19
          go_wp2_with fail
          refine (cut_any s _ hl).mono ?_
          rintro e w1 h
          obtain ⟨A, n, c, rfl, hr, hn, hb⟩ := h.getSome HC.out
          go_wp2_with fail
          refine (key_any _ _ _ _ _ hr hn).mono ?_
          rintro e w2 ⟨rfl, hb2⟩
          rw [H0.out]
          have hb3 := hb.trans (hb2.mono hb.size)
          have hr2 := hr.below hb2
          go_wp2
          go_ret2
          exact SplitOut.ok HE.out hr2 hn hb3
      · have HE := Lib.hid (split_bad1 hl hc h0)
        have hv1 : (keyErr l == 0) = false := beq_false_of_ne h0
        have hv2 : (keyErr l != 0) = true := bne_iff_ne.2 h0
        clear hc h0
        go_enter Try.func19, Try.ntmps19
        go_wp2_with fail
        refine (cut_any s _ hl).mono ?_
        rintro e w1 h
        obtain ⟨A, n, c, rfl, hr, hn, hb⟩ := h.getSome HC.out
        go_wp2_with fail
        refine (key_any _ _ _ _ _ hr hn).mono ?_
        rintro e w2 ⟨rfl, hb2⟩
        have hb3 := hb.trans (hb2.mono hb.size)
        go_wp2
        go_ret2
        exact SplitOut.err HE.out hb3
  · have HE := Lib.hid (split_long (s := s) (by omega))
    go_enter Try.func19, Try.ntmps19
    go_wp2
    go_ret2
    exact SplitOut.err HE.out (Below.refl _ _)

theorem fld_nil : fld (⟨#[]⟩ : ByteArray).data.toList = none := rfl

set_option maxRecDepth 100000 in
set_option maxHeartbeats 2000000 in
theorem rsplit_any (s : ByteArray) (w : World) (hs : s.size ≤ 140737488355328) :
    Calls Try.prog 20 #[.string s] w (SplitOut s w) := by
  by_cases hl : s.size ≤ 255
  · go_enter Try.func20, Try.ntmps20
    go_wp2
    go_loopw [4, 5] (fun v x W => ∃ (r : ByteArray) (acc : List Tg), x = .string r ∧ CutAt s acc r ∧ OwnT W w.heap.size v acc ∧ Below w.heap.size w W) (fun _ x _ => match x with | .string r => r.size | _ => 0)
    case atStart => exact ⟨s, [], rfl, CutAt.start s, OwnT.none_ _ _, Below.refl _ _⟩
    case round =>
      obtain ⟨r, acc, rfl, hC, hO, hb⟩ := hrel
      have hz := hb.size
      have hrs : acc.length * 2 + r.size ≤ s.size := hC.2
      cases h0 : r.toList.isEmpty
      · cases hf : fld r.data.toList with
        | none =>
          have HN := Lib.hid (hC.none1 h0 hf)
          go_wp2_with fail
          refine (part_none _ _ (by omega) hf).mono ?_
          rintro e w1 ⟨rfl, rfl⟩
          have HE := Lib.hid (split_none hl HN.out)
          clear hf hC hO
          go_wp2_with fail
          refine (part_none _ _ (by decide) fld_nil).mono ?_
          rintro e w1 ⟨rfl, rfl⟩
          go_wp2
          go_ret2
          exact SplitOut.err HE.out (hb.alloc hz _)
        | some x =>
          obtain ⟨a, q⟩ := x
          have hq := (fld_size hf).1
          have ha := (fld_size hf).2
          go_wp2_with fail
          refine (part_some _ _ _ _ (by omega) hf).mono ?_
          rintro e w1 ⟨rfl, m, rfl⟩
          have HF := Lib.hid hf
          clear hf
          obtain ⟨hqs, hqd⟩ := ba_mk q
          generalize hQ : (⟨q.toArray⟩ : ByteArray) = Q at *
          subst hqd
          clear hQ
          have B1 : Box ((wr.alloc (.cells #[.string ⟨#[]⟩, .string ⟨#[]⟩] 24)).drewN m) wr.heap.size ⟨#[]⟩ ⟨#[]⟩ := Box.new wr _ _
          have G1 : wr.grownBy ((wr.alloc (.cells #[.string ⟨#[]⟩, .string ⟨#[]⟩] 24)).drewN m) (some wr.heap.size) := grow_drewN (World.grownBy_alloc _ _ _) m
          generalize hW1 : (wr.alloc (.cells #[.string ⟨#[]⟩, .string ⟨#[]⟩] 24)).drewN m = W1 at *
          clear hW1
          have f0 := B1.frozen 0
          have c0 := B1.c0
          go_wp2_with fail
          have B2 := B1.set0 a
          have G2 := grow_set G1 0 (.string a)
          clear f0 c0 B1 G1
          generalize hW2 : W1.setCell ⟨wr.heap.size, 0, none⟩ (.string a) = W2 at *
          clear hW2
          cases hf2 : fld Q.data.toList with
          | none =>
            have HN := Lib.hid (hC.none2 HF.out hf2)
            refine (part_none _ _ (by omega) hf2).mono ?_
            rintro e w1 ⟨rfl, rfl⟩
            clear hf2
            have f0 := B2.frozen 1
            have c0 := B2.c1
            have hB : Below w.heap.size w (W2.setCell ⟨wr.heap.size, 1, none⟩ (.string ⟨#[]⟩)) := hb.grown (grow_set G2 1 _) hz (fun k hk => by injection hk with hk; omega)
            have HE := Lib.hid (split_none hl HN.out)
            clear hC hO B2 G2
            go_wp2
            go_ret2
            exact SplitOut.err HE.out hB
          | some y =>
            obtain ⟨d, v⟩ := y
            have hq2 := (fld_size hf2).1
            have hd2 := (fld_size hf2).2
            have HX := Lib.hid (hC.next HF.out hf2)
            refine (part_some _ _ _ _ (by omega) hf2).mono ?_
            rintro e w1 ⟨rfl, m2, rfl⟩
            clear hf2 HF hC
            obtain ⟨hvs, _⟩ := ba_mk v
            generalize hV : (⟨v.toArray⟩ : ByteArray) = V at *
            clear hV
            have B3 : Box (W2.drewN m2) wr.heap.size a ⟨#[]⟩ := B2
            have G3 := grow_drewN G2 m2
            generalize hW3 : W2.drewN m2 = W3 at *
            clear hW3
            have f0 := B3.frozen 1
            have c0 := B3.c1
            have B4 := B3.set1 d
            have G4 := grow_set G3 1 (.string d)
            have k0 := B4.c0
            have k1 := B4.c1
            have hB : Below w.heap.size w (W3.setCell ⟨wr.heap.size, 1, none⟩ (.string d)) := hb.grown G4 hz (fun k hk => by injection hk with hk; omega)
            have hO4 := hO.far G4 (Nat.le_refl _)
            have hz4 : w.heap.size ≤ W3.heap.size := by have := hB.size; simpa using this
            clear hO B2 B3 G2 G3 G4
            go_wp2_with (at_builtin; refine wpList_appT rfl (.tmp 37) (.tmp 39) rfl w.heap.size _ acc rfl _ 1 1 [(a, d)] rfl (hO4.alloc _) (RdT.one' (by simp) ⟨by omega, by omega⟩) (by simp; omega) (by simp; omega) ?_; intro v' w' hO' hg' _)
            have hB5 : Below w.heap.size w w' := (hB.alloc hB.size _).grown hg' (by simp; omega) (fun k hk => (hO4.lt k hk).1)
            go_roundw
            case rel => exact ⟨V, _, rfl, HX.out, hO', hB5⟩
            case measure => simp; omega
      · have hc := hC.end_ h0
        have HC := Lib.hid hc
        have hl2 : acc.length ≤ 1000 := by omega
        obtain ⟨A, c, rfl, hr, _⟩ := hO.form
        generalize hn : acc.length = n at *
        clear hO hC hn
        by_cases h0 : keyErr acc = 0
        · have H0 := Lib.hid h0
          cases hk : (keyBy acc).toList == s.toList
          · have HE := Lib.hid (split_bad2 hl hc hk)
            clear hc h0
            go_wp2_with fail
            refine (rkey_any _ _ _ _ _ hr hl2).mono ?_
            rintro e w2 ⟨rfl, hb2⟩
            rw [H0.out]
            have hb3 := hb.trans (hb2.mono hb.size)
            go_wp2
            go_ret2
            exact SplitOut.err HE.out hb3
          · have HE := Lib.hid (split_ok hl hc h0 hk)
            clear hc h0
            go_wp2_with fail
            refine (rkey_any _ _ _ _ _ hr hl2).mono ?_
            rintro e w2 ⟨rfl, hb2⟩
            rw [H0.out]
            have hb3 := hb.trans (hb2.mono hb.size)
            have hr2 := hr.below hb2
            go_wp2
            go_ret2
            exact SplitOut.ok HE.out hr2 hl2 hb3
        · have HE := Lib.hid (split_bad1 hl hc h0)
          have hv1 : (keyErr acc == 0) = false := beq_false_of_ne h0
          have hv2 : (keyErr acc != 0) = true := bne_iff_ne.2 h0
          clear hc h0
          go_wp2_with fail
          refine (rkey_any _ _ _ _ _ hr hl2).mono ?_
          rintro e w2 ⟨rfl, hb2⟩
          have hb3 := hb.trans (hb2.mono hb.size)
          go_wp2
          go_ret2
          exact SplitOut.err HE.out hb3
  · have HE := Lib.hid (split_long (s := s) (by omega))
    go_enter Try.func20, Try.ntmps20
    go_wp2
    go_ret2
    exact SplitOut.err HE.out (Below.refl _ _)
end Go.Proofs.Ytnalgjchdenbpaa
