/- Package frame's Body and Encode, and their specified results. Conditions: none beyond those typed. -/
import Derived.Test.YtfihaonpifoekaaFrow
import Derived.Test.YtfihaonpifoekaaVappend
namespace Go.Proofs.Ytfihaonpifoekaa
open Go.ChangeShapes Go.WideShapes Go.ChangeAt Go.RowKit
set_option linter.unusedVariables false
set_option linter.unusedSimpArgs false
set_option maxRecDepth 100000

theorem evb_len {l : List Tg} {t x : Int} (h : encE l t = 0) (hx : 0 ≤ x ∧ x ≤ 18446744073709551615) : (evB l t x).length ≤ 8212030 := by
  obtain ⟨h0, h1, hl, ha⟩ := encE_zero h
  have a1 := head3_len l t x ⟨h0, h1⟩ hx (by omega)
  have a2 := tagsB_len l ha
  show (head3 l t x ++ tagsB l).length ≤ 8212030
  rw [List.length_append]; omega
/-- The weights are numbers of 64 bits. -/
def Wts (L : List Ev) : Prop := ∀ e ∈ L, 0 ≤ e.2.2 ∧ e.2.2 ≤ 18446744073709551615
theorem evsB_len_le : ∀ (L : List Ev), Wts L → (∀ e ∈ L, encE e.1 e.2.1 = 0) → (evsB L).length ≤ L.length * 8212030
  | [], _, _ => by simp [evsB]
  | e :: r, hw, h => by
    have ih := evsB_len_le r (fun x hx => hw x (by simp [hx])) fun x hx => h x (by simp [hx])
    have he : (evb e).length ≤ 8212030 := evb_len (h e (by simp)) (hw e (by simp))
    rw [evsB_cons, List.length_append, List.length_cons]
    omega
/-- What stands after k events. -/
def BodyK (L : List Ev) (k : Nat) (r : List Int) : Prop := r = enc L.length ++ evsB (L.take k) ∧ ∀ x ∈ L.take k, encE x.1 x.2.1 = 0
theorem BodyK.zero (L : List Ev) : BodyK L 0 (enc L.length) := ⟨by simp [evsB], fun x hx => by simp at hx⟩
theorem BodyK.next {L : List Ev} {k : Nat} {r : List Int} {l : List Tg} {t x : Int} (h : BodyK L k r) (he : L[k]? = some (l, t, x)) (h0 : encE l t = 0) : BodyK L (k + 1) (r ++ evB l t x) := by
  refine ⟨?_, fun y hy => ?_⟩
  · rw [h.1, evsB_snoc he, List.append_assoc]; rfl
  · rw [List.take_add_one, he] at hy
    rcases List.mem_append.1 hy with hy | hy
    · exact h.2 y hy
    · simp at hy; subst hy; exact h0
theorem BodyK.len {L : List Ev} {k : Nat} {r : List Int} (h : BodyK L k r) (hw : Wts L) (hL : L.length ≤ 64) : r.length ≤ 10 + 64 * 8212030 := by
  have a := evsB_len_le (L.take k) (fun x hx => hw x (List.mem_of_mem_take hx)) h.2
  have b := enc_ten (n := L.length) (by omega)
  rw [h.1, List.length_append]
  rw [List.length_take] at a
  omega
theorem BodyK.err {L : List Ev} {k : Nat} {r : List Int} {l : List Tg} {t x : Int} (h : BodyK L k r) (hl : ¬ (L.length = 0 ∨ 64 < L.length)) (he : L[k]? = some (l, t, x)) (h1 : encE l t ≠ 0) : bdE L = encE l t := by
  have hf := fstE_take he h.2 h1
  rw [bdE_ev hl (by rw [hf]; exact h1), hf]
theorem BodyK.all {L : List Ev} {k : Nat} {r : List Int} (h : BodyK L k r) (hk : L.length ≤ k) : r = bdB L ∧ fstE L = 0 := by
  obtain ⟨h1, h2⟩ := h
  rw [List.take_of_length_le hk] at h1 h2
  exact ⟨h1, fstE_zero h2⟩

/-- What Body gives back (o: the bytes, z: the error). -/
def BodyOut (z : Int) (o : List Int) (w : World) (e : Ending) (w' : World) : Prop :=
  ∃ A n c, e = .returned (.tuple #[.slice A n c, .int .i64 z]) ∧ Rd w' A n c o ∧ Below w.heap.size w w'
theorem BodyOut.err {L : List Ev} {z : Int} {w w' : World} (h : bdE L = z) (hz : z ≠ 0) (hb : Below w.heap.size w w') : BodyOut (bdE L) (bdO L) w (.returned (.tuple #[.slice none 0 0, .int .i64 z])) w' := by
  subst h
  exact ⟨none, 0, 0, rfl, by unfold bdO; rw [if_neg hz]; exact Rd.nil _ _ _ (by simp [maxLen]), hb⟩
theorem BodyOut.ok {L : List Ev} {w w' : World} {v : Value} {base : Nat} (h : bdE L = 0) (hO : Own w' base v (bdB L)) (hb : Below w.heap.size w w') : BodyOut (bdE L) (bdO L) w (.returned (.tuple #[v, .int .i64 0])) w' := by
  obtain ⟨A, n, c, rfl, hr⟩ := hO.form
  exact ⟨A, n, c, by rw [h], by unfold bdO; rw [if_pos h]; exact hr, hb⟩
theorem BodyOut.err' {L : List Ev} {z : Int} {w w' : World} (h : bdE L = z) (hz : z ≠ 0) (hb : Below w.heap.size w w') : BodyOut (bdE L) (frO L) w (.returned (.tuple #[.slice none 0 0, .int .i64 z])) w' := by
  subst h
  exact ⟨none, 0, 0, rfl, by unfold frO; rw [if_neg hz]; exact Rd.nil _ _ _ (by simp [maxLen]), hb⟩
theorem BodyOut.ok' {L : List Ev} {w w' : World} {v : Value} {base : Nat} (h : bdE L = 0) (hO : Own w' base v (enc (bdB L).length ++ bdB L)) (hb : Below w.heap.size w w') : BodyOut (bdE L) (frO L) w (.returned (.tuple #[v, .int .i64 0])) w' := by
  obtain ⟨A, n, c, rfl, hr⟩ := hO.form
  exact ⟨A, n, c, by rw [h], by unfold frO; rw [if_pos h]; exact hr, hb⟩

theorem bdO_ok {L : List Ev} (h : bdE L = 0) : bdO L = bdB L ∧ (bdB L).length ≤ 4096 := by
  refine ⟨if_pos h, ?_⟩
  unfold bdE at h
  split at h
  · cases h
  · split at h
    · rename_i hh; exact absurd h hh
    · split at h
      · cases h
      · omega

set_option maxHeartbeats 1000000 in
theorem rbody_any (A : Option Addr) (n c : Nat) (L : List Ev) (w : World) (hR : RdE w A n c L) (hw : Wts L) :
    Calls Try.prog 28 #[.slice A n c] w (BodyOut (bdE L) (bdO L) w) := by
  have hln := hR.len
  have hmax := hR.max
  have hcap := hR.cap
  by_cases h0 : n = 0
  · subst h0
    have HE := Lib.hid (bdE_num (L := L) (.inl hln))
    go_enter Try.func28, Try.ntmps28
    go_wp2
    go_ret2
    exact BodyOut.err HE.out (by decide) (Below.refl _ _)
  by_cases h64 : 64 < n
  · have HE := Lib.hid (bdE_num (L := L) (.inr (by omega)))
    have h0' : ((n : Int) == 0) = false := beq_false_of_ne (by omega)
    go_enter Try.func28, Try.ntmps28
    go_wp2
    go_ret2
    exact BodyOut.err HE.out (by decide) (Below.refl _ _)
  have hno := Lib.hid (show ¬ (L.length = 0 ∨ 64 < L.length) by omega)
  have hL := Lib.hid hln
  have h0' : ((n : Int) == 0) = false := beq_false_of_ne (by omega)
  have hle : n ≤ 64 := by omega
  have hK0 := BodyK.zero L
  have hten := enc_ten (n := n) (by omega)
  have HW := Lib.hid hw
  clear hln hw
  go_enter Try.func28, Try.ntmps28
  go_wp2_with fail
  refine (rappend_own none 0 0 [] (n : Int) w (Rd.nil _ _ _ (by simp [maxLen])) (by omega) (by omega)).mono ?_
  rintro e w1 ⟨v1, rfl, hO1, hb1⟩
  rw [List.nil_append, Int.toNat_natCast] at hO1
  rw [hL.out] at hK0
  go_wp2
  go_loopw [4, 23] (fun v i W => ∃ (k : Nat) (r : List Int), k ≤ n ∧ Own W w.heap.size v r ∧ BodyK L k r ∧ Below w.heap.size w W ∧ i = .int .i64 k) (fun _ i _ => n - (intOf i).toNat)
  case atStart => exact ⟨0, enc n, by omega, hO1, hK0, hb1, rfl⟩
  case round =>
    clear hO1 hK0 hb1
    obtain ⟨k, r, hk, hO, hK, hb, rfl⟩ := hrel
    have hRw := hR.below hb
    have hz := hb.size
    have hrl := hK.len HW.out (by have := hL.out; omega)
    by_cases hlt : k < n
    · obtain ⟨b, o, A5, n5, c5, l, t, x, rfl, hg, hbl, y0, y1, y2, hT, hn5⟩ := hRw.at_ hlt
      have hx := HW.out _ (List.mem_of_getElem? hg)
      have hx0 : 0 ≤ x ∧ x ≤ 18446744073709551615 := hx
      have hX := EBox.new wr A5 n5 c5 t x
      have z0 := hX.c0
      have z1 := hX.c1
      have z2 := hX.c2
      have hb5 := hb.alloc hz (.cells #[.slice A5 n5 c5, .int .i64 t, .int .u64 x] 66)
      by_cases he : encE l t = 0
      · have HE := Lib.hid he
        have hlen := evb_len he hx0
        have hN := hK.next hg he
        clear he hg hK hx
        go_wp2_with fail
        refine (revent_any _ _ _ l _ _ _ (hT.alloc _) hn5 hx0).mono ?_
        rintro e w6 ⟨A6, n6, c6, rfl, hr6, hb6⟩
        rw [encB_yes HE.out] at hr6
        rw [HE.out]
        have hO6 := (hO.alloc (.cells #[.slice A5 n5 c5, .int .i64 t, .int .u64 x] 66)).below hb6
        have hb7 := below_then hb5 hb6
        have hz7 := hb7.size
        have hl6 := hr6.len
        have g1 : r.length + n6 ≤ 140737488355328 := by omega
        clear hX z0 z1 z2 hb5 hb6 hT hO y0 y1 y2
        go_wp2_with (at_builtin; refine wpList_app rfl (.tmp 35) (.tmp 36) rfl w.heap.size _ r rfl A6 n6 c6 (evB l t x) rfl hO6 hr6 g1 hz7 ?_; intro v8 w8 hO8 hg8 _; have hb8 := Below.app hb7 hO6 hg8 hz7 (Nat.le_refl _))
        go_roundw
        case rel => exact ⟨k + 1, _, by omega, hO8, hN, hb8, by go_num⟩
        case measure => (simp [intOf] <;> omega)
      · have HE := Lib.hid (hK.err hno.out hg he)
        have HZ := Lib.hid he
        have hv1 : (encE l t == 0) = false := beq_false_of_ne he
        have hv2 : (encE l t != 0) = true := bne_iff_ne.2 he
        clear he hg hK hx
        go_wp2_with fail
        refine (revent_any _ _ _ l _ _ _ (hT.alloc _) hn5 hx0).mono ?_
        rintro e w6 ⟨A6, n6, c6, rfl, hr6, hb6⟩
        have hb7 := below_then hb5 hb6
        clear hX z0 z1 z2 hb5 hb6 hT hO y0 y1 y2
        go_wp2
        go_ret2
        exact BodyOut.err HE.out HZ.out hb7
    · obtain ⟨rfl, hf⟩ := hK.all (by have := hL.out; omega)
      have HF := Lib.hid hf
      obtain ⟨A6, n6, c6, rfl, hr6⟩ := hO.form
      have hl6 := hr6.len
      have hm6 := hr6.max
      clear hf
      by_cases h4 : 4096 < n6
      · have HE := Lib.hid (bdE_long hno.out HF.out (by omega))
        clear hl6
        go_wp2
        go_ret2
        exact BodyOut.err HE.out (by decide) hb
      · have HE := Lib.hid (bdE_ok hno.out HF.out (by omega))
        clear hl6
        go_wp2
        go_ret2
        exact BodyOut.ok HE.out hO hb

set_option maxHeartbeats 1000000 in
theorem rframe_any (A : Option Addr) (n c : Nat) (L : List Ev) (w : World) (hR : RdE w A n c L) (hw : Wts L) :
    Calls Try.prog 20 #[.slice A n c] w (BodyOut (bdE L) (frO L) w) := by
  by_cases h0 : bdE L = 0
  · have H0 := Lib.hid h0
    have HB := Lib.hid (bdO_ok h0)
    clear h0
    go_enter Try.func20, Try.ntmps20
    go_wp2_with fail
    refine (rbody_any _ _ _ L _ hR hw).mono ?_
    rintro e w1 ⟨A1, n1, c1, rfl, hr1, hb1⟩
    rw [HB.out.1] at hr1
    rw [H0.out]
    have hl1 := hr1.len
    have hn1 : n1 ≤ 4096 := by have := HB.out.2; omega
    have HL := Lib.hid hl1
    clear hl1
    go_wp2_with (first | (go_at_call 16; refine (rappend_own none 0 0 [] (n1 : Int) w1 (Rd.nil _ _ _ (by simp [maxLen])) (by omega) (by omega)).mono ?_; rintro e w2 ⟨v2, rfl, hO2, hb2⟩; rw [List.nil_append, Int.toNat_natCast] at hO2; have hr2 := hr1.below hb2; have hb3 := below_then hb1 hb2; have g1 : (enc n1).length + n1 ≤ 140737488355328 := by have := enc_ten (n := n1) (by omega); omega) | (at_builtin; refine wpList_app rfl (.tmp 17) (.tmp 18) rfl w1.heap.size v2 (enc n1) rfl A1 n1 c1 (bdB L) rfl hO2 hr2 g1 hb2.size ?_; intro v4 w4 hO4 hg4 _; have hb4 := Below.app hb3 (hO2.weaken hb1.size) hg4 hb3.size (Nat.le_refl _)))
    go_ret2
    rw [← HL.out] at hO4
    exact BodyOut.ok' H0.out hO4 hb4
  · have H0 := Lib.hid h0
    have hv1 : (bdE L == 0) = false := beq_false_of_ne h0
    have hv2 : (bdE L != 0) = true := bne_iff_ne.2 h0
    clear h0
    go_enter Try.func20, Try.ntmps20
    go_wp2_with fail
    refine (rbody_any _ _ _ L _ hR hw).mono ?_
    rintro e w1 ⟨A1, n1, c1, rfl, hr1, hb1⟩
    go_wp2
    go_ret2
    exact BodyOut.err' rfl H0.out hb1
end Go.Proofs.Ytfihaonpifoekaa
