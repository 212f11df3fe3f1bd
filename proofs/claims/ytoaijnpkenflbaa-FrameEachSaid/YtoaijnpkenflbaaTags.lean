/- tags.Sort: the sorted tags, or the first error. Conditions: none beyond those typed. -/
import Derived.Test.YtoaijnpkenflbaaTown
namespace Go.Proofs.Ytoaijnpkenflbaa
open Go.ChangeShapes Go.WideShapes Go.ChangeAt Go.RowKit
set_option linter.unusedVariables false
set_option maxRecDepth 100000
set_option linter.unusedSimpArgs false

def AllOk (l : List Tg) (k : Nat) : Prop := ∀ x ∈ l.take k, vErr x = 0
theorem AllOk.zero (l : List Tg) : AllOk l 0 := fun x hx => by simp at hx
theorem AllOk.succ {l : List Tg} {k : Nat} {t : Tg} (h : AllOk l k) (ht : l[k]? = some t) (hv : vErr t = 0) : AllOk l (k + 1) := by
  intro x hx
  rw [List.take_add_one, ht] at hx
  rcases List.mem_append.1 hx with hx | hx
  · exact h x hx
  · simp at hx; subst hx; exact hv
theorem AllOk.all {l : List Tg} {k : Nat} (h : AllOk l k) (hl : l.length ≤ k) : ∀ x ∈ l, vErr x = 0 := by
  intro x hx
  exact h x (by rwa [List.take_of_length_le hl])
theorem sortErr_len {l : List Tg} (h : l.length = 0 ∨ l.length > 8) : sortErr l = 5 ∧ sortT l = [] := by
  have e : sortErr l = 5 := by unfold sortErr; rw [if_pos h]
  exact ⟨e, by unfold sortT; rw [e, if_neg (by decide)]⟩
theorem sortErr_bad {l : List Tg} {k : Nat} {t : Tg} (h1 : 0 < l.length) (h2 : l.length ≤ 8) (h : AllOk l k) (ht : l[k]? = some t) (hv : vErr t ≠ 0) : sortErr l = vErr t ∧ sortT l = [] := by
  have hf := fErr_take ht h hv
  have e : sortErr l = vErr t := by
    unfold sortErr; rw [if_neg (by omega), hf, if_neg hv]
  exact ⟨e, by unfold sortT; rw [e, if_neg hv]⟩
theorem sortErr_dup {l : List Tg} {k : Nat} (h1 : 0 < l.length) (h2 : l.length ≤ 8) (h : AllOk l k) (hk : l.length ≤ k) (hd : dup l = true) : sortErr l = 5 ∧ sortT l = [] := by
  have hf := fErr_zero.2 (h.all hk)
  have e : sortErr l = 5 := by
    unfold sortErr; rw [if_neg (by omega), if_pos hf, if_pos hd]
  exact ⟨e, by unfold sortT; rw [e, if_neg (by decide)]⟩
theorem sortErr_ok {l : List Tg} {k : Nat} (h1 : 0 < l.length) (h2 : l.length ≤ 8) (h : AllOk l k) (hk : l.length ≤ k) (hd : dup l = false) : sortErr l = 0 ∧ sortT l = srt l := by
  have hf := fErr_zero.2 (h.all hk)
  have e : sortErr l = 0 := by
    unfold sortErr; rw [if_neg (by omega), if_pos hf, if_neg (by rw [hd]; decide)]
  exact ⟨e, by unfold sortT; rw [if_pos e]⟩
theorem sortT_len (l : List Tg) : (sortT l).length ≤ 8 := by
  unfold sortT
  split
  · rename_i h; rw [srt_length]; exact (sortErr_zero.1 h).1.2
  · simp

/-- What Sort gives back. -/
def SortOut (l : List Tg) (w : World) (e : Ending) (w' : World) : Prop :=
  ∃ A n c, e = .returned (.tuple #[.slice A n c, .int .i64 (sortErr l)]) ∧ n ≤ 8 ∧ RdT w' A n c (sortT l) ∧ Below w.heap.size w w'
theorem SortOut.err {l : List Tg} {w w' : World} {z : Int} (h : sortErr l = z ∧ sortT l = []) (hb : Below w.heap.size w w') :
    SortOut l w (.returned (.tuple #[.slice none 0 0, .int .i64 z])) w' :=
  ⟨none, 0, 0, by rw [h.1], by omega, by rw [h.2]; exact RdT.none_ w', hb⟩
theorem SortOut.ok {l : List Tg} {w w' : World} {g n c : Nat} (h : sortErr l = 0 ∧ sortT l = srt l) (hr : Row w' g c (srt l)) (hn : n = l.length) (hn8 : n ≤ 8) (hb : Below w.heap.size w w') :
    SortOut l w (.returned (.tuple #[.slice (some ⟨g, 0, none⟩) n c, .int .i64 0])) w' := by
  refine ⟨_, n, c, by rw [h.1], hn8, ?_, hb⟩
  have := hr.rd
  rw [srt_length] at this
  rw [h.2, hn]; exact this

set_option maxHeartbeats 1000000 in
theorem sort_any (A : Option Addr) (n c : Nat) (l : List Tg) (w : World) (hR : RdT w A n c l) (hn : n ≤ 1000) :
    Calls Try.prog 53 #[.slice A n c] w (SortOut l w) := by
  have hln := hR.len
  by_cases h0 : n = 0
  · have HE := Lib.hid (sortErr_len (l := l) (.inl (by omega)))
    have hd : ((n : Int) == 0) = true := by simp [h0]
    clear h0 hln
    go_enter Try.func53, Try.ntmps53
    go_wp2
    go_ret2
    exact SortOut.err HE.out (Below.refl _ _)
  have hd : ((n : Int) == 0) = false := beq_false_of_ne (by omega)
  by_cases h8 : 8 < n
  · have HE := Lib.hid (sortErr_len (l := l) (.inr (by omega)))
    clear h0 hln
    go_enter Try.func53, Try.ntmps53
    go_wp2
    go_ret2
    exact SortOut.err HE.out (Below.refl _ _)
  have hp1 : 0 < l.length := by omega
  have hp2 : l.length ≤ 8 := by omega
  have HLN := Lib.hid hln
  clear hln
  go_enter Try.func53, Try.ntmps53
  go_wp2
  go_loopw [18] (fun i W => ∃ k : Nat, k ≤ n ∧ AllOk l k ∧ Below w.heap.size w W ∧ i = .int .i64 k) (fun i _ => n - (intOf i).toNat)
  case atStart => exact ⟨0, by omega, AllOk.zero l, Below.refl _ _, rfl⟩
  case round =>
    obtain ⟨k, hk, hA, hb, rfl⟩ := hrel
    have hRw := hR.below hb
    by_cases hlt : k < n
    · obtain ⟨b, o, p, q, rfl, hg, hp, hq, hbl, h1, h2⟩ := hRw.at_ hlt
      by_cases hv : vErr (p, q) = 0
      · have HN := Lib.hid (hA.succ hg hv)
        have HV := Lib.hid hv
        clear hg hv
        go_wp2_with (go_at_call 57; refine (valid_any _ _ _ hp hq).mono ?_; rintro e w1 ⟨rfl, hb1⟩; rw [HV.out])
        go_roundw
        case rel => exact ⟨k + 1, by omega, HN.out, (hb.alloc hb.size _).trans (hb1.mono (by simp; have := hb.size; omega)), by go_num⟩
        case measure => simp [intOf]; omega
      · have HN := Lib.hid (sortErr_bad hp1 hp2 hA hg hv)
        have hv1 : (vErr (p, q) == 0) = false := beq_false_of_ne hv
        have hv2 : (vErr (p, q) != 0) = true := bne_iff_ne.2 hv
        clear hg hv
        go_wp2_with (go_at_call 57; refine (valid_any _ _ _ hp hq).mono ?_; rintro e w1 ⟨rfl, hb1⟩)
        go_ret2
        exact SortOut.err HN.out ((hb.alloc hb.size _).trans (hb1.mono (by simp; have := hb.size; omega)))
    · go_wp2_with fail
      refine (clone_any _ _ _ _ _ hRw hn (by omega)).mono ?_
      rintro e w1 ⟨g, c', rfl, hbg, hrow, hb1⟩
      go_wp2_with fail
      refine (sortFunc_any _ _ _ _ _ hrow HLN.out (by omega)).mono ?_
      rintro e w2 ⟨rfl, hrow2, hg2⟩
      have hB2 : Below w.heap.size w w2 := (hb.trans (hb1.mono hb.size)).grown hg2 (Nat.le_trans hb.size hb1.size) (fun k hk => by injection hk with hk; have := hb.size; omega)
      have hrd : RdT w2 (some ⟨g, 0, none⟩) n c' (srt l) := by have := hrow2.rd; rwa [srt_length, HLN.out] at this
      go_wp2_with fail
      refine (repeats_any _ _ _ _ _ hrd hn).mono ?_
      rintro e w3 ⟨rfl, m, rfl⟩
      have HR := Lib.hid (rep_srt l)
      rw [HR.out]
      cases hdup : dup l
      · have HN := Lib.hid (sortErr_ok hp1 hp2 hA (by have := HLN.out; omega) hdup)
        go_wp2
        go_ret2
        exact SortOut.ok HN.out (hrow2.drewN m) HLN.out.symm (by omega) (below_drewN hB2 m)
      · have HN := Lib.hid (sortErr_dup hp1 hp2 hA (by have := HLN.out; omega) hdup)
        go_wp2
        go_ret2
        exact SortOut.err HN.out (below_drewN hB2 m)
end Go.Proofs.Ytoaijnpkenflbaa
