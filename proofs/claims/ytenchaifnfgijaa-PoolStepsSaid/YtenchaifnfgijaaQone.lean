/- A pool alone in an arena of one class, as plain data: interning never fails while there is room, and each key has one slot. Conditions: none beyond those typed. -/
import Derived.Test.YtenchaifnfgijaaQdead
import Derived.Test.YtenchaifnfgijaaQmap
import Derived.Test.YtenchaifnfgijaaJh
import Derived.Test.YtenchaifnfgijaaPa
namespace Go.Proofs.Ytenchaifnfgijaa
set_option linter.unusedVariables false
set_option linter.unusedSimpArgs false

/-- The users of a number. -/
def PSt.us (q : PSt) (j : Nat) : Nat := (q.e[j]?.map PEn.u).getD 0
/-- This number has this key. -/
def PSt.has (q : PSt) (j : Nat) (s : ByteArray) : Prop := ∃ y, q.e[j]? = some y ∧ 0 < y.u ∧ y.k = s
/-- The numbers that were given and not released: each as often as it has users. -/
def Uses (is : List Nat) (q : PSt) : Prop := ∀ j, is.count j = q.us j
/-- The pool alone in an arena of one class: each key has one slot. -/
structure Sole (a m : Int) (q : PSt) (x : ASt) : Prop where
  L : x.L = [(a, m)]
  n : (q.n : Int) = m
  live : liveN x.s 0 = aliveN q.e
  fa : x.fa = 0
section
variable {q : PSt} {x : ASt} {s : ByteArray} {i j : Nat} {y : PEn} {a m z : Int}
theorem us_at (hy : q.e[j]? = some y) : q.us j = y.u := by unfold PSt.us; rw [hy]; rfl
theorem us_no (hy : q.e[j]? = none) : q.us j = 0 := by unfold PSt.us; rw [hy]; rfl
theorem us_pos (h : 0 < q.us j) : ∃ y, q.e[j]? = some y ∧ 0 < y.u := by
  cases hy : q.e[j]? with
  | none => rw [us_no hy] at h; omega
  | some y => rw [us_at hy] at h; exact ⟨y, rfl, h⟩
theorem sole_take (hG : GoodA x) (hL : x.L = [(a, m)]) (hl : ((liveN x.s 0 : Nat) : Int) ≠ m) : (x.take 0).1.2 = 0 := by
  unfold ASt.take
  split
  · rfl
  · rename_i hn
    rw [if_neg]
    intro he
    have h0 : ∀ y ∈ x.s, y.c = 0 := fun y hy => by
      have h1 := (hG.sl y hy).1
      rw [hL] at h1; simp at h1; exact h1
    have hu : ∀ y ∈ x.s, y.u = true := fun y hy => by
      cases hu : y.u with
      | true => rfl
      | false =>
        obtain ⟨j, hj⟩ := List.getElem?_of_mem hy
        obtain ⟨p, hp⟩ := List.getElem?_of_mem ((hG.fu j).2 ⟨y, hj, hu⟩)
        have h3 := lastAt_none hn p (List.getElem?_eq_some_iff.1 hp).1
        rw [hp] at h3
        simp [hj, h0 y hy] at h3
    have hs : x.s.length = x.nx.getD 0 0 := by
      rw [hG.sum]
      have h1 := hG.nx
      rw [hL] at h1
      match h2 : x.nx, h1 with
      | [n], _ => simp
    have hc : liveN x.s 0 = x.s.length := by
      unfold liveN
      rw [List.countP_eq_length]
      intro y hy
      simp [hu y hy, h0 y hy]
    rw [hL] at he
    simp only [List.getD_cons_zero] at he
    omega
theorem fit_sole (h1 : 1 ≤ z) (h2 : z ≤ a) : fitP [(a, m)] z = some 0 := by
  unfold fitP
  rw [if_pos h1]
  unfold fitI
  rw [if_pos h2]
theorem sole_alloc (hG : GoodA x) (hL : x.L = [(a, m)]) (h1 : 1 ≤ z) (h2 : z ≤ a) (hl : ((liveN x.s 0 : Nat) : Int) ≠ m) : (x.alloc z).1.2 = 0 := by
  unfold ASt.alloc
  rw [hL, fit_sole h1 h2]
  exact sole_take hG hL hl
theorem us_more (hy : q.e[i]? = some y) (j : Nat) : (q.more i).us j = q.us j + if j = i then 1 else 0 := by
  unfold PSt.us PSt.more
  simp only [List.getElem?_modify]
  by_cases h : i = j
  · subst h; rw [hy]; simp [PEn.up]
  · have h' : ¬ j = i := fun e => h e.symm
    simp [h, h']
theorem us_less (j : Nat) : (q.less i).us j = q.us j - if j = i then 1 else 0 := by
  unfold PSt.us PSt.less
  simp only [List.getElem?_modify]
  by_cases h : i = j
  · subst h
    cases hy : q.e[i]? with
    | none => simp
    | some y => simp [PEn.down]
  · have h' : ¬ j = i := fun e => h e.symm
    simp [h, h']
theorem us_put (s : ByteArray) (h : Hd) (j : Nat) : (q.put s h).us j = q.us j + if j = slotNo q.e then 1 else 0 := by
  have hp := putE_new q.e ⟨s, 1, h⟩
  by_cases hj : j = slotNo q.e
  · rw [if_pos hj]
    subst hj
    rw [us_at (q := q.put s h) hp]
    by_cases hl : slotNo q.e < q.e.length
    · obtain ⟨y, hy, hu⟩ := slotNo_dead hl
      rw [us_at hy, hu]
    · rw [us_no (List.getElem?_eq_none (by omega))]
  · rw [if_neg hj]
    unfold PSt.us PSt.put putE
    simp only
    split
    · rw [List.getElem?_set, if_neg (fun e => hj e.symm)]
      rfl
    · rename_i hl
      have h1 := slotNo_le q.e
      rw [List.getElem?_append]
      split
      · rfl
      · rename_i h2
        rw [List.getElem?_eq_none (l := q.e) (by omega), List.getElem?_eq_none (by simp; omega)]; rfl
theorem has_more (hy : q.e[i]? = some y) (t : ByteArray) (h : q.has j t) : (q.more i).has j t := by
  obtain ⟨z, hz, hu, hk⟩ := h
  by_cases e : i = j
  · subst e
    exact ⟨PEn.up z, by unfold PSt.more; simp [List.getElem?_modify, hz], Nat.succ_pos _, hk⟩
  · exact ⟨z, by unfold PSt.more; simp [List.getElem?_modify, hz, e], hu, hk⟩
theorem has_put (s : ByteArray) (h : Hd) (t : ByteArray) (hh : q.has j t) : (q.put s h).has j t := by
  obtain ⟨z, hz, hu, hk⟩ := hh
  have hj : j ≠ slotNo q.e := fun e => by
    subst e
    obtain ⟨y, hy, h0⟩ := slotNo_dead (List.getElem?_eq_some_iff.1 hz).1
    rw [hz] at hy; injection hy with hy; subst hy; omega
  refine ⟨z, ?_, hu, hk⟩
  show (putE q.e (slotNo q.e) ⟨s, 1, h⟩)[j]? = some z
  have hl := (List.getElem?_eq_some_iff.1 hz).1
  unfold putE
  split
  · rw [List.getElem?_set, if_neg (fun e => hj e.symm)]; exact hz
  · rw [List.getElem?_append, if_pos hl]; exact hz
/-- A key that was interned has its number; all others keep theirs. -/
theorem took_intern (h0 : (q.intern x s).1.2 = 0) : ∃ i : Nat, (q.intern x s).1.1 = (i : Int) + 1 ∧ i ≤ q.e.length ∧ (q.intern x s).2.has i s ∧ (∀ j t, q.has j t → (q.intern x s).2.has j t) ∧ (∀ j, (q.intern x s).2.us j = q.us j + if j = i then 1 else 0) ∧ aliveN (q.intern x s).2.e ≤ aliveN q.e + 1 := by
  rcases asks_ways q s with h | h | ⟨h1, h2, i, hf⟩ | ⟨h1, h2, hf, hn⟩ | h
  · rw [intern_empty h] at h0; simp at h0
  · rw [intern_long h] at h0; simp at h0
  · rw [intern_old h1 h2 hf]
    obtain ⟨y, hy, hu, hk, hl⟩ := find_at hf
    refine ⟨i, by simp, by omega, has_more hy s ⟨y, hy, hu, hk⟩, fun j t => has_more hy t, us_more hy, ?_⟩
    have := alive_mod (f := PEn.up) hy
    rw [if_pos hu, if_pos (show 0 < (PEn.up y).u from Nat.succ_pos _)] at this
    show aliveN (q.e.modify i PEn.up) ≤ _
    omega
  · rw [intern_most h1 h2 hf hn] at h0; simp at h0
  · by_cases he : (x.alloc s.size).1.2 = 0
    · rw [intern_new h he]
      exact ⟨slotNo q.e, by simp, slotNo_le q.e, ⟨_, putE_new q.e _, Nat.one_pos, rfl⟩, fun j t => has_put _ _ t, us_put _ _, Nat.le_of_eq (alive_put q.e _ s)⟩
    · rw [intern_full h he] at h0; exact absurd h0 he
theorem live_write (h : Hd) (b : List Int) (c : Nat) : liveN (x.write h b).2.s c = liveN x.s c ∧ (x.write h b).2.L = x.L := by
  unfold ASt.write
  split
  · exact ⟨rfl, rfl⟩
  · rename_i i hi
    split
    · exact ⟨rfl, rfl⟩
    · refine ⟨?_, rfl⟩
      simp only
      obtain ⟨y, hy, _⟩ := find_some hi
      obtain ⟨hl, rfl⟩ := List.getElem?_eq_some_iff.1 hy
      have e1 : x.s.modify i (fun y => { y with b := b }) = x.s.set i { x.s[i] with b := b } := by
        apply List.ext_getElem?
        intro k
        rw [List.getElem?_set, List.getElem?_modify]
        by_cases h : i = k
        · subst h; simp [hl]
        · simp [h]
      rw [e1]
      unfold liveN
      rw [List.countP_set hl]
      have h1 : (x.s[i].u && decide (x.s[i].c = c)) = true → 0 < List.countP (fun y : Sl => y.u && decide (y.c = c)) x.s := fun h => List.countP_pos_iff.2 ⟨x.s[i], List.getElem_mem hl, h⟩
      by_cases h2 : (x.s[i].u && decide (x.s[i].c = c)) = true
      · have := h1 h2
        simp only [h2, if_true]; omega
      · simp only [h2]; simp
theorem fa_write {h : Hd} {b : List Int} (h0 : (x.write h b).1 = 0) : (x.write h b).2.fa = x.fa := by
  unfold ASt.write at h0 ⊢
  split
  · rename_i hf; rw [hf] at h0; simp at h0
  · split <;> rfl
/-- While there is room interning never fails, and each key has one slot. -/
theorem Sole.intern (hA : GoodA x) (hL : Lnk q x) (H : Sole a m q x) (h1 : 1 ≤ s.size) (h2 : s.size ≤ 255) (h3 : (s.size : Int) ≤ a) (hn : aliveN q.e < q.n) : (q.intern x s).1.2 = 0 ∧ Sole a m (q.intern x s).2 (q.inP x s) := by
  have hn' := (intern_t q x s).2
  rcases asks_ways q s with h | h | ⟨g1, g2, i, hf⟩ | ⟨g1, g2, hf, he⟩ | h
  · omega
  · omega
  · rw [inP_not (fun h => by rw [h.2.2.1] at hf; cases hf)]
    rw [intern_old g1 g2 hf] at hn' ⊢
    obtain ⟨y, hy, hu, hk, hl⟩ := find_at hf
    refine ⟨rfl, H.L, by rw [← H.n, hn'], ?_, H.fa⟩
    have := alive_mod (f := PEn.up) hy
    rw [if_pos hu, if_pos (show 0 < (PEn.up y).u from Nat.succ_pos _)] at this
    show liveN x.s 0 = aliveN (q.e.modify i PEn.up)
    rw [H.live]; omega
  · omega
  · have hlive := H.live
    have hqn := H.n
    have he := sole_alloc (z := (s.size : Int)) hA H.L (by omega) h3 (by omega)
    obtain ⟨j, y, T⟩ := took hA _ he
    obtain ⟨w0, _⟩ := hL.stored hA h.2.2.1 he
    rw [inP_yes h he]
    rw [intern_new h he] at hn' ⊢
    have hyc : y.c = 0 := by
      have := T.fit
      rw [H.L, fit_sole (by omega) h3] at this
      injection this with this; exact this.symm
    obtain ⟨e1, e2⟩ := live_write (x := (x.alloc s.size).2) (x.alloc s.size).1.1 (sB s) 0
    refine ⟨rfl, by rw [e2, T.l, H.L], by rw [← H.n, hn'], ?_, by rw [fa_write w0, T.fa, H.fa]⟩
    rw [e1, liveN_took T, if_pos hyc, hlive]
    exact (alive_put q.e _ s).symm
/-- A number with users can be released; with the last user the slot is free. -/
theorem Sole.release (hA : GoodA x) (hL : Lnk q x) (H : Sole a m q x) (hu : 0 < q.us i) : (q.release ((i : Int) + 1)).1 = 0 ∧ Sole a m (q.release ((i : Int) + 1)).2 (q.reP x ((i : Int) + 1)) ∧ ∀ j, (q.release ((i : Int) + 1)).2.us j = q.us j - if j = i then 1 else 0 := by
  obtain ⟨y, hy, hu⟩ := us_pos hu
  have ha := at_is (id := (i : Int) + 1) (by omega) hy hu
  have hr : q.release ((i : Int) + 1) = (0, q.less i) := by unfold PSt.release; rw [ha]
  rw [hr]
  refine ⟨rfl, ?_, fun j => us_less j⟩
  have hm := alive_mod (f := PEn.down) hy
  rw [if_pos hu] at hm
  by_cases h1 : y.u = 1
  · have hp : q.reP x ((i : Int) + 1) = ((x.read y.h).2.free y.h).2 := by unfold PSt.reP; rw [ha]; simp [h1]
    rw [hp, hL.read hA hy hu]
    rw [if_neg (show ¬ 0 < (PEn.down y).u by unfold PEn.down; simp; omega)] at hm
    obtain ⟨j, z, hj, hzu, hzh, _⟩ := hL.slot i y hy hu
    have HU : HeldU x.tick [y.h] := ⟨fun h hh => by rw [List.mem_singleton.1 hh]; exact ⟨j, z, hj, hzu, hzh⟩, by simp⟩
    have hT : GoodA x.tick := by have := hA.read y.h; rw [hL.read hA hy hu] at this; exact this
    obtain ⟨c, hc, hcl, hpos, f1, _, fL, fl⟩ := HU.freed hT
    have hc0 : c = 0 := by
      have : c < x.L.length := hcl
      rw [H.L] at this; simpa using this
    subst hc0
    have f2 := fl 1
    have hlv := H.live
    have ht : x.tick.s = x.s := rfl
    rw [ht] at f2 hpos
    refine ⟨by rw [fL]; exact H.L, H.n, ?_, ?_⟩
    · have h2 : liveL 1 (x.tick.free y.h).2.s = [((liveN (x.tick.free y.h).2.s 0 : Nat) : Int)] := rfl
      have h3 : liveL 1 x.s = [((liveN x.s 0 : Nat) : Int)] := rfl
      rw [h2, h3] at f2
      simp at f2
      show liveN (x.tick.free y.h).2.s 0 = aliveN (q.e.modify i PEn.down)
      omega
    · have : (x.tick.free y.h).2.fa = x.tick.fa := by
        unfold ASt.free at f1 ⊢
        split
        · rename_i hf; rw [hf] at f1; simp at f1
        · rfl
      rw [this]; exact H.fa
  · have hp : q.reP x ((i : Int) + 1) = x := by unfold PSt.reP; rw [ha]; simp [h1]
    rw [hp]
    rw [if_pos (show 0 < (PEn.down y).u by unfold PEn.down; simp; omega)] at hm
    refine ⟨H.L, H.n, ?_, H.fa⟩
    show liveN x.s 0 = aliveN (q.e.modify i PEn.down)
    rw [H.live]; omega
theorem Sole.new (a m : Int) {n : Nat} (hn : (n : Int) = m) : Sole a m (newQ n) (newA [(a, m)]) := ⟨rfl, hn, rfl, rfl⟩
theorem Uses.new (n : Nat) : Uses [] (newQ n) := fun j => by unfold PSt.us newQ; simp
theorem Uses.more {is : List Nat} {q' : PSt} (h : Uses is q) (h' : ∀ j, q'.us j = q.us j + if j = i then 1 else 0) : Uses (is ++ [i]) q' := fun j => by
  rw [List.count_append, h j, h' j, List.count_singleton]
  by_cases e : j = i
  · subst e; simp
  · have e' : ¬ i = j := fun h => e h.symm
    simp [e, e']
theorem Uses.pos {is : List Nat} (h : Uses (i :: is) q) : 0 < q.us i := by rw [← h i, List.count_cons_self]; omega
theorem Uses.less {is : List Nat} {q' : PSt} (h : Uses (i :: is) q) (h' : ∀ j, q'.us j = q.us j - if j = i then 1 else 0) : Uses is q' := fun j => by
  rw [h' j, ← h j, List.count_cons]
  by_cases e : j = i
  · subst e; simp
  · have e' : ¬ i = j := fun h => e h.symm
    simp [e, e']
theorem Uses.none (h : Uses [] q) : aliveN q.e = 0 := by
  unfold aliveN
  rw [List.countP_eq_zero]
  intro y hy
  obtain ⟨j, hj⟩ := List.getElem?_of_mem hy
  have := h j
  rw [us_at hj] at this
  simp at this
  simp [← this]
end
end Go.Proofs.Ytenchaifnfgijaa
