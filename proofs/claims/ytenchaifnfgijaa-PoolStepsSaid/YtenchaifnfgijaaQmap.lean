/- Which number a key has: as plain data, and as a map in memory tells it. Conditions: none beyond those typed. -/
import Derived.Test.YtenchaifnfgijaaQref2
import Derived.Maps.OwnSet
namespace Go.Proofs.Ytenchaifnfgijaa
open Go.ChangeShapes Go.WideShapes Go.ChangeAt Go.RowKit Go.Maps
set_option linter.unusedVariables false
set_option linter.unusedSimpArgs false
set_option maxRecDepth 100000

section
variable {q : PSt} {e : List PEn} {s s' : ByteArray} {i j : Nat} {y : PEn} {h : Hd}
def findE (e : List PEn) (s : ByteArray) : Option Nat := e.findIdx? (isK s)
theorem findE_some (hh : findE e s = some i) : ∃ y, e[i]? = some y ∧ 0 < y.u ∧ y.k = s ∧ i < e.length := find_at (q := ⟨0, e, 0⟩) hh
theorem findE_none (hh : findE e s = none) : ∀ y ∈ e, 0 < y.u → y.k ≠ s := find_not (q := ⟨0, e, 0⟩) hh
/-- No two numbers have one key. -/
def OneE (e : List PEn) : Prop := ∀ (i j : Nat) (y z : PEn), e[i]? = some y → e[j]? = some z → 0 < y.u → 0 < z.u → y.k = z.k → i = j
theorem findE_is (hO : OneE e) (hy : e[i]? = some y) (hu : 0 < y.u) : findE e y.k = some i := by
  cases hf : findE e y.k with
  | none => exact absurd rfl (findE_none hf y (List.mem_of_getElem? hy) hu)
  | some j =>
    obtain ⟨z, hz, hzu, hk, _⟩ := findE_some hf
    rw [hO i j y z hy hz hu hzu hk.symm]
/-- It is told by who has the key. -/
theorem findE_eq {e' : List PEn} (hO : OneE e) (hO' : OneE e') (h1 : ∀ (i : Nat) (y : PEn), e[i]? = some y → 0 < y.u → y.k = s → ∃ y', e'[i]? = some y' ∧ 0 < y'.u ∧ y'.k = s) (h2 : ∀ (i : Nat) (y : PEn), e'[i]? = some y → 0 < y.u → y.k = s → ∃ y', e[i]? = some y' ∧ 0 < y'.u ∧ y'.k = s) : findE e' s = findE e s := by
  cases hf : findE e s with
  | some i =>
    obtain ⟨y, hy, hu, hk, _⟩ := findE_some hf
    obtain ⟨y', hy', hu', hk'⟩ := h1 i y hy hu hk
    rw [← hk']; exact findE_is hO' hy' hu'
  | none =>
    cases hf' : findE e' s with
    | none => rfl
    | some i =>
      obtain ⟨y, hy, hu, hk, _⟩ := findE_some hf'
      obtain ⟨y', hy', hu', hk'⟩ := h2 i y hy hu hk
      exact absurd hk' (findE_none hf y' (List.mem_of_getElem? hy') hu')
theorem one_put (hO : OneE e) (hf : findE e s = none) (h : Hd) : OneE (putE e (slotNo e) ⟨s, 1, h⟩) := fun i k a b ha hb hau hbu heq => by
  have hnot := findE_none hf
  rcases putE_at ha with ⟨e1, rfl⟩ | ⟨_, ha⟩
  · rcases putE_at hb with ⟨e2, rfl⟩ | ⟨_, hb⟩
    · rw [e1, e2]
    · exact absurd heq.symm (hnot b (List.mem_of_getElem? hb) hbu)
  · rcases putE_at hb with ⟨e2, rfl⟩ | ⟨_, hb⟩
    · exact absurd heq (hnot a (List.mem_of_getElem? ha) hau)
    · exact hO i k a b ha hb hau hbu heq
theorem putE_other {z y : PEn} (hi : i ≠ slotNo e) (hz : e[i]? = some z) : (putE e (slotNo e) y)[i]? = some z := by
  unfold putE
  split
  · rw [List.getElem?_set, if_neg (fun e => hi e.symm)]; exact hz
  · rw [List.getElem?_append, if_pos (List.getElem?_eq_some_iff.1 hz).1]; exact hz
theorem findE_put_same (hO : OneE e) (hf : findE e s = none) : findE (putE e (slotNo e) ⟨s, 1, h⟩) s = some (slotNo e) := findE_is (one_put hO hf h) (putE_new e ⟨s, 1, h⟩) Nat.one_pos
theorem findE_put_other (hO : OneE e) (hf : findE e s = none) (hs : s' ≠ s) : findE (putE e (slotNo e) ⟨s, 1, h⟩) s' = findE e s' := by
  refine findE_eq hO (one_put hO hf h) (fun i y hy hu hk => ⟨y, putE_other (fun ei => ?_) hy, hu, hk⟩) (fun i y hy hu hk => ?_)
  · subst ei
    obtain ⟨z, hz, hzu⟩ := slotNo_dead (List.getElem?_eq_some_iff.1 hy).1
    rw [hy] at hz; injection hz with hz; subst hz; omega
  · rcases putE_at hy with ⟨_, rfl⟩ | ⟨_, hy⟩
    · exact absurd hk.symm hs
    · exact ⟨y, hy, hu, hk⟩
theorem one_mod {f : PEn → PEn} (hO : OneE e) (hk : ∀ y : PEn, (f y).k = y.k) (hu : ∀ y, e[j]? = some y → 0 < (f y).u → 0 < y.u) : OneE (e.modify j f) := fun i k a b ha hb hau hbu heq => by
  obtain ⟨a', ha', ea⟩ := modify_at ha
  obtain ⟨b', hb', eb⟩ := modify_at hb
  have ka : a.k = a'.k ∧ 0 < a'.u := by
    by_cases h : i = j
    · rw [if_pos h] at ea; subst ea; subst h; exact ⟨hk _, hu _ ha' hau⟩
    · rw [if_neg h] at ea; subst ea; exact ⟨rfl, hau⟩
  have kb : b.k = b'.k ∧ 0 < b'.u := by
    by_cases h : k = j
    · rw [if_pos h] at eb; subst eb; subst h; exact ⟨hk _, hu _ hb' hbu⟩
    · rw [if_neg h] at eb; subst eb; exact ⟨rfl, hbu⟩
  exact hO i k a' b' ha' hb' ka.2 kb.2 (by rw [← ka.1, ← kb.1, heq])
/-- Users come or go, and one is left. -/
theorem findE_mod {f : PEn → PEn} (hO : OneE e) (hk : ∀ y : PEn, (f y).k = y.k) (hy : e[j]? = some y) (hu : 0 < y.u) (hu' : 0 < (f y).u) : findE (e.modify j f) s = findE e s := by
  have hO' : OneE (e.modify j f) := one_mod hO hk fun z hz _ => by rw [hy] at hz; injection hz with hz; subst hz; exact hu
  refine findE_eq hO hO' (fun i z hz hzu hzk => ?_) (fun i z hz hzu hzk => ?_)
  · by_cases h : j = i
    · subst h
      rw [hy] at hz; injection hz with hz; subst hz
      exact ⟨f y, by rw [List.getElem?_modify, hy]; simp, hu', by rw [hk, hzk]⟩
    · exact ⟨z, by rw [List.getElem?_modify, hz]; simp [h], hzu, hzk⟩
  · obtain ⟨z', hz', ez⟩ := modify_at hz
    by_cases h : i = j
    · subst h
      rw [if_pos rfl] at ez
      rw [hy] at hz'; injection hz' with hz'; subst hz'
      exact ⟨y, hy, hu, by rw [← hk y, ← ez]; exact hzk⟩
    · rw [if_neg h] at ez; subst ez; exact ⟨z, hz', hzu, hzk⟩
theorem gone_at {f : PEn → PEn} (hf : (f y).u = 0) (hy : e[j]? = some y) {z : PEn} (hz : (e.modify j f)[i]? = some z) (hu : 0 < z.u) : i ≠ j ∧ e[i]? = some z := by
  obtain ⟨z', hz', ez⟩ := modify_at hz
  by_cases h : i = j
  · subst h
    rw [hy] at hz'; injection hz' with hz'; subst hz'
    rw [if_pos rfl] at ez; subst ez; omega
  · rw [if_neg h] at ez; subst ez; exact ⟨h, hz'⟩
theorem one_gone {f : PEn → PEn} (hO : OneE e) (hf : (f y).u = 0) (hy : e[j]? = some y) : OneE (e.modify j f) := fun i k a b ha hb hau hbu heq => hO i k a b (gone_at hf hy ha hau).2 (gone_at hf hy hb hbu).2 hau hbu heq
/-- The last user is gone. -/
theorem findE_gone_same {f : PEn → PEn} (hO : OneE e) (hf : (f y).u = 0) (hy : e[j]? = some y) (hu : 0 < y.u) : findE (e.modify j f) y.k = none := by
  cases hff : findE (e.modify j f) y.k with
  | none => rfl
  | some i =>
    obtain ⟨z, hz, hzu, hzk, _⟩ := findE_some hff
    obtain ⟨h1, h2⟩ := gone_at hf hy hz hzu
    exact absurd (hO i j z y h2 hy hzu hu hzk) h1
theorem findE_gone_other {f : PEn → PEn} (hO : OneE e) (hf : (f y).u = 0) (hy : e[j]? = some y) (hu : 0 < y.u) (hs : s ≠ y.k) : findE (e.modify j f) s = findE e s := by
  refine findE_eq hO (one_gone hO hf hy) (fun i z hz hzu hzk => ⟨z, ?_, hzu, hzk⟩) (fun i z hz hzu hzk => ⟨z, (gone_at hf hy hz hzu).2, hzu, hzk⟩)
  have h : ¬ j = i := fun e => by subst e; rw [hy] at hz; injection hz with hz; subst hz; exact hs hzk.symm
  rw [List.getElem?_modify, hz]; simp [h]
theorem alive_put (e : List PEn) (h : Hd) (s : ByteArray) : aliveN (putE e (slotNo e) ⟨s, 1, h⟩) = aliveN e + 1 := by
  unfold putE aliveN
  split
  · rename_i hl
    obtain ⟨z, hz, hu⟩ := slotNo_dead hl
    obtain ⟨_, rfl⟩ := List.getElem?_eq_some_iff.1 hz
    rw [List.countP_set hl]
    simp [hu]
  · simp
theorem alive_mod {f : PEn → PEn} (hy : e[j]? = some y) : aliveN (e.modify j f) + (if 0 < y.u then 1 else 0) = aliveN e + if 0 < (f y).u then 1 else 0 := by
  obtain ⟨hl, rfl⟩ := List.getElem?_eq_some_iff.1 hy
  have e1 : e.modify j f = e.set j (f e[j]) := by
    apply List.ext_getElem?
    intro i
    rw [List.getElem?_set, List.getElem?_modify]
    by_cases h : j = i
    · subst h; simp [hl]
    · simp [h]
  rw [e1]
  unfold aliveN
  rw [List.countP_set hl]
  have h1 : 0 < e[j].u → 0 < List.countP (fun y : PEn => decide (0 < y.u)) e := fun h => List.countP_pos_iff.2 ⟨e[j], List.getElem_mem hl, by simpa using h⟩
  by_cases h2 : 0 < e[j].u
  · have := h1 h2
    simp only [h2, decide_true, if_true]
    by_cases h3 : 0 < (f e[j]).u <;> simp [h3] <;> omega
  · by_cases h3 : 0 < (f e[j]).u <;> simp [h2, h3]
end
/-- A key as a map's key reads. -/
def litS (s : ByteArray) : Lit := .string s.data.toList
theorem litS_inj {s t : ByteArray} (h : litS s = litS t) : s = t := by
  unfold litS at h
  injection h with h
  exact ByteArray.ext (Array.toList_inj.1 h)
theorem litS_key (s : ByteArray) : WideAt.IsKeyLit (litS s) := trivial
theorem lawS : Keyed Try.prog 9 := string_keyed Try.underlying9
theorem zeroI (w : World) : (zeroValue 3).run Try.prog w = .ok (.int .i64 0) w := by kernel_rfl
theorem keyOfS {s : ByteArray} (h : s.size ≤ maxLen) : keyOf Try.prog 9 (.string s) = some (litS s) := Go.WideMaps.keyOf_string_mk Try.underlying9 h
/-- Block b is a map that reads as D. -/
def MapQ (w : World) (b : Nat) (D : DataW Unit) : Prop := w.ownsMap Try.prog 9 (plainElem Try.prog 3) b (Maps.size D) D
theorem MapQ.of {w : World} {b n : Nat} {D : DataW Unit} (h : w.ownsMap Try.prog 9 (plainElem Try.prog 3) b n D) : MapQ w b D := by
  obtain ⟨es, clock, hb, F, _, rfl⟩ := h
  exact ⟨es, clock, hb, F, by simp [Maps.size, length_sorted], rfl⟩
/-- The map tells the numbers of the keys. -/
structure RelM (e : List PEn) (D : DataW Unit) : Prop where
  has : ∀ s, Maps.has D (litS s) = (findE e s).isSome
  at_ : ∀ s i, findE e s = some i → D.atKey (litS s) (.lit (.int .i64 0)) = .lit (.int .i64 ((i : Int) + 1))
  size : Maps.size D = aliveN e
section
variable {e : List PEn} {D : DataW Unit} {s : ByteArray} {j : Nat} {y : PEn} {f : PEn → PEn}
theorem RelM.new : RelM [] (.map []) := ⟨fun s => rfl, fun s i h => by simp [findE] at h, rfl⟩
theorem RelM.put (R : RelM e D) (hD : Go.Maps.Tidy D) (hO : OneE e) (hf : findE e s = none) (h : Hd) {z : Int} (hz : z = (slotNo e : Int) + 1) : RelM (putE e (slotNo e) ⟨s, 1, h⟩) (D.put (litS s) (.lit (.int .i64 z))) := by
  subst hz
  refine ⟨fun t => ?_, fun t i ht => ?_, ?_⟩
  · by_cases ht : t = s
    · subst ht; rw [has_put_same hD.isMap (litS_key t), findE_put_same hO hf]; rfl
    · rw [has_put_other (fun e => ht (litS_inj e)), findE_put_other hO hf ht]; exact R.has t
  · by_cases hts : t = s
    · subst hts
      rw [findE_put_same hO hf] at ht
      injection ht with ht; subst ht
      rw [atKey_put_same hD.isMap (litS_key t)]
    · rw [findE_put_other hO hf hts] at ht
      rw [atKey_put_other (fun e => hts (litS_inj e))]; exact R.at_ t i ht
  · rw [size_put hD, R.has s, hf, alive_put, R.size]; rfl
theorem RelM.mod (R : RelM e D) (hO : OneE e) (hk : ∀ y : PEn, (f y).k = y.k) (hy : e[j]? = some y) (hu : 0 < y.u) (hu' : 0 < (f y).u) : RelM (e.modify j f) D :=
  ⟨fun s => by rw [findE_mod hO hk hy hu hu']; exact R.has s, fun s i h => by rw [findE_mod hO hk hy hu hu'] at h; exact R.at_ s i h, by
    have := alive_mod (f := f) hy
    rw [if_pos hu, if_pos hu'] at this
    rw [R.size]; omega⟩
theorem RelM.gone (R : RelM e D) (hD : Go.Maps.Tidy D) (hO : OneE e) (hf : (f y).u = 0) (hy : e[j]? = some y) (hu : 0 < y.u) : RelM (e.modify j f) (D.del (litS y.k)) := by
  refine ⟨fun t => ?_, fun t i ht => ?_, ?_⟩
  · by_cases ht : t = y.k
    · subst ht; rw [has_del_same, findE_gone_same hO hf hy hu]; rfl
    · rw [has_del_other (fun e => ht (litS_inj e)), findE_gone_other hO hf hy hu ht]; exact R.has t
  · by_cases hts : t = y.k
    · subst hts; rw [findE_gone_same hO hf hy hu] at ht; cases ht
    · rw [findE_gone_other hO hf hy hu hts] at ht
      rw [atKey_del_other (fun e => hts (litS_inj e))]; exact R.at_ t i ht
  · have h1 := size_del (k := litS y.k) hD
    have h2 := alive_mod (f := f) hy
    rw [if_pos hu, if_neg (by omega)] at h2
    rw [R.has y.k, findE_is hO hy hu, R.size] at h1
    simp at h1
    omega
end
end Go.Proofs.Ytenchaifnfgijaa
