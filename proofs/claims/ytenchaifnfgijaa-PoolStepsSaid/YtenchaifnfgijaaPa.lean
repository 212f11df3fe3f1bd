/- Words laid together in one text. Conditions: none beyond those typed. -/
import Derived.Test.YtenchaifnfgijaaAm
import Derived.Test.YtenchaifnfgijaaAprog
import Derived.Deep.RegionLaw
/- The program's arena as plain data: of each class its slots and its free indices; how that tells the arena of the document. Conditions: none beyond those typed. -/
namespace Go.Proofs.Ytenchaifnfgijaa
set_option linter.unusedVariables false
set_option linter.unusedSimpArgs false

/-- A slot: in use, how often allocated, its bytes. -/
structure PE where
  u : Bool
  a : Nat
  b : List Int
def Sl.pe (y : Sl) : PE := ⟨y.u, y.a, y.b⟩
/-- A list for each number, one of them changed. -/
def upd {ι α : Type} [DecidableEq ι] (f : ι → α) (i : ι) (a : α) : ι → α := fun j => if j = i then a else f j
theorem upd_same {ι α : Type} [DecidableEq ι] {f : ι → α} {i : ι} {a : α} : upd f i a i = a := if_pos rfl
theorem upd_other {ι α : Type} [DecidableEq ι] {f : ι → α} {i j : ι} {a : α} (h : j ≠ i) : upd f i a j = f j := if_neg h
/-- The free indices of a class, in the order of freeing. -/
def clIx (s : List Sl) (c j : Nat) : Option Nat := s[j]?.bind fun y => if y.c = c then some y.i else none
def freeOf (s : List Sl) (f : List Nat) (c : Nat) : List Nat := f.filterMap (clIx s c)
/-- The program's lists tell the arena x. -/
structure Rel (x : ASt) (sl : Nat → List PE) (fr : Nat → List Nat) : Prop where
  len : ∀ c, c < x.L.length → (sl c).length = x.nx.getD c 0
  fwd : ∀ y ∈ x.s, (sl y.c)[y.i]? = some y.pe
  bwd : ∀ c i e, c < x.L.length → (sl c)[i]? = some e → ∃ y ∈ x.s, y.c = c ∧ y.i = i
  fre : ∀ c, c < x.L.length → fr c = freeOf x.s x.f c
section
variable {x : ASt} {sl : Nat → List PE} {fr : Nat → List Nat} {s : List Sl} {f : List Nat} {c i j : Nat}
theorem Rel.get (R : Rel x sl fr) (hG : GoodA x) {e : PE} (hc : c < x.L.length) (he : (sl c)[i]? = some e) : ∃ (j : Nat) (y : Sl), x.s[j]? = some y ∧ y = (⟨c, i, e.a, e.u, e.b⟩ : Sl) := by
  obtain ⟨y, hy, hyc, hyi⟩ := R.bwd c i e hc he
  have h := R.fwd y hy
  rw [hyc, hyi, he] at h
  injection h with h
  obtain ⟨j, hj⟩ := List.getElem?_of_mem hy
  refine ⟨j, y, hj, ?_⟩
  obtain ⟨yc, yi, ya, yu, yb⟩ := y
  simp only [Sl.pe] at h hyc hyi
  subst h hyc hyi; rfl
theorem Rel.found (R : Rel x sl fr) (hG : GoodA x) {e : PE} (hc : c < x.L.length) (he : (sl c)[i]? = some e) (hu : e.u = true) :
    ∃ j : Nat, x.find ((c : Int), (i : Int), (e.a : Int)) = some j ∧ x.s[j]? = some (⟨c, i, e.a, true, e.b⟩ : Sl) := by
  obtain ⟨j, y, hj, rfl⟩ := R.get hG hc he
  rw [hu] at hj
  exact ⟨j, hG.find_at hj rfl, hj⟩
theorem Rel.none (R : Rel x sl fr) (hG : GoodA x) {h : Hd} (hn : ∀ (c i : Nat) (e : PE), c < x.L.length → (sl c)[i]? = some e → e.u = true → h ≠ ((c : Int), (i : Int), (e.a : Int))) : x.find h = .none := by
  cases hf : x.find h with
  | none => rfl
  | some j =>
    obtain ⟨y, hy, hu, hh⟩ := find_some hf
    have hm := List.mem_of_getElem? hy
    exact absurd hh.symm (hn y.c y.i y.pe (hG.sl y hm).1 (R.fwd y hm) hu)
theorem filterMap_same {α β : Type} {p q : α → Option β} : ∀ {l : List α}, (∀ a ∈ l, p a = q a) → l.filterMap p = l.filterMap q
  | [], _ => rfl
  | a :: l, h => by rw [List.filterMap_cons, List.filterMap_cons, h a (by simp), filterMap_same fun b hb => h b (by simp [hb])]
theorem clIx_modify {g : Sl → Sl} (hc : ∀ y, s[j]? = some y → (g y).c = y.c ∧ (g y).i = y.i) (q : Nat) : clIx (s.modify j g) c q = clIx s c q := by
  unfold clIx
  rw [List.getElem?_modify]
  by_cases h : j = q
  · subst h
    cases hs : s[j]? with
    | none => simp
    | some y => have := hc y hs; simp [this.1, this.2]
  · simp [h]
theorem freeOf_modify {g : Sl → Sl} (hc : ∀ y, s[j]? = some y → (g y).c = y.c ∧ (g y).i = y.i) : freeOf (s.modify j g) f c = freeOf s f c := by
  unfold freeOf; congr 1; funext q; exact clIx_modify hc q
/-- One slot is turned. -/
theorem Rel.mod (R : Rel x sl fr) (hG : GoodA x) {y : Sl} {g : Sl → Sl} (hs : x.s[j]? = some y) (hc : (g y).c = y.c) (hi : (g y).i = y.i) {f' : List Nat} {fr' : Nat → List Nat} {t : Nat}
    (hf : ∀ c, c < x.L.length → fr' c = freeOf x.s f' c) : Rel { x with s := x.s.modify j g, f := f', t := t } (upd sl y.c ((sl y.c).set y.i (g y).pe)) fr' := by
  have hm := List.mem_of_getElem? hs
  have hat := R.fwd y hm
  have hlt := (List.getElem?_eq_some_iff.1 hat).1
  refine ⟨fun c hc' => ?_, fun z hz => ?_, fun c i e hc' he => ?_, fun c hc' => ?_⟩
  · by_cases e : c = y.c
    · subst e; rw [upd_same, List.length_set]; exact R.len _ hc'
    · rw [upd_other e]; exact R.len _ hc'
  · obtain ⟨k, hk⟩ := List.getElem?_of_mem hz
    have hk : (x.s.modify j g)[k]? = some z := hk
    rw [List.getElem?_modify] at hk
    by_cases e : j = k
    · subst e
      rw [hs] at hk; simp at hk; subst hk
      rw [hc, hi, upd_same, List.getElem?_set, if_pos rfl, if_pos hlt]
    · simp [e] at hk
      have hz' := R.fwd z (List.mem_of_getElem? hk)
      by_cases ec : z.c = y.c
      · rw [ec, upd_same, List.getElem?_set]
        have hne : y.i ≠ z.i := fun e2 => e (hG.at_one hs hk ec.symm e2)
        rw [if_neg hne, ← ec]; exact hz'
      · rw [upd_other ec]; exact hz'
  · have : ∃ e0, (sl c)[i]? = some e0 := by
      by_cases ec : c = y.c
      · subst ec
        rw [upd_same] at he
        have := (List.getElem?_eq_some_iff.1 he).1
        rw [List.length_set] at this
        exact ⟨_, List.getElem?_eq_getElem this⟩
      · rw [upd_other ec] at he; exact ⟨e, he⟩
    obtain ⟨e0, he0⟩ := this
    obtain ⟨z, hz, zc, zi⟩ := R.bwd c i e0 hc' he0
    obtain ⟨k, hk⟩ := List.getElem?_of_mem hz
    by_cases e : j = k
    · subst e
      rw [hs] at hk; injection hk with hk; subst hk
      refine ⟨g y, List.mem_of_getElem? (i := j) ?_, by rw [hc, zc], by rw [hi, zi]⟩
      show (x.s.modify j g)[j]? = _
      rw [List.getElem?_modify, hs]; simp
    · refine ⟨z, List.mem_of_getElem? (i := k) ?_, zc, zi⟩
      show (x.s.modify j g)[k]? = _
      rw [List.getElem?_modify, hk]; simp [e]
  · rw [hf c hc']
    exact (freeOf_modify fun z hz => by rw [hs] at hz; injection hz with hz; subst hz; exact ⟨hc, hi⟩).symm
theorem freeOf_snoc {y : Sl} (hs : s[j]? = some y) : freeOf s (f ++ [j]) c = if y.c = c then freeOf s f c ++ [y.i] else freeOf s f c := by
  unfold freeOf
  rw [List.filterMap_append]
  have : clIx s c j = if y.c = c then some y.i else .none := by unfold clIx; rw [hs]; rfl
  by_cases h : y.c = c <;> simp [this, h]
theorem Rel.free (R : Rel x sl fr) (hG : GoodA x) {e : PE} (hc : c < x.L.length) (he : (sl c)[i]? = some e) (hu : e.u = true) :
    (x.free ((c : Int), (i : Int), (e.a : Int))).1 = 0 ∧ Rel (x.free ((c : Int), (i : Int), (e.a : Int))).2 (upd sl c ((sl c).set i { e with u := false })) (upd fr c (fr c ++ [i])) := by
  obtain ⟨j, hf, hs⟩ := R.found hG hc he hu
  unfold ASt.free
  rw [hf]
  refine ⟨rfl, R.mod hG (g := fun y => { y with u := false }) hs rfl rfl fun d hd => ?_⟩
  rw [freeOf_snoc hs]
  by_cases h : d = c
  · subst h; rw [upd_same, if_pos rfl, R.fre d hd]
  · rw [upd_other h, if_neg (fun e => h e.symm), R.fre d hd]
theorem Rel.freeNot (R : Rel x sl fr) {h : Hd} (hf : x.find h = .none) : x.free h = (9, x.fault) := by unfold ASt.free; rw [hf]
theorem Rel.fault (R : Rel x sl fr) : Rel x.fault sl fr := ⟨R.len, R.fwd, R.bwd, R.fre⟩
theorem Rel.tick (R : Rel x sl fr) : Rel x.tick sl fr := ⟨R.len, R.fwd, R.bwd, R.fre⟩
theorem Rel.write (R : Rel x sl fr) (hG : GoodA x) {e : PE} (hc : c < x.L.length) (he : (sl c)[i]? = some e) (hu : e.u = true) (b : List Int) :
    ((x.L.getD c (0, 0)).1 < (b.length : Int) → x.write ((c : Int), (i : Int), (e.a : Int)) b = (4, x.tick)) ∧
      (¬ (x.L.getD c (0, 0)).1 < (b.length : Int) → (x.write ((c : Int), (i : Int), (e.a : Int)) b).1 = 0 ∧ (x.write ((c : Int), (i : Int), (e.a : Int)) b).2.fa = x.fa ∧ (x.write ((c : Int), (i : Int), (e.a : Int)) b).2.L = x.L ∧ Rel (x.write ((c : Int), (i : Int), (e.a : Int)) b).2 (upd sl c ((sl c).set i { e with b := b })) fr) := by
  obtain ⟨j, hf, hs⟩ := R.found hG hc he hu
  unfold ASt.write
  rw [hf]
  simp only [Int.toNat_natCast]
  refine ⟨fun h => by rw [if_pos h], fun h => ?_⟩
  rw [if_neg h]
  refine ⟨rfl, rfl, rfl, ?_⟩
  have := R.mod hG (g := fun y => { y with b := b }) hs rfl rfl (f' := x.f) (fr' := fr) (t := x.t + 1) R.fre
  simpa [Sl.pe, hu] using this
theorem Rel.read (R : Rel x sl fr) (hG : GoodA x) {e : PE} (hc : c < x.L.length) (he : (sl c)[i]? = some e) (hu : e.u = true) : x.read ((c : Int), (i : Int), (e.a : Int)) = ((e.b, 0), x.tick) := by
  obtain ⟨j, hf, hs⟩ := R.found hG hc he hu
  unfold ASt.read
  rw [hf]; simp [hs]
/-- What lastAt finds is the last one. -/
theorem lastAt_max : ∀ {n p : Nat}, lastAt s f c n = some p → ∀ q, p < q → q < n → (f[q]?.bind fun j => s[j]?.map Sl.c) ≠ some c
  | 0, p, h, q, _, h2 => by omega
  | n + 1, p, h, q, h1, h2 => by
    unfold lastAt at h
    split at h
    · injection h with h; omega
    · rename_i hn
      by_cases e : q = n
      · subst e; exact hn
      · exact lastAt_max h q h1 (by omega)
theorem lastAt_none : ∀ {n : Nat}, lastAt s f c n = .none → ∀ q, q < n → (f[q]?.bind fun j => s[j]?.map Sl.c) ≠ some c
  | 0, h, q, h2 => by omega
  | n + 1, h, q, h2 => by
    unfold lastAt at h
    split at h
    · cases h
    · rename_i hn
      by_cases e : q = n
      · subst e; exact hn
      · exact lastAt_none h q (by omega)
theorem clIx_none (h : (s[j]?.map Sl.c) ≠ some c) : clIx s c j = .none := by
  unfold clIx
  cases hs : s[j]? with
  | none => rfl
  | some y =>
    rw [hs] at h
    have : ¬ y.c = c := fun e => h (by simp [e])
    simp [this]
theorem freeOf_none {l : List Nat} (h : ∀ q : Nat, q < l.length → (l[q]?.bind fun j => s[j]?.map Sl.c) ≠ some c) : freeOf s l c = [] := by
  unfold freeOf
  rw [List.filterMap_eq_nil_iff]
  intro j hj
  obtain ⟨q, hq⟩ := List.getElem?_of_mem hj
  have := h q (List.getElem?_eq_some_iff.1 hq).1
  rw [hq] at this
  exact clIx_none this
theorem freeOf_last {p : Nat} (h : lastAt s f c f.length = some p) : ∃ j y, f[p]? = some j ∧ s[j]? = some y ∧ y.c = c ∧ freeOf s f c = freeOf s (f.eraseIdx p) c ++ [y.i] ∧ ∀ d, d ≠ c → freeOf s (f.eraseIdx p) d = freeOf s f d := by
  obtain ⟨j, y, hj, hs, hc⟩ := lastAt_some h
  obtain ⟨hl, he⟩ := List.getElem?_eq_some_iff.1 hj
  have hf : f = f.take p ++ j :: f.drop (p + 1) := by rw [← he, ← List.drop_eq_getElem_cons hl, List.take_append_drop]
  have hx : ∀ d, clIx s d j = if y.c = d then some y.i else .none := fun d => by unfold clIx; rw [hs]; rfl
  have htail : freeOf s (f.drop (p + 1)) c = [] := freeOf_none fun q hq => by
    rw [List.getElem?_drop]
    exact lastAt_max h (p + 1 + q) (by omega) (by rw [List.length_drop] at hq; omega)
  have hsplit : ∀ d, freeOf s f d = freeOf s (f.take p) d ++ ((if y.c = d then [y.i] else []) ++ freeOf s (f.drop (p + 1)) d) := fun d => by
    have e1 : freeOf s f d = freeOf s (f.take p ++ j :: f.drop (p + 1)) d := by rw [← hf]
    rw [e1]
    unfold freeOf
    rw [List.filterMap_append, List.filterMap_cons, hx]
    clear hf e1
    by_cases h : y.c = d <;> simp [h]
  have her : ∀ d, freeOf s (f.eraseIdx p) d = freeOf s (f.take p) d ++ freeOf s (f.drop (p + 1)) d := fun d => by
    rw [List.eraseIdx_eq_take_drop_succ]; unfold freeOf; rw [List.filterMap_append]
  refine ⟨j, y, hj, hs, hc, ?_, fun d hd => ?_⟩
  · rw [hsplit, her, htail, if_pos hc]; simp
  · rw [hsplit, her, if_neg (fun e => hd (e.symm.trans hc))]; simp
/-- A slot that was free is taken again. -/
theorem Rel.again (R : Rel x sl fr) (hG : GoodA x) (hc : c < x.L.length) {fl : List Nat} (hf : fr c = fl ++ [i]) :
    ∃ e, (sl c)[i]? = some e ∧ e.u = false ∧ e.a ≤ x.t ∧ (x.take c).1 = (((c : Int), (i : Int), ((e.a + 1 : Nat) : Int)), 0) ∧ (x.take c).2.fa = x.fa ∧ (x.take c).2.L = x.L ∧ Rel (x.take c).2 (upd sl c ((sl c).set i ⟨true, e.a + 1, []⟩)) (upd fr c fl) := by
  have hfre := R.fre c hc
  cases hl : lastAt x.s x.f c x.f.length with
  | none =>
    rw [freeOf_none (lastAt_none hl), hf] at hfre
    simp at hfre
  | some p =>
    obtain ⟨j, y, hj, hs, hyc, h1, h2⟩ := freeOf_last hl
    rw [hf, h1] at hfre
    obtain ⟨e1, e2⟩ := List.append_inj' hfre rfl
    injection e2 with e2
    subst hyc e2
    have hu : y.u = false := by
      obtain ⟨z, hz, hu⟩ := (hG.fu j).1 (List.mem_of_getElem? hj)
      rw [hs] at hz; injection hz with hz; subst hz; exact hu
    have hm := List.mem_of_getElem? hs
    refine ⟨y.pe, R.fwd y hm, hu, (hG.sl y hm).2.2.2.1, ?_⟩
    unfold ASt.take
    rw [hl]
    simp only [getD_at hj]
    refine ⟨?_, trivial, trivial, R.mod hG (g := Sl.again) hs rfl rfl fun d hd => ?_⟩
    · rw [List.getElem?_modify, hs]; simp [Sl.again, Sl.h, Sl.pe]
    · by_cases e : d = y.c
      · subst e; rw [upd_same, e1]
      · rw [upd_other e, R.fre d hd, h2 d e]
/-- No slot was freed: a new one, or none. -/
theorem Rel.fresh (R : Rel x sl fr) (hG : GoodA x) (hc : c < x.L.length) (hf : fr c = []) :
    (((sl c).length : Int) = (x.L.getD c (0, 0)).2 → x.take c = (((0, 0, 0), 7), x.tick)) ∧
      (¬ ((sl c).length : Int) = (x.L.getD c (0, 0)).2 → (x.take c).1 = (((c : Int), ((sl c).length : Int), 1), 0) ∧ (x.take c).2.fa = x.fa ∧ (x.take c).2.L = x.L ∧ Rel (x.take c).2 (upd sl c (sl c ++ [⟨true, 1, []⟩])) fr) := by
  have hl : lastAt x.s x.f c x.f.length = .none := by
    cases hl : lastAt x.s x.f c x.f.length with
    | none => rfl
    | some p =>
      obtain ⟨j, y, hj, hs, hyc, h1, h2⟩ := freeOf_last hl
      have hfre := R.fre c hc
      rw [hf, h1] at hfre
      simp at hfre
  have hlen := R.len c hc
  unfold ASt.take
  rw [hl]
  simp only
  rw [← hlen]
  refine ⟨fun h => by rw [if_pos h], fun h => ?_⟩
  rw [if_neg h]
  refine ⟨rfl, rfl, rfl, fun d hd => ?_, fun z hz => ?_, fun d i e hd he => ?_, fun d hd => ?_⟩
  · have hd : d < x.L.length := hd
    have hcn : c < x.nx.length := by rw [hG.nx]; exact hc
    show _ = (x.nx.set c ((sl c).length + 1)).getD d 0
    by_cases e : d = c
    · subst e; rw [upd_same, List.length_append, List.getD_eq_getElem?_getD, List.getElem?_set, if_pos rfl, if_pos hcn]; rfl
    · rw [upd_other e, R.len d hd, List.getD_eq_getElem?_getD, List.getD_eq_getElem?_getD, List.getElem?_set, if_neg (fun q => e q.symm)]
  · have hz : z ∈ x.s ++ [(⟨c, (sl c).length, 1, true, []⟩ : Sl)] := hz
    rcases List.mem_append.1 hz with hz | hz
    · have h1 := R.fwd z hz
      by_cases e : z.c = c
      · rw [e, upd_same, ← e, List.getElem?_append_left (List.getElem?_eq_some_iff.1 h1).1]; exact h1
      · rw [upd_other e]; exact h1
    · rw [List.mem_singleton.1 hz]
      simp only [upd_same, Sl.pe]
      simp
  · have hd : d < x.L.length := hd
    by_cases ed : d = c
    · subst ed
      rw [upd_same] at he
      by_cases hi : i < (sl d).length
      · rw [List.getElem?_append_left hi] at he
        obtain ⟨z, hz, h1⟩ := R.bwd d i e hd he
        exact ⟨z, List.mem_append.2 (.inl hz), h1⟩
      · have hi2 := (List.getElem?_eq_some_iff.1 he).1
        rw [List.length_append] at hi2
        simp at hi2
        exact ⟨⟨d, (sl d).length, 1, true, []⟩, List.mem_append.2 (.inr (by simp)), rfl, by simp only; omega⟩
    · rw [upd_other ed] at he
      obtain ⟨z, hz, h1⟩ := R.bwd d i e hd he
      exact ⟨z, List.mem_append.2 (.inl hz), h1⟩
  · have hd : d < x.L.length := hd
    rw [R.fre d hd]
    show freeOf x.s x.f d = freeOf (x.s ++ _) x.f d
    unfold freeOf
    apply filterMap_same
    intro j hj
    unfold clIx
    rw [List.getElem?_append_left (hG.fin hj)]
end
end Go.Proofs.Ytenchaifnfgijaa

/- The program's arena in memory: a family of rows of one colour, the slots, the box. Conditions: none beyond those typed. -/
namespace Go.Proofs.Ytenchaifnfgijaa
open Go.ChangeShapes Go.WideShapes Go.ChangeAt Go.RowKit
set_option linter.unusedVariables false
set_option linter.unusedSimpArgs false
set_option maxRecDepth 100000

/-- Bytes as elements. -/
def kB : Kind Int where
  ty := 5
  sl := 89
  k := 1
  by_ := 1
  zero := .int .u8 0
  enc := fun z => [.int .u8 z]
  pos := by omega
  len := fun _ => rfl
  one := fun a u hu => by rw [List.mem_singleton.1 hu]; rfl
  under := Try.underlying89
  info := by kernel_rfl
  zk := rfl
  small := by omega
theorem cellsB (l : List Int) : cellsK kB l = l.map (Value.int .u8) := by
  induction l with
  | nil => rfl
  | cons a r ih => rw [cellsK_cons, ih]; rfl
theorem OwnK.toOwn {w : World} {v : Value} {l : List Int} (h : OwnK kB w v l) (hb : ∀ z ∈ l, 0 ≤ z ∧ z ≤ 255) : Own w 0 v l := by
  refine ⟨?_, hb⟩
  have h1 : w.ownsRow 0 kB.ty kB.k v l.length (cellsK kB l) := h
  rw [cellsB] at h1; exact h1
theorem Own.toK {w : World} {v : Value} {l : List Int} (h : Own w 0 v l) : OwnK kB w v l := by
  show w.ownsRow 0 kB.ty kB.k v l.length (cellsK kB l)
  rw [cellsB]; exact h.1
/-- A slot in memory: the slot, and where its bytes lie. -/
abbrev PEm := PE × Option Addr × Nat × Nat
def PEm.enc (r : PEm) : List Value := [.bool r.1.u, .int .i64 r.1.a, .slice r.2.1 r.2.2.1 r.2.2.2]
def PEm.v (r : PEm) : Value := .slice r.2.1 r.2.2.1 r.2.2.2
def kE : Kind PEm where
  ty := 106
  sl := 68
  k := 3
  by_ := 40
  zero := .agg #[.bool false, .int .i64 0, .slice none 0 0]
  enc := PEm.enc
  pos := by omega
  len := fun _ => rfl
  one := fun a u hu => by simp [PEm.enc] at hu; rcases hu with rfl | rfl | rfl <;> rfl
  under := Try.underlying68
  info := by kernel_rfl
  zk := rfl
  small := by omega
/-- Rows of one colour, no two in one block. -/
structure Fam {ι α : Type} (D : ι → Prop) (K : Kind α) (col : Col) (w : World) (c : Nat) (v : ι → Value) (l : ι → List α) : Prop where
  own : ∀ i, D i → OwnKc K col w c (v i) (l i)
  apart : ∀ i j q, D i → D j → (v i).ownBlock = some q → (v j).ownBlock = some q → i = j
section
variable {ι α : Type} {D D' : ι → Prop} {K : Kind α} {P : Nat → Prop} {col col' : Col} {w w' : World} {c k g n d : Nat} {v v1 : ι → Value} {l l1 : ι → List α} {i : ι} {u : Value}
theorem Fam.keep (h : Fam D K col w c v l) (hs : StepC P col w col' w') (hp : ¬ P c) : Fam D K col' w' c v l := ⟨fun i hi => (h.own i hi).keep hs hp, h.apart⟩
theorem Fam.congr (h : Fam D K col w c v l) (hD : ∀ i, D' i → D i) (hv : ∀ i, D' i → v1 i = v i) (hl : ∀ i, D' i → l1 i = l i) : Fam D' K col w c v1 l1 :=
  ⟨fun i hi => by rw [hv i hi, hl i hi]; exact h.own i (hD i hi), fun i j q hi hj e1 e2 => by rw [hv i hi] at e1; rw [hv j hj] at e2; exact h.apart i j q (hD i hi) (hD j hj) e1 e2⟩
variable [DecidableEq ι]
/-- A cell of one of its rows is written. -/
theorem Fam.store (h : Fam D K col w c v l) (hi : D i) (hv : v i = .slice (some ⟨g, 0, none⟩) n d) {j q : Nat} {a a' : α} (ha : (l i)[j]? = some a) (hq : q < K.k) (he : K.enc a' = (K.enc a).set q u) :
    Fam D K col (w.setCell ⟨g, j * K.k + q, none⟩ u) c v (upd l i ((l i).set j a')) := by
  refine ⟨fun x hx => ?_, h.apart⟩
  by_cases e : x = i
  · subst e
    have h1 := h.own x hx
    rw [hv] at h1 ⊢
    rw [upd_same]
    exact h1.set ha hq he
  · rw [upd_other e]
    have h1 := h.own x hx
    refine ⟨h1.own.far fun q' hq' => ?_, h1.col⟩
    exact Below.heap_setCell _ _ _ _ (by
      show q' ≠ g
      rintro rfl
      exact e (h.apart x i q' hx hi hq' (by rw [hv]; rfl)))
/-- One of its rows has grown. -/
theorem Fam.app (h : Fam D K col w c v l) (ht : Tidy col w) {v' : Value} {l' : List α} (hi : D i) (ho : OwnK K w' v' l') (hg : w.grownBy w' (v i).ownBlock) (hat : v'.ownBlock = (v i).ownBlock ∨ v'.ownBlock = some w.heap.size) :
    Fam D K (dye col v'.ownBlock c) w' c (upd v i v') (upd l i l') := by
  have hne : ∀ x, D x → x ≠ i → ∀ q, (v x).ownBlock = some q → v'.ownBlock ≠ some q := fun x hx e q hq hq' => by
    rcases hat with ha | ha
    · exact e (h.apart x i q hx hi hq (ha.symm.trans hq'))
    · rw [ha] at hq'; injection hq' with hq'
      have := (h.own x hx).own.lt q hq
      omega
  refine ⟨fun x hx => ?_, fun x y q hx hy e1 e2 => ?_⟩
  · by_cases e : x = i
    · subst e; rw [upd_same, upd_same]; exact ⟨ho, HasCol.dye v' c⟩
    · rw [upd_other e, upd_other e]
      have h1 := h.own x hx
      exact ⟨h1.own.grown hg fun q hq hr => e (h.apart x i q hx hi hq hr), fun q hq => by rw [dye_no (hne x hx e q hq)]; exact h1.col q hq⟩
  · by_cases ex : x = i
    · by_cases ey : y = i
      · rw [ex, ey]
      · rw [ex, upd_same] at e1; rw [upd_other ey] at e2
        exact absurd e1 (hne y hy ey q e2)
    · by_cases ey : y = i
      · rw [ey, upd_same] at e2; rw [upd_other ex] at e1
        exact absurd e2 (hne x hx ex q e1)
      · rw [upd_other ex] at e1; rw [upd_other ey] at e2; exact h.apart x y q hx hy e1 e2
/-- One of its rows is seen otherwise (a shorter slice of it). -/
theorem Fam.cut (h : Fam D K col w c v l) {v' : Value} {l' : List α} (hi : D i) (ho : OwnK K w v' l') (hb : v'.ownBlock = (v i).ownBlock) : Fam D K col w c (upd v i v') (upd l i l') := by
  refine ⟨fun x hx => ?_, fun x y q hx hy e1 e2 => ?_⟩
  · by_cases e : x = i
    · subst e; rw [upd_same, upd_same]; exact ⟨ho, fun q hq => (h.own x hx).col q (hb ▸ hq)⟩
    · rw [upd_other e, upd_other e]; exact h.own x hx
  · have e1' : (v x).ownBlock = some q := by
      by_cases ex : x = i
      · rw [ex, upd_same, hb] at e1; rw [ex]; exact e1
      · rw [upd_other ex] at e1; exact e1
    have e2' : (v y).ownBlock = some q := by
      by_cases ey : y = i
      · rw [ey, upd_same, hb] at e2; rw [ey]; exact e2
      · rw [upd_other ey] at e2; exact e2
    exact h.apart x y q hx hy e1' e2'
end
theorem OwnK.cutTo {α : Type} {K : Kind α} {w : World} {A : Option Addr} {n c : Nat} {l : List α} (h : OwnK K w (.slice A n c) l) {j : Nat} (hj : j ≤ n) : OwnK K w (.slice A j c) (l.take j) := by
  have hl := h.len
  have hj' : (l.take j).length = j := by rw [List.length_take]; omega
  show World.ownsRow w 0 K.ty K.k _ (l.take j).length _
  rw [hj']
  refine ⟨by rw [cellsK_length, hj'], ?_⟩
  rcases h.2 with ⟨e, hn⟩ | ⟨g, cap, cur, e, hbg, hg, hnc, hcm, hcs, htake⟩
  · injection e with e1 e2 e3
    subst e1 e3
    left
    have : j = 0 := by omega
    exact ⟨by rw [this], this⟩
  · injection e with e1 e2 e3
    subst e1 e3
    right
    refine ⟨g, c, cur, rfl, hbg, hg, by omega, hcm, hcs, ?_⟩
    have e : cellsK K l = cellsK K (l.take j) ++ cellsK K (l.drop j) := by rw [← cellsK_append, List.take_append_drop]
    have h2 := congrArg (List.take (j * K.k)) htake
    rw [List.take_take, e, List.take_append_of_le_length (by rw [cellsK_length, hj']; exact Nat.le_refl _), Nat.min_eq_left (Nat.mul_le_mul_right _ (by omega))] at h2
    rw [h2]
    exact List.take_of_length_le (by rw [cellsK_length, hj']; exact Nat.le_refl _)
/-- The box. -/
def pbox (A : Option Addr) (n c : Nat) (vS vF : Nat → Value) (fa : Int) : Array Value := #[.slice A n c, vS 0, vS 1, vS 2, vS 3, vS 4, vS 5, vS 6, vS 7, vF 0, vF 1, vF 2, vF 3, vF 4, vF 5, vF 6, vF 7, .int .i64 fa]
section
variable {A : Option Addr} {n c : Nat} {vS vF : Nat → Value} {fa : Int} {u : Value}
theorem pbox_S {i : Nat} (h : i < 8) : (pbox A n c vS vF fa)[1 + i]? = some (vS i) := by
  match i, h with
  | 0, _ => rfl
  | 1, _ => rfl
  | 2, _ => rfl
  | 3, _ => rfl
  | 4, _ => rfl
  | 5, _ => rfl
  | 6, _ => rfl
  | 7, _ => rfl
theorem pbox_F {i : Nat} (h : i < 8) : (pbox A n c vS vF fa)[9 + i]? = some (vF i) := by
  match i, h with
  | 0, _ => rfl
  | 1, _ => rfl
  | 2, _ => rfl
  | 3, _ => rfl
  | 4, _ => rfl
  | 5, _ => rfl
  | 6, _ => rfl
  | 7, _ => rfl
theorem pbox_setS {i : Nat} (h : i < 8) : (pbox A n c vS vF fa).setIfInBounds (1 + i) u = pbox A n c (upd vS i u) vF fa := by
  match i, h with
  | 0, _ => rfl
  | 1, _ => rfl
  | 2, _ => rfl
  | 3, _ => rfl
  | 4, _ => rfl
  | 5, _ => rfl
  | 6, _ => rfl
  | 7, _ => rfl
theorem pbox_setF {i : Nat} (h : i < 8) : (pbox A n c vS vF fa).setIfInBounds (9 + i) u = pbox A n c vS (upd vF i u) fa := by
  match i, h with
  | 0, _ => rfl
  | 1, _ => rfl
  | 2, _ => rfl
  | 3, _ => rfl
  | 4, _ => rfl
  | 5, _ => rfl
  | 6, _ => rfl
  | 7, _ => rfl
end
/-- Where the bytes of the slots lie. -/
def bvOf (sl : Nat → List PEm) (p : Nat × Nat) : Value := ((sl p.1)[p.2]?.map PEm.v).getD (.slice none 0 0)
def blOf (sl : Nat → List PEm) (p : Nat × Nat) : List Int := ((sl p.1)[p.2]?.map fun r => r.1.b).getD []
theorem bv_set {sl : Nat → List PEm} {c i : Nat} {r : PEm} (hi : i < (sl c).length) : bvOf (upd sl c ((sl c).set i r)) = upd (bvOf sl) (c, i) r.v := by
  funext ⟨d, j⟩
  unfold bvOf
  by_cases hd : d = c
  · subst hd
    simp only [upd_same, List.getElem?_set]
    by_cases hj : i = j
    · subst hj; simp [hi, upd_same]
    · rw [if_neg hj, upd_other (fun e => hj (by injection e with _ e; exact e.symm))]
  · simp only [upd_other hd]
    rw [upd_other (fun e => hd (by injection e with e _))]
theorem bl_set {sl : Nat → List PEm} {c i : Nat} {r : PEm} (hi : i < (sl c).length) : blOf (upd sl c ((sl c).set i r)) = upd (blOf sl) (c, i) r.1.b := by
  funext ⟨d, j⟩
  unfold blOf
  by_cases hd : d = c
  · subst hd
    simp only [upd_same, List.getElem?_set]
    by_cases hj : i = j
    · subst hj; simp [hi, upd_same]
    · rw [if_neg hj, upd_other (fun e => hj (by injection e with _ e; exact e.symm))]
  · simp only [upd_other hd]
    rw [upd_other (fun e => hd (by injection e with e _))]
theorem bv_snoc {sl : Nat → List PEm} {c : Nat} {r : PEm} (hr : r.v = .slice none 0 0) : bvOf (upd sl c (sl c ++ [r])) = bvOf sl := by
  funext ⟨d, j⟩
  unfold bvOf
  by_cases hd : d = c
  · subst hd
    simp only [upd_same, List.getElem?_append]
    split
    · rfl
    · rename_i hj
      rw [List.getElem?_eq_none (Nat.le_of_not_lt hj)]
      cases h : [r][j - (sl d).length]? with
      | none => rfl
      | some z => have := List.mem_of_getElem? h; rw [List.mem_singleton.1 this]; exact hr
  · simp only [upd_other hd]
theorem bl_snoc {sl : Nat → List PEm} {c : Nat} {r : PEm} (hr : r.1.b = []) : blOf (upd sl c (sl c ++ [r])) = blOf sl := by
  funext ⟨d, j⟩
  unfold blOf
  by_cases hd : d = c
  · subst hd
    simp only [upd_same, List.getElem?_append]
    split
    · rfl
    · rename_i hj
      rw [List.getElem?_eq_none (Nat.le_of_not_lt hj)]
      cases h : [r][j - (sl d).length]? with
      | none => rfl
      | some z => have := List.mem_of_getElem? h; rw [List.mem_singleton.1 this]; exact hr
  · simp only [upd_other hd]
def D8 (i : Nat) : Prop := i < 8
def D88 (p : Nat × Nat) : Prop := p.1 < 8
/-- The object's colours but the one of its results. -/
def Inn (k c : Nat) : Prop := k ≤ c ∧ c < k + 15
theorem Inn.rng {k : Nat} : ∀ c, Inn k c → Rng k c := fun c h => ⟨h.1, by have := h.2; omega⟩
/-- The program's arena lies in block g. -/
structure ArB (col : Col) (k : Nat) (w : World) (g : Nat) (L : List (Int × Int)) (sl : Nat → List PEm) (fr : Nat → List Nat) (fa : Int) (AL : Option Addr) (cL : Nat) (vS vF : Nat → Value) : Prop where
  box : BoxC col w g k (pbox AL L.length cL vS vF fa) 72
  cls : RdK0 kC col w AL L.length cL L
  rowS : Fam D8 kE col w (k + 1) vS sl
  rowF : Fam D8 kI col w (k + 2) vF fun c => ints (fr c)
  rowB : Fam D88 kB col w (k + 3) (bvOf sl) (blOf sl)
  k1 : 1 ≤ k
section
variable {P : Nat → Prop} {col col' : Col} {w w' : World} {k g : Nat} {L : List (Int × Int)} {sl : Nat → List PEm} {fr : Nat → List Nat} {fa : Int} {AL : Option Addr} {cL : Nat} {vS vF : Nat → Value}
theorem ArB.keep (h : ArB col k w g L sl fr fa AL cL vS vF) (hs : StepC P col w col' w') (hp : ∀ c, Rng k c → ¬ P c) (h0 : ¬ P 0) : ArB col' k w' g L sl fr fa AL cL vS vF :=
  ⟨h.box.keep hs (hp _ ⟨Nat.le_refl _, by omega⟩), h.cls.keep hs h0, h.rowS.keep hs (hp _ ⟨by omega, by omega⟩), h.rowF.keep hs (hp _ ⟨by omega, by omega⟩), h.rowB.keep hs (hp _ ⟨by omega, by omega⟩), h.k1⟩
theorem ArB.below (h : ArB col k w g L sl fr fa AL cL vS vF) (ht : Tidy col w) (hb : Below w.heap.size w w') : ArB col k w' g L sl fr fa AL cL vS vF := h.keep (P := fun _ => False) (StepC.below ht hb) (fun _ _ h => h) (fun h => h)
theorem ArB.c0 (h : ArB col k w g L sl fr fa AL cL vS vF) : w.cell? ⟨g, 0, none⟩ = some (.slice AL L.length cL) := h.box.cell 0 rfl
theorem ArB.cS (h : ArB col k w g L sl fr fa AL cL vS vF) {c : Nat} (hc : c < 8) : w.cell? ⟨g, 1 + c, none⟩ = some (vS c) := h.box.cell _ (pbox_S hc)
theorem ArB.cF (h : ArB col k w g L sl fr fa AL cL vS vF) {c : Nat} (hc : c < 8) : w.cell? ⟨g, 9 + c, none⟩ = some (vF c) := h.box.cell _ (pbox_F hc)
theorem ArB.c17 (h : ArB col k w g L sl fr fa AL cL vS vF) : w.cell? ⟨g, 17, none⟩ = some (.int .i64 fa) := h.box.cell 17 rfl
/-- A class's slots: the slice's form. -/
theorem ArB.formS (h : ArB col k w g L sl fr fa AL cL vS vF) {c : Nat} (hc : c < 8) : ∃ A m, vS c = .slice A (sl c).length m ∧ (sl c).length ≤ m ∧ m ≤ 9223372036854775807 ∧ (0 < (sl c).length → ∃ b, A = some ⟨b, 0, none⟩ ∧ b < w.heap.size ∧ col b = k + 1) := by
  obtain ⟨A, m, e, hr, hh⟩ := (h.rowS.own c hc).own.form rfl
  refine ⟨A, m, e, hr.cap, hr.max, fun hn => ?_⟩
  rcases hh with ⟨_, h2, _⟩ | ⟨b, rfl, hb⟩
  · rw [h2] at hn; simp at hn
  · exact ⟨b, rfl, hb, (h.rowS.own c hc).col b (by rw [e]; rfl)⟩
theorem ArB.formF (h : ArB col k w g L sl fr fa AL cL vS vF) {c : Nat} (hc : c < 8) : ∃ A m, vF c = .slice A (fr c).length m ∧ (fr c).length ≤ m ∧ m ≤ 9223372036854775807 ∧ (0 < (fr c).length → ∃ b, A = some ⟨b, 0, none⟩ ∧ b < w.heap.size ∧ col b = k + 2) := by
  obtain ⟨A, m, e, hr, hh⟩ := (h.rowF.own c hc).own.form (n := (fr c).length) (by simp [ints])
  refine ⟨A, m, e, hr.cap, hr.max, fun hn => ?_⟩
  rcases hh with ⟨_, h2, _⟩ | ⟨b, rfl, hb⟩
  · have : (ints (fr c)).length = 0 := by rw [h2]; rfl
    simp [ints] at this; rw [this] at hn; simp at hn
  · exact ⟨b, rfl, hb, (h.rowF.own c hc).col b (by rw [e]; rfl)⟩
theorem ArB.slot (h : ArB col k w g L sl fr fa AL cL vS vF) {c i b n m : Nat} {r : PEm} (hc : c < 8) (hv : vS c = .slice (some ⟨b, 0, none⟩) n m) (hr : (sl c)[i]? = some r) :
    w.cell? ⟨b, i * 3, none⟩ = some (.bool r.1.u) ∧ w.cell? ⟨b, i * 3 + 1, none⟩ = some (.int .i64 r.1.a) ∧ w.cell? ⟨b, i * 3 + 2, none⟩ = some r.v ∧ (∀ q, w.frozen? ⟨b, q, none⟩ = false) := by
  have h1 := (h.rowS.own c hc).own
  rw [hv] at h1
  exact ⟨h1.cell hr (i := 0) rfl, h1.cell hr (i := 1) rfl, h1.cell hr (i := 2) rfl, fun q => h1.free q⟩
theorem ArB.bytes (h : ArB col k w g L sl fr fa AL cL vS vF) {c i : Nat} {r : PEm} (hc : c < 8) (hr : (sl c)[i]? = some r) : OwnKc kB col w (k + 3) r.v r.1.b := by
  have h1 := h.rowB.own (c, i) hc
  have e1 : bvOf sl (c, i) = r.v := by unfold bvOf; simp only; rw [hr]; rfl
  have e2 : blOf sl (c, i) = r.1.b := by unfold blOf; simp only; rw [hr]; rfl
  rw [e1, e2] at h1; exact h1
/-- The mark or the age of a slot is written. -/
theorem ArB.setS (h : ArB col k w g L sl fr fa AL cL vS vF) (ht : Tidy col w) {c i b n m q : Nat} {r r' : PEm} {u : Value} (hc : c < 8) (hv : vS c = .slice (some ⟨b, 0, none⟩) n m) (hr : (sl c)[i]? = some r) (hq : q < 3) (he : PEm.enc r' = (PEm.enc r).set q u)
    (hB : Fam D88 kB col w (k + 3) (bvOf (upd sl c ((sl c).set i r'))) (blOf (upd sl c ((sl c).set i r')))) :
    ArB col k (w.setCell ⟨b, i * 3 + q, none⟩ u) g L (upd sl c ((sl c).set i r')) fr fa AL cL vS vF ∧ StepC (Inn k) col w col (w.setCell ⟨b, i * 3 + q, none⟩ u) := by
  have hcb : col b = k + 1 := (h.rowS.own c hc).col b (by rw [hv]; rfl)
  have hs : StepC (fun c => c = k + 1) col w col (w.setCell ⟨b, i * 3 + q, none⟩ u) := StepC.set ht hcb _
  have h0 : ¬ (0 = k + 1) := by omega
  exact ⟨⟨h.box.keep hs (by omega), h.cls.keep hs h0, h.rowS.store hc hv hr hq he, h.rowF.keep hs (by omega), hB.keep hs (by omega), h.k1⟩, hs.mono fun c e => by subst e; exact ⟨by omega, by omega⟩⟩
/-- Bytes stay where they are. -/
theorem ArB.same (h : ArB col k w g L sl fr fa AL cL vS vF) {c i : Nat} {r r' : PEm} (hr : (sl c)[i]? = some r) (h1 : r'.2 = r.2) (h2 : r'.1.b = r.1.b) : Fam D88 kB col w (k + 3) (bvOf (upd sl c ((sl c).set i r'))) (blOf (upd sl c ((sl c).set i r'))) := by
  have hi := (List.getElem?_eq_some_iff.1 hr).1
  refine h.rowB.congr (fun i h => h) (fun p _ => ?_) (fun p _ => ?_)
  · rw [bv_set hi]
    by_cases e : p = (c, i)
    · subst e; rw [upd_same]; unfold bvOf PEm.v; simp only; rw [hr, h1]; rfl
    · rw [upd_other e]
  · rw [bl_set hi]
    by_cases e : p = (c, i)
    · subst e; rw [upd_same]; unfold blOf; simp only; rw [hr, h2]; rfl
    · rw [upd_other e]
/-- A fault is counted. -/
theorem ArB.fault (h : ArB col k w g L sl fr fa AL cL vS vF) (ht : Tidy col w) (z : Int) : ArB col k (w.setCell ⟨g, 17, none⟩ (.int .i64 z)) g L sl fr z AL cL vS vF ∧ StepC (Rng k) col w col (w.setCell ⟨g, 17, none⟩ (.int .i64 z)) := by
  have hP : Rng k (col g) := by rw [h.box.col]; exact ⟨Nat.le_refl _, by omega⟩
  have hs : StepC (fun c => c = k) col w col (w.setCell ⟨g, 17, none⟩ (.int .i64 z)) := StepC.set ht h.box.col _
  have h0 : ¬ (0 = k) := by have := h.k1; omega
  exact ⟨⟨h.box.put 17 (.int .i64 z), h.cls.keep hs h0, h.rowS.keep hs (by omega), h.rowF.keep hs (by omega), h.rowB.keep hs (by omega), h.k1⟩, StepC.set ht hP _⟩
/-- A class's free list has got a row, or a shorter one. -/
theorem ArB.putF (h : ArB col k w g L sl fr fa AL cL vS vF) (hs : StepC (fun c => c = k + 2) col w col' w') {c : Nat} (hc : c < 8) {v : Value} {l : List Nat} (hF : Fam D8 kI col' w' (k + 2) (upd vF c v) (fun d => ints (upd fr c l d))) :
    ArB col' k (w'.setCell ⟨g, 9 + c, none⟩ v) g L sl (upd fr c l) fa AL cL vS (upd vF c v) ∧ StepC (Inn k) col w col' (w'.setCell ⟨g, 9 + c, none⟩ v) := by
  have h0 : ¬ (0 = k + 2) := by omega
  have h1 := h.box.keep hs (by omega)
  have hs2 : StepC (fun c => c = k) col' w' col' (w'.setCell ⟨g, 9 + c, none⟩ v) := StepC.set hs.tidy h1.col _
  have hk := h.k1
  have h00 : ¬ (0 = k) := by omega
  have h3 := h1.put (9 + c) v
  rw [pbox_setF hc] at h3
  exact ⟨⟨h3, (h.cls.keep hs h0).keep hs2 h00, (h.rowS.keep hs (by omega)).keep hs2 (by omega), hF.keep hs2 (by omega), (h.rowB.keep hs (by omega)).keep hs2 (by omega), h.k1⟩,
    (hs.mono fun c e => by subst e; exact ⟨by omega, by omega⟩).trans (hs2.mono fun c e => by subst e; exact ⟨by omega, by omega⟩)⟩
/-- A class's slots have got a row. -/
theorem ArB.putS (h : ArB col k w g L sl fr fa AL cL vS vF) (hs : StepC (fun c => c = k + 1) col w col' w') {c : Nat} (hc : c < 8) {v : Value} {l : List PEm} (hF : Fam D8 kE col' w' (k + 1) (upd vS c v) (upd sl c l))
    (hb1 : bvOf (upd sl c l) = bvOf sl) (hb2 : blOf (upd sl c l) = blOf sl) :
    ArB col' k (w'.setCell ⟨g, 1 + c, none⟩ v) g L (upd sl c l) fr fa AL cL (upd vS c v) vF ∧ StepC (Inn k) col w col' (w'.setCell ⟨g, 1 + c, none⟩ v) := by
  have h0 : ¬ (0 = k + 1) := by omega
  have h1 := h.box.keep hs (by omega)
  have hs2 : StepC (fun c => c = k) col' w' col' (w'.setCell ⟨g, 1 + c, none⟩ v) := StepC.set hs.tidy h1.col _
  have hk := h.k1
  have h00 : ¬ (0 = k) := by omega
  have h3 := h1.put (1 + c) v
  rw [pbox_setS hc] at h3
  exact ⟨⟨h3, (h.cls.keep hs h0).keep hs2 h00, hF.keep hs2 (by omega), (h.rowF.keep hs (by omega)).keep hs2 (by omega), by rw [hb1, hb2]; exact (h.rowB.keep hs (by omega)).keep hs2 (by omega), h.k1⟩,
    (hs.mono fun c e => by subst e; exact ⟨by omega, by omega⟩).trans (hs2.mono fun c e => by subst e; exact ⟨by omega, by omega⟩)⟩
end
end Go.Proofs.Ytenchaifnfgijaa

/- The program's arena in memory: the slot of a handle. Conditions: none beyond those typed. -/
namespace Go.Proofs.Ytenchaifnfgijaa
open Go.ChangeShapes Go.WideShapes Go.ChangeAt Go.RowKit
set_option linter.unusedVariables false
set_option linter.unusedSimpArgs false
set_option maxRecDepth 100000

/-- A handle's box. -/
theorem hbox (w : World) (p q r : Int) : let W := w.alloc (.cells #[.int .i64 p, .int .i64 q, .int .i64 r] 81)
    W.cell? ⟨w.heap.size, 0, none⟩ = some (.int .i64 p) ∧ W.cell? ⟨w.heap.size, 1, none⟩ = some (.int .i64 q) ∧ W.cell? ⟨w.heap.size, 2, none⟩ = some (.int .i64 r) ∧ Below w.heap.size w W :=
  ⟨by rw [World.cell?_alloc_at _ _ _ _ rfl]; rfl, by rw [World.cell?_alloc_at _ _ _ _ rfl]; rfl, by rw [World.cell?_alloc_at _ _ _ _ rfl]; rfl, (Below.refl _ _).alloc (Nat.le_refl _) _⟩
section
variable {col : Col} {w : World} {k g : Nat} {L : List (Int × Int)} {sl : Nat → List PEm} {fr : Nat → List Nat} {fa : Int} {AL : Option Addr} {cL : Nat} {vS vF : Nat → Value}
set_option maxHeartbeats 1000000 in
theorem find_in (H : ArB col k w g L sl fr fa AL cL vS vF) (ht : Tidy col w) (h8 : L.length ≤ 8) {c i b m : Nat} (hc : c < L.length) (hi : i < (sl c).length) (hm : (sl c).length ≤ 1000000) (hv : vS c = .slice (some ⟨b, 0, none⟩) (sl c).length m) (r : Int) :
    Calls Try.prog 52 #[.pointer (some ⟨g, 0, none⟩), .agg #[.int .i64 c, .int .i64 i, .int .i64 r]] w
      fun e w' => e = .returned (.pointer (some ⟨b, i * 3, none⟩)) ∧ Below w.heap.size w w' := by
  obtain ⟨b0, b1, b2, hB⟩ := hbox w c i r
  have H1 := H.below ht hB
  have x0 := H1.c0
  have x1 := H1.cS (c := c) (by omega)
  rw [hv] at x1
  have hcapL := H.cls.rd.cap
  have hmaxL := H.cls.rd.max
  obtain ⟨A', m', e1, e2, e3, _⟩ := H.formS (c := c) (by omega)
  rw [hv] at e1
  injection e1 with e1 e4 e5
  subst e5
  generalize hN : (sl c).length = N at *
  clear H1 H hN e1 hv
  go_enter Try.func52, Try.ntmps52
  go_wp2
  go_quiet (fail)
  go_wp2
  go_quiet (fail)
  go_wp2
  go_ret
  exact ⟨rfl, below_drewN hB _⟩
set_option maxHeartbeats 1000000 in
theorem find_low (H : ArB col k w g L sl fr fa AL cL vS vF) (ht : Tidy col w) (h8 : L.length ≤ 8) {p : Int} (hp : p < 0 ∨ (L.length : Int) ≤ p) (q r : Int) :
    Calls Try.prog 52 #[.pointer (some ⟨g, 0, none⟩), .agg #[.int .i64 p, .int .i64 q, .int .i64 r]] w
      fun e w' => e = .returned (.pointer none) ∧ Below w.heap.size w w' := by
  obtain ⟨b0, b1, b2, hB⟩ := hbox w p q r
  have H1 := H.below ht hB
  have x0 := H1.c0
  have hcapL := H.cls.rd.cap
  have hmaxL := H.cls.rd.max
  clear H1 H
  by_cases h0 : p < 0
  · clear hp
    have hd : decide (p < 0) = true := decide_eq_true h0
    go_enter Try.func52, Try.ntmps52
    go_wp2
    go_quiet (fail)
    go_wp2
    go_ret
    exact ⟨rfl, below_drewN hB _⟩
  · have hp' : (L.length : Int) ≤ p := by omega
    have hd : decide (p < 0) = false := decide_eq_false h0
    clear hp
    go_enter Try.func52, Try.ntmps52
    go_wp2
    go_quiet (fail)
    go_wp2
    go_ret
    exact ⟨rfl, below_drewN hB _⟩
set_option maxHeartbeats 1000000 in
theorem find_off (H : ArB col k w g L sl fr fa AL cL vS vF) (ht : Tidy col w) (h8 : L.length ≤ 8) {c : Nat} (hc : c < L.length) (hm : (sl c).length ≤ 1000000) {q : Int} (hq : q < 0 ∨ ((sl c).length : Int) ≤ q) (r : Int) :
    Calls Try.prog 52 #[.pointer (some ⟨g, 0, none⟩), .agg #[.int .i64 c, .int .i64 q, .int .i64 r]] w
      fun e w' => e = .returned (.pointer none) ∧ Below w.heap.size w w' := by
  obtain ⟨b0, b1, b2, hB⟩ := hbox w c q r
  have H1 := H.below ht hB
  have x0 := H1.c0
  have x1 := H1.cS (c := c) (by omega)
  have hcapL := H.cls.rd.cap
  have hmaxL := H.cls.rd.max
  obtain ⟨A', m, hv, e2, e3, _⟩ := H.formS (c := c) (by omega)
  rw [hv] at x1
  generalize hN : (sl c).length = N at *
  clear H1 H hN hv
  by_cases h0 : q < 0
  · clear hq
    have hd : decide (q < 0) = true := decide_eq_true h0
    go_enter Try.func52, Try.ntmps52
    go_wp2
    go_quiet (fail)
    go_wp2
    go_quiet (fail)
    go_wp2
    go_ret
    exact ⟨rfl, below_drewN hB _⟩
  · have hp' : (N : Int) ≤ q := by omega
    have hd : decide (q < 0) = false := decide_eq_false h0
    clear hq
    go_enter Try.func52, Try.ntmps52
    go_wp2
    go_quiet (fail)
    go_wp2
    go_quiet (fail)
    go_wp2
    go_ret
    exact ⟨rfl, below_drewN hB _⟩
end
end Go.Proofs.Ytenchaifnfgijaa

/- The program's arena in memory: whether a handle is live. Conditions: none beyond those typed. -/
namespace Go.Proofs.Ytenchaifnfgijaa
open Go.ChangeShapes Go.WideShapes Go.ChangeAt Go.RowKit
set_option linter.unusedVariables false
set_option linter.unusedSimpArgs false
set_option maxRecDepth 100000

section
variable {col : Col} {w : World} {k g : Nat} {L : List (Int × Int)} {sl : Nat → List PEm} {fr : Nat → List Nat} {fa : Int} {AL : Option Addr} {cL : Nat} {vS vF : Nat → Value}
set_option maxHeartbeats 1000000 in
theorem live_yes (H : ArB col k w g L sl fr fa AL cL vS vF) (ht : Tidy col w) (h8 : L.length ≤ 8) {c i b m : Nat} {e : PEm} (hc : c < L.length) (he : (sl c)[i]? = some e) (hu : e.1.u = true) (hm : (sl c).length ≤ 1000000) (hv : vS c = .slice (some ⟨b, 0, none⟩) (sl c).length m) :
    Calls Try.prog 44 #[.pointer (some ⟨g, 0, none⟩), .agg #[.int .i64 c, .int .i64 i, .int .i64 e.1.a]] w
      fun e w' => e = .returned (.tuple #[.pointer (some ⟨b, i * 3, none⟩), .int .i64 0]) ∧ Below w.heap.size w w' := by
  obtain ⟨b0, b1, b2, hB⟩ := hbox w c i e.1.a
  have H1 := H.below ht hB
  have hi := (List.getElem?_eq_some_iff.1 he).1
  go_enter Try.func44, Try.ntmps44
  go_wp2_with fail
  refine (find_in H1 (ht.size hB.size) h8 hc hi hm hv _).mono ?_
  rintro e2 w2 ⟨rfl, hB2⟩
  have H2 := H1.below (ht.size hB.size) hB2
  obtain ⟨s0, s1, _, _⟩ := H2.slot (c := c) (by omega) hv he
  have b2' := c_keep b2 hB2
  rw [hu] at s0
  have hB3 := hB.trans (hB2.mono hB.size)
  generalize e.1.a = a at *
  clear H1 H2 H b0 b1 b2 he hB hB2
  go_wp2
  go_quiet (fail)
  go_wp2
  go_ret2
  exact ⟨rfl, below_drewN hB3 _⟩
/-- A handle that is not live. -/
def Dead (L : List (Int × Int)) (sl : Nat → List PEm) (h : Hd) : Prop := ∀ (c i : Nat) (e : PEm), c < L.length → (sl c)[i]? = some e → e.1.u = true → h ≠ ((c : Int), (i : Int), (e.1.a : Int))
set_option maxHeartbeats 1000000 in
theorem live_none (H : ArB col k w g L sl fr fa AL cL vS vF) (ht : Tidy col w) (h8 : L.length ≤ 8) (hf : 0 ≤ fa ∧ fa ≤ 1000000000) {p q r : Int}
    (hfind : ∀ w1, ArB col k w1 g L sl fr fa AL cL vS vF → Tidy col w1 → Calls Try.prog 52 #[.pointer (some ⟨g, 0, none⟩), .agg #[.int .i64 p, .int .i64 q, .int .i64 r]] w1 fun e w' => e = .returned (.pointer none) ∧ Below w1.heap.size w1 w') :
    Calls Try.prog 44 #[.pointer (some ⟨g, 0, none⟩), .agg #[.int .i64 p, .int .i64 q, .int .i64 r]] w
      fun e w' => e = .returned (.tuple #[.pointer none, .int .i64 9]) ∧ ArB col k w' g L sl fr (fa + 1) AL cL vS vF ∧ StepC (Rng k) col w col w' := by
  obtain ⟨b0, b1, b2, hB⟩ := hbox w p q r
  have H1 := H.below ht hB
  go_enter Try.func44, Try.ntmps44
  go_wp2_with fail
  refine (hfind _ H1 (ht.size hB.size)).mono ?_
  rintro e2 w2 ⟨rfl, hB2⟩
  have H2 := H1.below (ht.size hB.size) hB2
  have b2' := c_keep b2 hB2
  have hB3 := hB.trans (hB2.mono hB.size)
  clear H1 H b0 b1 b2 hB hB2 hfind
  go_wp2
  go_quiet (fail)
  have hB4 := below_drewN hB3 nq
  have H3 := H2.below (ht.size hB3.size) (below_drewN (Below.refl w2.heap.size w2) nq)
  have x4 := H3.c17
  have f4 := H3.box.free 17
  have H5 := H3.fault (ht.size hB4.size) (fa + 1)
  have hS := (StepC.below (P := Rng k) ht hB4).trans H5.2
  clear H2 hB3 b2'
  go_wp2
  go_ret2
  exact ⟨rfl, H5.1, hS⟩
set_option maxHeartbeats 1000000 in
theorem live_other (H : ArB col k w g L sl fr fa AL cL vS vF) (ht : Tidy col w) (h8 : L.length ≤ 8) (hf : 0 ≤ fa ∧ fa ≤ 1000000000) {c i b m : Nat} {e : PEm} (hc : c < L.length) (he : (sl c)[i]? = some e) (hm : (sl c).length ≤ 1000000) (hv : vS c = .slice (some ⟨b, 0, none⟩) (sl c).length m) {r : Int} (hn : ¬ (e.1.u = true ∧ (e.1.a : Int) = r)) :
    Calls Try.prog 44 #[.pointer (some ⟨g, 0, none⟩), .agg #[.int .i64 c, .int .i64 i, .int .i64 r]] w
      fun e w' => e = .returned (.tuple #[.pointer none, .int .i64 9]) ∧ ArB col k w' g L sl fr (fa + 1) AL cL vS vF ∧ StepC (Rng k) col w col w' := by
  obtain ⟨b0, b1, b2, hB⟩ := hbox w c i r
  have H1 := H.below ht hB
  have hi := (List.getElem?_eq_some_iff.1 he).1
  go_enter Try.func44, Try.ntmps44
  go_wp2_with fail
  refine (find_in H1 (ht.size hB.size) h8 hc hi hm hv _).mono ?_
  rintro e2 w2 ⟨rfl, hB2⟩
  have H2 := H1.below (ht.size hB.size) hB2
  obtain ⟨s0, s1, _, _⟩ := H2.slot (c := c) (by omega) hv he
  have b2' := c_keep b2 hB2
  have hB3 := hB.trans (hB2.mono hB.size)
  have ht2 := ht.size hB3.size
  obtain ⟨⟨u, a, bb⟩, vv⟩ := e
  simp only at s0 s1 hn
  have x4 := H2.c17
  have f4 := H2.box.free 17
  have HH := Lib.hid H2
  clear H1 H2 H b0 b1 b2 he hB hB2
  cases u with
  | false =>
    clear hn
    go_wp2
    go_quiet (fail)
    go_wp2
    go_ret2
    have hB4 := below_drewN (Below.refl w2.heap.size w2) nq
    have H5 := (HH.out.below ht2 hB4).fault (ht2.size hB4.size) (fa + 1)
    exact ⟨rfl, H5.1, ((StepC.below (P := Rng k) ht hB3).trans (StepC.below ht2 hB4)).trans H5.2⟩
  | true =>
    have hn' : ¬ (a : Int) = r := fun h => hn ⟨rfl, h⟩
    have hd : decide ((a : Int) = r) = false := decide_eq_false hn'
    clear hn
    go_wp2
    go_quiet (fail)
    go_wp2
    go_ret2
    have hB4 := below_drewN (Below.refl w2.heap.size w2) nq
    have H5 := (HH.out.below ht2 hB4).fault (ht2.size hB4.size) (fa + 1)
    exact ⟨rfl, H5.1, ((StepC.below (P := Rng k) ht hB3).trans (StepC.below ht2 hB4)).trans H5.2⟩
theorem live_no (H : ArB col k w g L sl fr fa AL cL vS vF) (ht : Tidy col w) (h8 : L.length ≤ 8) (hf : 0 ≤ fa ∧ fa ≤ 1000000000) (hm : ∀ c, c < L.length → (sl c).length ≤ 1000000) {h : Hd} (hd : Dead L sl h) :
    Calls Try.prog 44 #[.pointer (some ⟨g, 0, none⟩), .agg #[.int .i64 h.1, .int .i64 h.2.1, .int .i64 h.2.2]] w
      fun e w' => e = .returned (.tuple #[.pointer none, .int .i64 9]) ∧ ArB col k w' g L sl fr (fa + 1) AL cL vS vF ∧ StepC (Rng k) col w col w' := by
  obtain ⟨p, q, r⟩ := h
  by_cases h1 : p < 0 ∨ (L.length : Int) ≤ p
  · exact live_none H ht h8 hf fun w1 H1 ht1 => find_low H1 ht1 h8 h1 q r
  · obtain ⟨c, rfl⟩ : ∃ c : Nat, p = (c : Int) := ⟨p.toNat, by omega⟩
    have hc : c < L.length := by omega
    by_cases h2 : q < 0 ∨ ((sl c).length : Int) ≤ q
    · exact live_none H ht h8 hf fun w1 H1 ht1 => find_off H1 ht1 h8 hc (hm c hc) h2 r
    · obtain ⟨i, rfl⟩ : ∃ i : Nat, q = (i : Int) := ⟨q.toNat, by omega⟩
      have hi : i < (sl c).length := by omega
      have he : (sl c)[i]? = some (sl c)[i] := List.getElem?_eq_getElem hi
      obtain ⟨A, m, hv, _, _, hA⟩ := H.formS (c := c) (by omega)
      obtain ⟨b, rfl, _, _⟩ := hA (by omega)
      exact live_other H ht h8 hf hc he (hm c hc) hv fun hn => hd c i _ hc he hn.1 (by rw [hn.2])
end
end Go.Proofs.Ytenchaifnfgijaa

/- The program's arena in memory, as the statements' walks carry it. Conditions: none beyond those typed. -/
namespace Go.Proofs.Ytenchaifnfgijaa
open Go.ChangeShapes Go.WideShapes Go.ChangeAt Go.RowKit
set_option linter.unusedVariables false
set_option linter.unusedSimpArgs false
set_option maxRecDepth 100000

def plain (sl : Nat → List PEm) : Nat → List PE := fun c => (sl c).map Prod.fst
/-- The program's arena x lies in block g. -/
def PAr : Rep := fun col k w g x => GoodA x ∧ ∃ (sl : Nat → List PEm) (fr : Nat → List Nat) (AL : Option Addr) (cL : Nat) (vS vF : Nat → Value), Rel x (plain sl) fr ∧ ArB col k w g x.L sl fr (x.fa : Int) AL cL vS vF
theorem PAr.keep {P : Nat → Prop} {col col' : Col} {w w' : World} {k g : Nat} {x : ASt} (h : PAr col k w g x) (hs : StepC P col w col' w') (hp : ∀ c, Rng k c → ¬ P c) (h0 : ¬ P 0) : PAr col' k w' g x := by
  obtain ⟨hg, _, _, _, _, _, _, R, h⟩ := h
  exact ⟨hg, _, _, _, _, _, _, R, h.keep hs hp h0⟩
section
variable {x : ASt} {sl : Nat → List PEm} {fr : Nat → List Nat} {c i : Nat} {e : PEm}
theorem plain_at (he : (sl c)[i]? = some e) : (plain sl c)[i]? = some e.1 := by unfold plain; rw [List.getElem?_map, he]; rfl
theorem plain_upd {l : List PEm} : plain (upd sl c l) = upd (plain sl) c (l.map Prod.fst) := by
  funext d
  unfold plain
  by_cases h : d = c
  · subst h; rw [upd_same, upd_same]
  · rw [upd_other h, upd_other h]
theorem plain_set {r : PEm} : plain (upd sl c ((sl c).set i r)) = upd (plain sl) c ((plain sl c).set i r.1) := by rw [plain_upd, List.map_set]; rfl
theorem plain_len : (plain sl c).length = (sl c).length := by unfold plain; rw [List.length_map]
theorem Rel.few (R : Rel x (plain sl) fr) (hG : GoodA x) (hc : c < x.L.length) : (sl c).length ≤ 65536 := by
  have h1 := R.len c hc
  rw [plain_len] at h1
  have hcn : c < x.nx.length := by rw [hG.nx]; exact hc
  have hg : x.nx[c]? = some x.nx[c] := List.getElem?_eq_getElem hcn
  rw [getD_at hg] at h1
  rw [h1]; exact hG.nxle hg
theorem freeOf_len (s : List Sl) (c : Nat) : ∀ f : List Nat, (freeOf s f c).length ≤ f.length
  | [] => Nat.le_refl _
  | a :: r => by
    have := freeOf_len s c r
    unfold freeOf at this ⊢
    rw [List.filterMap_cons]
    split <;> simp <;> omega
theorem Rel.fewF (R : Rel x (plain sl) fr) (hG : GoodA x) (hc : c < x.L.length) : (fr c).length ≤ 524288 := by
  rw [R.fre c hc]
  exact Nat.le_trans (freeOf_len _ _ _) hG.fewF
theorem Rel.dead (R : Rel x (plain sl) fr) (hG : GoodA x) {h : Hd} (hd : Dead x.L sl h) : x.find h = .none := R.none hG fun c i e hc he hu => by
  unfold plain at he
  rw [List.getElem?_map] at he
  cases hs : (sl c)[i]? with
  | none => rw [hs] at he; simp at he
  | some z =>
    rw [hs] at he
    simp at he
    subst he
    exact hd c i z hc hs hu
theorem dead_or (L : List (Int × Int)) (sl : Nat → List PEm) (h : Hd) : Dead L sl h ∨ ∃ (c i : Nat) (e : PEm), c < L.length ∧ (sl c)[i]? = some e ∧ e.1.u = true ∧ h = ((c : Int), (i : Int), (e.1.a : Int)) := by
  by_cases hd : Dead L sl h
  · exact .inl hd
  · refine .inr (Classical.byContradiction fun hn => hd fun c i e hc he hu hh => hn ⟨c, i, e, hc, he, hu, hh⟩)
end
theorem Fam.ints {col : Col} {w : World} {c0 c : Nat} {v : Nat → Value} {fr : Nat → List Nat} {v' : Value} {l : List Int} (h : Fam D8 kI col w c0 (upd v c v') (upd (fun d => Go.Proofs.Ytenchaifnfgijaa.ints (fr d)) c l)) (l' : List Nat) (e : l = Go.Proofs.Ytenchaifnfgijaa.ints l') :
    Fam D8 kI col w c0 (upd v c v') (fun d => Go.Proofs.Ytenchaifnfgijaa.ints (upd fr c l' d)) :=
  h.congr (fun _ h => h) (fun _ _ => rfl) fun d _ => by
    by_cases hd : d = c
    · subst hd; rw [upd_same, upd_same, e]
    · rw [upd_other hd, upd_other hd]
theorem ints_snoc (l : List Nat) (i : Nat) : ints (l ++ [i]) = ints l ++ [(i : Int)] := by simp [ints]
end Go.Proofs.Ytenchaifnfgijaa
