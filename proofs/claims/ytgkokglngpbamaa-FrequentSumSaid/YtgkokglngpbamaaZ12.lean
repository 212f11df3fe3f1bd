/- Words laid together in one text. Conditions: none beyond those typed. -/
import Derived.Test.YtgkokglngpbamaaFqmath
import Derived.Test.YtgkokglngpbamaaZ11
import Derived.Test.YtgkokglngpbamaaZ04
import Derived.Test.YtgkokglngpbamaaZ03
import Derived.Test.YtgkokglngpbamaaShelfc
import Derived.Test.YtgkokglngpbamaaBase
/- The program's tables (Misra-Gries) as plain data: an index of the tracked keys' numbers, and what each call does to it. Conditions: none beyond those typed. -/
namespace Go.Proofs.Ytgkokglngpbamaa
set_option linter.unusedVariables false
set_option linter.unusedSimpArgs false

/-- The index m holds the numbers of the table t. -/
structure LkF (t : TSt) (m : MSt Int) : Prop where
  n : m.n = t.m
  gM : GoodM m
  gT : GoodF t
  sz : ∀ e ∈ t.l, Sz e.1
  mem : ∀ s v, m.look s = some v ↔ (s, v, 0) ∈ t.l
/-- A number is set; a key of which nothing is left is gone. -/
def setP (m : MSt Int) (s : ByteArray) (v : Int) : MSt Int := if v = 0 then m.del s else (m.put s v).2
/-- The lesser one of w and the least number. -/
def minP (w : Int) (l : List (ByteArray × Int)) : Int := l.foldl (fun d p => min d p.2) w
section
variable {t : TSt} {m m' : MSt Int} {s k : ByteArray} {v w d : Int} {e : En} {i : Nat} {l : List En}
theorem GoodF.zero (G : GoodF t) (h : e ∈ t.l) : e = (e.1, e.2.1, 0) := by
  obtain ⟨_, h2, _⟩ := G.pos e h
  obtain ⟨a, b, c⟩ := e
  simp only at h2
  rw [h2]
theorem LkF.at_ (L : LkF t m) (h : e ∈ t.l) : m.look e.1 = some e.2.1 := (L.mem _ _).2 (by rw [← L.gT.zero h]; exact h)
theorem LkF.some_ (L : LkF t m) (hp : placeE t.l s = Option.some i) (hi : t.l[i]? = Option.some e) : m.look s = Option.some e.2.1 ∧ e ∈ t.l ∧ e.1 = s := by
  obtain ⟨e', hi', he, _⟩ := placeE_some hp
  rw [hi] at hi'; injection hi' with hi'; subst hi'
  have hm := List.mem_of_getElem? hi
  exact ⟨by rw [← he]; exact L.at_ hm, hm, he⟩
theorem LkF.none_ (L : LkF t m) (hp : placeE t.l s = none) : m.look s = none := by
  cases h : m.look s with
  | none => rfl
  | some v => exact absurd rfl (placeE_none hp _ ((L.mem _ _).1 h))
theorem LkF.get (L : LkF t m) (s : ByteArray) : getG (0 : Int) m s = ((t.getF s).1.2.1, (t.getF s).2) := by
  unfold getG TSt.getF
  cases hp : placeE t.l s with
  | none => rw [L.none_ hp]; rfl
  | some i =>
    obtain ⟨e, hi, he, _⟩ := placeE_some hp
    rw [(L.some_ hp hi).1]
    simp only [hi]
    rfl
theorem perm_of (hn : (l.map Prod.fst).Nodup) (hM : Srt m.l) (hm : ∀ s v, m.look s = some v ↔ ∃ z, (s, v, z) ∈ l) : (l.map fun e => (e.1, e.2.1)).Perm m.l := by
  have h1 : (l.map fun e : En => (e.1, e.2.1)).Nodup := by
    have : ((l.map fun e : En => (e.1, e.2.1)).map Prod.fst).Nodup := by rw [List.map_map]; exact hn
    exact (List.pairwise_map.1 this).imp fun h e => h (by rw [e])
  have h2 : m.l.Nodup := by
    refine List.Pairwise.imp (fun {a b} h => ?_) hM
    rintro rfl
    rw [sless_irrefl] at h; cases h
  refine (List.perm_ext_iff_of_nodup h1 h2).2 fun p => ?_
  obtain ⟨s, v⟩ := p
  rw [← look_mem hM]
  show _ ↔ m.look s = some v
  rw [hm]
  constructor
  · intro h
    obtain ⟨⟨a, b, c⟩, he, h2⟩ := List.mem_map.1 h
    simp only [Prod.mk.injEq] at h2
    obtain ⟨rfl, rfl⟩ := h2
    exact ⟨c, he⟩
  · rintro ⟨z, hz⟩
    exact List.mem_map.2 ⟨_, hz, rfl⟩
theorem mem0 (hz : ∀ e ∈ l, e.2.2 = 0) {s : ByteArray} {v : Int} : (∃ z, (s, v, z) ∈ l) ↔ (s, v, 0) ∈ l :=
  ⟨fun ⟨z, h⟩ => by have h2 := hz _ h; simp only at h2; rw [h2] at h; exact h, fun h => ⟨0, h⟩⟩
theorem LkF.perm (L : LkF t m) : (t.l.map fun e => (e.1, e.2.1)).Perm m.l :=
  perm_of L.gT.nd L.gM.srt fun s v => (L.mem s v).trans (mem0 fun e he => (L.gT.pos e he).2.1).symm
theorem LkF.len (L : LkF t m) : m.l.length = t.l.length := by rw [← L.perm.length_eq, List.length_map]
theorem LkF.few (L : LkF t m) : m.l.length ≤ 64 ∧ m.l.length ≤ m.n := ⟨by have := L.len; have := L.gT.len; have := L.gT.m1; omega, L.gM.len⟩
theorem LkF.memL (L : LkF t m) {p : ByteArray × Int} (h : p ∈ m.l) : (p.1, p.2, 0) ∈ t.l := (L.mem _ _).1 ((look_mem L.gM.srt).2 h)
theorem LkF.szL (L : LkF t m) {p : ByteArray × Int} (h : p ∈ m.l) : Sz p.1 := L.sz _ (L.memL h)
theorem LkF.sorted (L : LkF t m) : sortE (t.l.map t.tellF) = m.l.map fun p => (p.1, p.2, t.base) := by
  have hn : ((t.l.map t.tellF).map Prod.fst).Nodup := by rw [List.map_map]; exact L.gT.nd
  refine srt_same_mem (sortE_srt hn) (List.pairwise_map.2 L.gM.srt) fun x => ?_
  rw [(sortE_perm _).mem_iff]
  constructor
  · intro h
    obtain ⟨e, he, rfl⟩ := List.mem_map.1 h
    exact List.mem_map.2 ⟨(e.1, e.2.1), (look_mem L.gM.srt).1 (L.at_ he), rfl⟩
  · intro h
    obtain ⟨p, hp, rfl⟩ := List.mem_map.1 h
    exact List.mem_map.2 ⟨_, L.memL hp, rfl⟩
theorem LkF.new {n : Nat} (h : 1 ≤ n ∧ n ≤ 64) : LkF (newT n) (newM Int n) :=
  ⟨rfl, newM_good h.1 (by omega), newF_good h, fun e he => by simp [newT] at he, fun s v => by rw [newM_look]; simp [newT]⟩
/-- What is left without an entry. -/
theorem without_mem (hn : (l.map Prod.fst).Nodup) (hi : l[i]? = some e) (x : En) : x ∈ withoutE l i ↔ x ∈ l ∧ x.1 ≠ e.1 := by
  obtain ⟨_, _, a3, a4, a5⟩ := without_at hi
  obtain ⟨_, a7⟩ := a4 hn
  refine ⟨fun h => ⟨a3 x h, a7 x h⟩, fun ⟨h, hne⟩ => ?_⟩
  rcases a5 x h with h1 | h1
  · exact h1
  · rw [h1] at hne; exact absurd rfl hne
theorem LkF.own (L : LkF t m) (h : k.size ≠ 0) (hw : w ≠ 0) (h0 : 0 ≤ w) (hf : fitsB t.sum w = true) (hs : Sz k) (hp : placeE t.l k = some i) (hi : t.l[i]? = some e) : (m.put k (e.2.1 + w)).1 = 0 ∧ LkF (t.addF k w).2 (m.put k (e.2.1 + w)).2 ∧ (t.addF k w).1 = 0 ∧ (t.addF k w).2.sum = t.sum + w ∧ (t.addF k w).2.base = t.base := by
  obtain ⟨hl, hm, he⟩ := L.some_ hp hi
  have hA := addF_own h hw hf hp hi he
  have G := L.gT.addF k h0
  rw [hA] at G ⊢
  obtain ⟨p1, p2⟩ := put_old hl (e.2.1 + w)
  refine ⟨p1, ⟨by rw [put_n]; exact L.n, L.gM.put _ _, G, fun x hx => ?_, fun s v => ?_⟩, rfl, rfl, rfl⟩
  · rcases List.mem_append.1 hx with h1 | h1
    · exact L.sz x ((without_mem L.gT.nd hi x).1 h1).1
    · rw [List.mem_singleton.1 h1]; show Sz e.1; rw [he]; exact hs
  · rw [put_look L.gM k _ p1, List.mem_append, without_mem L.gT.nd hi, List.mem_singleton, L.gT.zero hm]
    by_cases hsk : s = k
    · subst hsk
      rw [if_pos rfl]
      constructor
      · intro h; injection h with h; right; rw [← h, he]
      · rintro (⟨_, h⟩ | h)
        · exact absurd he.symm h
        · simp only [Prod.mk.injEq] at h; rw [h.2.1]
    · rw [if_neg hsk, L.mem]
      constructor
      · exact fun h => .inl ⟨h, fun hc => hsk (hc.trans he)⟩
      · rintro (h | h)
        · exact h.1
        · simp only [Prod.mk.injEq] at h; exact absurd (h.1.trans he) hsk
theorem LkF.room (L : LkF t m) (h : k.size ≠ 0) (hw : w ≠ 0) (h0 : 0 ≤ w) (hf : fitsB t.sum w = true) (hs : Sz k) (hp : placeE t.l k = none) (hl : t.l.length ≠ t.m) : (m.put k w).1 = 0 ∧ LkF (t.addF k w).2 (m.put k w).2 ∧ (t.addF k w).1 = 0 ∧ (t.addF k w).2.sum = t.sum + w ∧ (t.addF k w).2.base = t.base := by
  have hA := addF_room h hw hf hp hl
  have G := L.gT.addF k h0
  rw [hA] at G ⊢
  have hno := placeE_none hp
  obtain ⟨p1, p2⟩ := put_fresh (L.none_ hp) (by rw [L.len, L.n]; exact hl) w
  refine ⟨p1, ⟨by rw [put_n]; exact L.n, L.gM.put _ _, G, fun x hx => ?_, fun s v => ?_⟩, rfl, rfl, rfl⟩
  · rcases List.mem_append.1 hx with h1 | h1
    · exact L.sz x h1
    · rw [List.mem_singleton.1 h1]; exact hs
  · rw [put_look L.gM k _ p1, List.mem_append, List.mem_singleton]
    by_cases hsk : s = k
    · subst hsk
      rw [if_pos rfl]
      constructor
      · intro h; injection h with h; right; rw [h]
      · rintro (h | h)
        · exact absurd rfl (hno _ h)
        · simp only [Prod.mk.injEq] at h; rw [h.2.1]
    · rw [if_neg hsk, L.mem]
      constructor
      · exact .inl
      · rintro (h | h)
        · exact h
        · simp only [Prod.mk.injEq] at h; exact absurd h.1 hsk
theorem LkF.noRoom (L : LkF t m) (hp : placeE t.l k = none) (hl : t.l.length = t.m) (v : Int) : m.put k v = (7, m) := put_no (L.none_ hp) (by rw [L.len, L.n]; exact hl) v
theorem LkF.take (L : LkF t m) (s : ByteArray) : LkF (t.take s) (m.del s) := by
  have G := L.gT.take s
  unfold TSt.take at G ⊢
  cases hp : placeE t.l s with
  | none => rw [hp] at G; rw [del_not (L.none_ hp)]; exact L
  | some i =>
    rw [hp] at G
    obtain ⟨e, hi, he, _⟩ := placeE_some hp
    refine ⟨by rw [del_n]; exact L.n, L.gM.del _, G, fun x hx => L.sz x ((without_mem L.gT.nd hi x).1 hx).1, fun s' v => ?_⟩
    rw [del_look L.gM]
    show _ ↔ (s', v, 0) ∈ withoutE t.l i
    rw [without_mem L.gT.nd hi, he]
    by_cases h : s' = s
    · rw [if_pos h]; exact ⟨fun h => (by cases h), fun h2 => absurd h h2.2⟩
    · rw [if_neg h, L.mem]; exact ⟨fun h2 => ⟨h2, h⟩, fun h2 => h2.1⟩
/-- An exchange. -/
theorem LkF.swap (L : LkF t m) {e x : En} (hs : Sz e.1) (h1 : 0 ≤ e.2.1) (hp : placeE t.l s = some i) (hi : t.l[i]? = some x) (c1 : e.1.size ≠ 0) (c2 : placeE t.l e.1 = none) (c3 : ¬ (e.2.1 = 0 ∨ x.2.1 < e.2.1 ∨ t.base < e.2.2)) :
    t.swapF s e = (((t.getF s).1, 0), { t with l := withoutE t.l i ++ [(e.1, e.2.1, 0)] }) ∧ LkF (t.swapF s e).2 ((m.del s).put e.1 e.2.1).2 := by
  have hox : ownAt t.l i = x.2.1 := by unfold ownAt; rw [hi]; rfl
  have hS : t.swapF s e = (((t.getF s).1, 0), { t with l := withoutE t.l i ++ [(e.1, e.2.1, 0)] }) := by
    unfold TSt.swapF
    rw [hp]
    show (if e.1.size = 0 then _ else _ : (En × Int) × TSt) = _
    rw [if_neg c1, c2, if_neg (by simp), hox, if_neg c3]
  have G := L.gT.swapF s (e := e) h1
  refine ⟨hS, ?_⟩
  rw [hS] at G ⊢
  obtain ⟨hl, hm, hx⟩ := L.some_ hp hi
  have hno := placeE_none c2
  have D := del_gone L.gM hl
  have gD := L.gM.del s
  have hle := L.gM.len
  have hlk : (m.del s).look e.1 = none := by rw [del_look L.gM]; split; rfl; exact L.none_ c2
  obtain ⟨p1, p2⟩ := put_fresh hlk (by rw [del_n]; omega) e.2.1
  refine ⟨by rw [put_n, del_n]; exact L.n, gD.put _ _, G, fun y hy => ?_, fun s' v => ?_⟩
  · rcases List.mem_append.1 hy with h | h
    · exact L.sz y ((without_mem L.gT.nd hi y).1 h).1
    · rw [List.mem_singleton.1 h]; exact hs
  · rw [put_look gD _ _ p1, del_look L.gM]
    show _ ↔ (s', v, 0) ∈ withoutE t.l i ++ [(e.1, e.2.1, 0)]
    rw [List.mem_append, without_mem L.gT.nd hi, List.mem_singleton, hx]
    by_cases h : s' = e.1
    · rw [if_pos h]
      constructor
      · intro h2; injection h2 with h2; right; rw [h, h2]
      · rintro (h2 | h2)
        · exact absurd h (hno _ h2.1)
        · simp only [Prod.mk.injEq] at h2; rw [h2.2.1]
    · rw [if_neg h]
      by_cases h3 : s' = s
      · rw [if_pos h3]
        constructor
        · intro h4; cases h4
        · rintro (h2 | h2)
          · exact absurd h3 h2.2
          · simp only [Prod.mk.injEq] at h2; exact absurd h2.1 h
      · rw [if_neg h3, L.mem]
        constructor
        · exact fun h2 => .inl ⟨h2, h3⟩
        · rintro (h2 | h2)
          · exact h2.1
          · simp only [Prod.mk.injEq] at h2; exact absurd h2.1 h
/-! The deduction. -/
theorem minP_snoc (l : List (ByteArray × Int)) (p : ByteArray × Int) : minP w (l ++ [p]) = min (minP w l) p.2 := by unfold minP; rw [List.foldl_append]; rfl
theorem minP_le : ∀ (l : List (ByteArray × Int)) (w : Int), minP w l ≤ w ∧ ∀ p ∈ l, minP w l ≤ p.2
  | [], w => ⟨Int.le_refl _, fun p hp => by cases hp⟩
  | x :: l, w => by
    obtain ⟨h1, h2⟩ := minP_le l (min w x.2)
    show minP (min w x.2) l ≤ w ∧ _
    refine ⟨by omega, fun p hp => ?_⟩
    rcases List.mem_cons.1 hp with rfl | hp
    · show minP (min w p.2) l ≤ p.2
      omega
    · exact h2 p hp
theorem minP_is : ∀ (l : List (ByteArray × Int)) (w : Int), minP w l = w ∨ ∃ p ∈ l, minP w l = p.2
  | [], w => .inl rfl
  | x :: l, w => by
    rcases minP_is l (min w x.2) with h | ⟨p, hp, h⟩
    · show minP (min w x.2) l = w ∨ _
      rcases Int.le_total w x.2 with h1 | h1
      · exact .inl (by omega)
      · exact .inr ⟨x, by simp, by show minP (min w x.2) l = x.2; omega⟩
    · exact .inr ⟨p, by simp [hp], h⟩
theorem LkF.least (L : LkF t m) (w : Int) : minP w m.l = minO w t.l := by
  obtain ⟨a1, a2⟩ := minP_le m.l w
  obtain ⟨b1, b2⟩ := minO_le t.l w
  have h1 : minO w t.l ≤ minP w m.l := by
    rcases minP_is m.l w with h | ⟨p, hp, h⟩
    · omega
    · have := b2 _ (L.memL hp); rw [h]; exact this
  have h2 : minP w m.l ≤ minO w t.l := by
    rcases minO_is t.l w with h | ⟨e, he, h⟩
    · omega
    · have := a2 _ ((look_mem L.gM.srt).1 (L.at_ he)); rw [h]; exact this
  omega
/-- Amid the deduction: the keys of pre have been visited. -/
structure MidP (d : Int) (m : MSt Int) (pre : List (ByteArray × Int)) (m' : MSt Int) : Prop where
  n : m'.n = m.n
  g : GoodM m'
  look : ∀ s v, m'.look s = some v ↔ ((∃ u, (s, u) ∈ pre ∧ v = u - d ∧ 0 < v) ∨ ((s, v) ∈ m.l ∧ ∀ p ∈ pre, p.1 ≠ s))
theorem MidP.start (hg : GoodM m) (d : Int) : MidP d m [] m := ⟨rfl, hg, fun s v => by
  constructor
  · exact fun h => .inr ⟨(look_mem hg.srt).1 h, fun p hp => by cases hp⟩
  · rintro (⟨u, h, _⟩ | h)
    · cases h
    · exact (look_mem hg.srt).2 h.1⟩
theorem pre_ne {pre rest : List (ByteArray × Int)} {x : ByteArray × Int} (hg : Srt m.l) (hx : m.l = pre ++ x :: rest) : x ∈ m.l ∧ ∀ p ∈ pre, p.1 ≠ x.1 := by
  refine ⟨by rw [hx]; simp, fun p hp => ?_⟩
  rw [hx] at hg
  exact sless_ne ((List.pairwise_append.1 hg).2.2 p hp x (by simp))
theorem MidP.at_ {pre rest : List (ByteArray × Int)} {x : ByteArray × Int} (h : MidP d m pre m') (hg : GoodM m) (hx : m.l = pre ++ x :: rest) : m'.look x.1 = some x.2 := by
  obtain ⟨h1, h2⟩ := pre_ne hg.srt hx
  exact (h.look _ _).2 (.inr ⟨h1, h2⟩)
theorem setP_look (hg : GoodM m') {u : Int} (hl : m'.look s = some u) (v : Int) (s' : ByteArray) : (setP m' s v).look s' = if s' = s then (if v = 0 then none else some v) else m'.look s' := by
  unfold setP
  by_cases h : v = 0
  · rw [if_pos h, del_look hg]; simp [h]
  · rw [if_neg h, put_look hg _ _ (put_old hl v).1]; simp [h]
theorem setP_good (hg : GoodM m') (s : ByteArray) (v : Int) : GoodM (setP m' s v) ∧ (setP m' s v).n = m'.n := by
  unfold setP
  split
  · exact ⟨hg.del s, del_n _ _⟩
  · exact ⟨hg.put s v, put_n _ _ _⟩
theorem MidP.next {pre rest : List (ByteArray × Int)} {x : ByteArray × Int} (h : MidP d m pre m') (hg : GoodM m) (hx : m.l = pre ++ x :: rest) (hd : d ≤ x.2) : MidP d m (pre ++ [x]) (setP m' x.1 (x.2 - d)) := by
  have hl := h.at_ hg hx
  obtain ⟨h1, h2⟩ := pre_ne hg.srt hx
  obtain ⟨g1, g2⟩ := setP_good h.g x.1 (x.2 - d)
  refine ⟨g2.trans h.n, g1, fun s v => ?_⟩
  rw [setP_look h.g hl]
  by_cases hs : s = x.1
  · rw [if_pos hs]
    subst hs
    by_cases h0 : x.2 - d = 0
    · rw [if_pos h0]
      constructor
      · intro h; cases h
      · rintro (⟨u, hu, hv, hp⟩ | ⟨_, hp⟩)
        · rcases List.mem_append.1 hu with h3 | h3
          · exact absurd rfl (h2 (x.1, u) h3)
          · have := congrArg Prod.snd (List.mem_singleton.1 h3); simp only at this; omega
        · exact absurd rfl (hp x (by simp))
    · rw [if_neg h0]
      constructor
      · intro h; injection h with h; subst h; exact .inl ⟨x.2, by simp, rfl, by omega⟩
      · rintro (⟨u, hu, hv, hp⟩ | ⟨_, hp⟩)
        · rcases List.mem_append.1 hu with h3 | h3
          · exact absurd rfl (h2 (x.1, u) h3)
          · have := congrArg Prod.snd (List.mem_singleton.1 h3); simp only at this; rw [hv, this]
        · exact absurd rfl (hp x (by simp))
  · rw [if_neg hs, h.look]
    constructor
    · rintro (⟨u, hu, hv⟩ | ⟨h3, h4⟩)
      · exact .inl ⟨u, by simp [hu], hv⟩
      · refine .inr ⟨h3, fun p hp => ?_⟩
        rcases List.mem_append.1 hp with h5 | h5
        · exact h4 p h5
        · rw [List.mem_singleton.1 h5]; exact fun e => hs e.symm
    · rintro (⟨u, hu, hv⟩ | ⟨h3, h4⟩)
      · rcases List.mem_append.1 hu with h5 | h5
        · exact .inl ⟨u, h5, hv⟩
        · exact absurd (congrArg Prod.fst (List.mem_singleton.1 h5)) hs
      · exact .inr ⟨h3, fun p hp => h4 p (by simp [hp])⟩
/-- Behind it. -/
theorem LkF.ded (L : LkF t m) (hk : k.size ≠ 0) (hw : 0 < w) (hf : fitsB t.sum w = true) (hs : Sz k) (hp : placeE t.l k = none) (hl : t.l.length = t.m) (h : MidP (minO w t.l) m m.l m') : LkF (t.addF k w).2 (setP m' k (w - minO w t.l)) ∧ (t.addF k w).1 = 0 ∧ (t.addF k w).2.sum = t.sum + w ∧ (t.addF k w).2.base = t.base + minO w t.l := by
  have hA := addF_full hk (by omega) hf hp hl
  have G := L.gT.addF k (Int.le_of_lt hw)
  rw [hA] at G ⊢
  obtain ⟨m1, m2⟩ := minO_le t.l w
  have hno := placeE_none hp
  have hlist : (fullF t k w).l = dedE (minO w t.l) t.l ++ if 0 < w - minO w t.l then [(k, w - minO w t.l, 0)] else [] := rfl
  have his := minO_is t.l w
  have hbase : (fullF t k w).base = t.base + minO w t.l := rfl
  obtain ⟨d, hd⟩ : ∃ d, minO w t.l = d := ⟨_, rfl⟩
  rw [hd] at h m1 m2 hlist his hbase ⊢
  have hlook : ∀ s v, m'.look s = some v ↔ (s, v, 0) ∈ dedE d t.l := fun s v => by
    rw [h.look]
    constructor
    · rintro (⟨u, hu, rfl, hp⟩ | ⟨h1, h2⟩)
      · exact mem_ded (e := (s, u, 0)) (L.memL hu) hp
      · exact absurd rfl (h2 _ h1)
    · intro hm
      obtain ⟨e, he, h1, h2⟩ := ded_mem hm
      simp only [Prod.mk.injEq] at h1
      obtain ⟨rfl, rfl, _⟩ := h1
      exact .inl ⟨e.2.1, (look_mem L.gM.srt).1 (L.at_ he), rfl, h2⟩
  have hknone : m'.look k = none := by
    cases hq : m'.look k with
    | none => rfl
    | some v =>
      obtain ⟨e, he, h1, _⟩ := ded_mem ((hlook _ _).1 hq)
      exact absurd (congrArg Prod.fst h1).symm (hno e he)
  refine ⟨?_, rfl, rfl, hbase⟩
  by_cases hwd : w - d = 0
  · have e1 : setP m' k (w - d) = m' := by unfold setP; rw [if_pos hwd, del_not hknone]
    rw [e1]
    rw [if_neg (by omega), List.append_nil] at hlist
    refine ⟨h.n.trans L.n, h.g, G, fun x hx => ?_, fun s v => by rw [hlist]; exact hlook s v⟩
    rw [hlist] at hx
    obtain ⟨e, he, rfl, _⟩ := ded_mem hx
    exact L.sz e he
  · have e1 : setP m' k (w - d) = (m'.put k (w - d)).2 := by unfold setP; rw [if_neg hwd]
    rw [e1]
    rw [if_pos (by omega)] at hlist
    have hlen : m'.l.length ≠ m'.n := by
      have hnd := List.Sublist.nodup (ded_keys (d := d) t.l) L.gT.nd
      have hpm := (perm_of (m := m') hnd h.g.srt fun s v => (hlook s v).trans (mem0 fun e he => by
        obtain ⟨x, hx, rfl, _⟩ := ded_mem he
        exact (L.gT.pos x hx).2.1).symm).length_eq
      rw [List.length_map] at hpm
      rcases his with h1 | ⟨e, he, h1⟩
      · omega
      · have := ded_room (d := d) m2 he h1
        rw [← hpm, h.n, L.n, ← hl]
        omega
    obtain ⟨p1, p2⟩ := put_fresh hknone hlen (w - d)
    refine ⟨by rw [put_n]; exact h.n.trans L.n, h.g.put _ _, G, fun x hx => ?_, fun s v => ?_⟩
    · rw [hlist] at hx
      rcases List.mem_append.1 hx with h1 | h1
      · obtain ⟨e, he, rfl, _⟩ := ded_mem h1
        exact L.sz e he
      · rw [List.mem_singleton.1 h1]; exact hs
    · rw [put_look h.g k _ p1, hlist, List.mem_append, List.mem_singleton]
      by_cases hsk : s = k
      · subst hsk
        rw [if_pos rfl]
        constructor
        · intro h; injection h with h; right; rw [h]
        · rintro (h1 | h1)
          · rw [(hlook _ _).2 h1] at hknone; cases hknone
          · simp only [Prod.mk.injEq] at h1; rw [h1.2.1]
      · rw [if_neg hsk, hlook]
        constructor
        · exact .inl
        · rintro (h1 | h1)
          · exact h1
          · simp only [Prod.mk.injEq] at h1; exact absurd h1.1 hsk
end
end Go.Proofs.Ytgkokglngpbamaa

/- A box for an entry that comes back: how it is written behind other steps. Conditions: none beyond those typed. -/
namespace Go.Proofs.Ytgkokglngpbamaa
open Go.ChangeShapes Go.WideShapes Go.ChangeAt Go.RowKit
set_option linter.unusedVariables false
set_option linter.unusedSimpArgs false

/-- An entry box that the walk has made is written. -/
theorem boxE {col : Col} {w0 W : World} {G : Nat} {a : En} (X3 : BoxC col W G 0 (VE a) 32) (h : w0.heap.size ≤ G) (hb : Below w0.heap.size w0 W) (e : En) :
    (((W.setCell ⟨G, 0, none⟩ (.string e.1)).setCell ⟨G, 1, none⟩ (.int .u64 e.2.1)).setCell ⟨G, 2, none⟩ (.int .u64 e.2.2)).heap[G]? = some (.cells (VE e) 32 (0, 0)) ∧ Below w0.heap.size w0 (((W.setCell ⟨G, 0, none⟩ (.string e.1)).setCell ⟨G, 1, none⟩ (.int .u64 e.2.1)).setCell ⟨G, 2, none⟩ (.int .u64 e.2.2)) ∧
      W.cell? ⟨G, 0, none⟩ = some (.string a.1) ∧ W.cell? ⟨G, 1, none⟩ = some (.int .u64 a.2.1) ∧ W.cell? ⟨G, 2, none⟩ = some (.int .u64 a.2.2) ∧ W.frozen? ⟨G, 0, none⟩ = false ∧ W.frozen? ⟨G, 1, none⟩ = false ∧ W.frozen? ⟨G, 2, none⟩ = false :=
  ⟨(vbox_en X3 e).heap, ((hb.setCell (p := ⟨G, 0, none⟩) h _).setCell (p := ⟨G, 1, none⟩) h _).setCell (p := ⟨G, 2, none⟩) h _, X3.cell 0 rfl, X3.cell 1 rfl, X3.cell 2 rfl, X3.free 0, X3.free 1, X3.free 2⟩
theorem OwnK.bound {T : List Int} {v : Int} {i : Nat} (h : ∀ z ∈ T, 0 ≤ z ∧ z ≤ 18446744073709551615) (hv : 0 ≤ v ∧ v ≤ 18446744073709551615) : ∀ z ∈ T.set i v, 0 ≤ z ∧ z ≤ 18446744073709551615 := fun z hz => by
  rcases List.mem_or_eq_of_mem_set hz with h1 | h1
  · exact h z h1
  · rw [h1]; exact hv
/-- A result's box of colour 2 is written behind an object's steps. -/
theorem vboxed {P : Nat → Prop} {c2 c3 : Col} {w W : World} {G : Nat} {a : En} (S : StepC P c2 w c3 W) (X3 : BoxC c3 W G 2 (VE a) 32) (h : w.heap.size ≤ G) (e : En) :
    StepC (fun d => d = 2) c3 W c3 (((W.setCell ⟨G, 0, none⟩ (.string e.1)).setCell ⟨G, 1, none⟩ (.int .u64 e.2.1)).setCell ⟨G, 2, none⟩ (.int .u64 e.2.2)) ∧ StepC P c2 w c3 (((W.setCell ⟨G, 0, none⟩ (.string e.1)).setCell ⟨G, 1, none⟩ (.int .u64 e.2.1)).setCell ⟨G, 2, none⟩ (.int .u64 e.2.2)) ∧ (((W.setCell ⟨G, 0, none⟩ (.string e.1)).setCell ⟨G, 1, none⟩ (.int .u64 e.2.1)).setCell ⟨G, 2, none⟩ (.int .u64 e.2.2)).heap[G]? = some (.cells (VE e) 32 (0, 0)) ∧
      W.cell? ⟨G, 0, none⟩ = some (.string a.1) ∧ W.cell? ⟨G, 1, none⟩ = some (.int .u64 a.2.1) ∧ W.cell? ⟨G, 2, none⟩ = some (.int .u64 a.2.2) ∧ W.frozen? ⟨G, 0, none⟩ = false ∧ W.frozen? ⟨G, 1, none⟩ = false ∧ W.frozen? ⟨G, 2, none⟩ = false := by
  have u1 := StepC.set (P := fun d => d = 2) (a := ⟨G, 0, none⟩) S.tidy X3.col (.string e.1)
  have u2 := StepC.set (P := fun d => d = 2) (a := ⟨G, 1, none⟩) u1.tidy X3.col (.int .u64 e.2.1)
  have u3 := StepC.set (P := fun d => d = 2) (a := ⟨G, 2, none⟩) u2.tidy X3.col (.int .u64 e.2.2)
  have g1 := StepC.inNew (a := ⟨G, 0, none⟩) S h (.string e.1)
  have g2 := StepC.inNew (a := ⟨G, 1, none⟩) g1 h (.int .u64 e.2.1)
  have g3 := StepC.inNew (a := ⟨G, 2, none⟩) g2 h (.int .u64 e.2.2)
  exact ⟨(u1.trans u2).trans u3, g3, (vbox_en X3 e).heap, X3.cell 0 rfl, X3.cell 1 rfl, X3.cell 2 rfl, X3.free 0, X3.free 1, X3.free 2⟩
end Go.Proofs.Ytgkokglngpbamaa

/- strings.Clone. Conditions: a text that fits into memory. -/
namespace Go.Proofs.Ytgkokglngpbamaa
open Go.ChangeShapes Go.WideShapes Go.ChangeAt Go.RowKit
set_option linter.unusedVariables false
set_option linter.unusedSimpArgs false
theorem clone_str (s : ByteArray) (w : World) (hlim : s.size ≤ 281474976710656) : Calls Try.prog 35 #[.string s] w fun e w' => e = .returned (.string s) ∧ Below w.heap.size w w' := by
  go_enter Try.func35, Try.ntmps35
  go_wp2_with fail
  refine (Try.stringslite_Clone s w hlim).mono ?_
  rintro e w1 ⟨rfl, hb⟩
  go_wp2
  go_ret
  exact ⟨rfl, hb⟩
end Go.Proofs.Ytgkokglngpbamaa
