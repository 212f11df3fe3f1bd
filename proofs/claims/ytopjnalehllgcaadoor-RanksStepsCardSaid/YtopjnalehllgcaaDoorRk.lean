/- The program's orders as plain data: buckets with lists of their own, and where each element lies. Conditions: none beyond those typed. -/
import Derived.Test.YtopjnalehllgcaaDoorRbks
namespace Go.Proofs.YtopjnalehllgcaaDoor
set_option linter.unusedVariables false
set_option linter.unusedSimpArgs false

/-- Where an element lies: the node of its bucket, its node there. -/
abbrev Loc := Nat → Option (Nat × Nat)
def locSet (loc : Loc) (id : Nat) (v : Option (Nat × Nat)) : Loc := fun i => if i = id then v else loc i
structure RkI (m : CSt Int) (L : List Bk) (loc : Loc) : Prop where
  good : GoodR m
  flat : m.l = flatB (L.map Bk.ids)
  asc : L.Pairwise fun a b => a.ct < b.ct
  full : ∀ e ∈ L, e.q.l ≠ []
  size : ∀ e ∈ L, e.q.n = m.n
  qs : ∀ e ∈ L, GoodC e.q
  vals : ∀ e ∈ L, ∀ p ∈ e.q.l, 0 ≤ p.2
  nds : (L.map Bk.nd).Nodup
  at_ : ∀ id b k, loc id = some (b, k) ↔ ∃ e ∈ L, e.nd = b ∧ (k, (id : Int)) ∈ e.q.l
section
variable {m : CSt Int} {L L1 L2 : List Bk} {e : Bk} {loc : Loc} {id b k : Nat} {c : Int} {K1 K2 : List (Nat × Int)}
theorem ids_mem (h : (k, (id : Int)) ∈ e.q.l) : id ∈ e.ids.2 := List.mem_map.2 ⟨(id : Int), List.mem_map.2 ⟨_, h, rfl⟩, by simp⟩
theorem RkI.of_ids (R : RkI m L loc) (he : e ∈ L) (h : id ∈ e.ids.2) : ∃ k, (k, (id : Int)) ∈ e.q.l := by
  obtain ⟨z, hz, rfl⟩ := List.mem_map.1 h
  obtain ⟨p, hp, rfl⟩ := List.mem_map.1 hz
  refine ⟨p.1, ?_⟩
  rw [Int.toNat_of_nonneg (R.vals e he p hp)]
  exact hp
/-- What is there. -/
theorem RkI.mem (R : RkI m L loc) (id : Nat) : id ∈ m.nodes ↔ (loc id).isSome = true := by
  constructor
  · intro h
    obtain ⟨p, hp, rfl⟩ := List.mem_map.1 h
    rw [R.flat] at hp
    obtain ⟨bb, hb, _, h2⟩ := flat_mem hp
    obtain ⟨e, he, rfl⟩ := List.mem_map.1 hb
    obtain ⟨k, hk⟩ := R.of_ids he h2
    rw [(R.at_ p.1 e.nd k).2 ⟨e, he, rfl, hk⟩]; rfl
  · intro h
    obtain ⟨⟨b, k⟩, hl⟩ := Option.isSome_iff_exists.1 h
    obtain ⟨e, he, _, hk⟩ := (R.at_ id b k).1 hl
    have h1 : (id, e.ids.1) ∈ m.l := by rw [R.flat]; exact flat_in (List.mem_map.2 ⟨e, he, rfl⟩) (ids_mem hk)
    exact List.mem_map.2 ⟨_, h1, rfl⟩
theorem RkI.has (R : RkI m L loc) (id : Nat) : (placeC m.l (id : Int)).isSome = (loc id).isSome := by
  rw [place_node]
  cases h : (loc id).isSome with
  | true => exact decide_eq_true ((R.mem id).2 h)
  | false => exact decide_eq_false fun hm => by have := (R.mem id).1 hm; rw [h] at this; cases this
/-- An element's bucket and its place there. -/
theorem RkI.split (R : RkI m L loc) (h : loc id = some (b, k)) : ∃ L1 e L2 K1 K2, L = L1 ++ e :: L2 ∧ e.nd = b ∧ e.q.l = K1 ++ (k, (id : Int)) :: K2 := by
  obtain ⟨e, he, hb, hk⟩ := (R.at_ id b k).1 h
  obtain ⟨L1, L2, h1⟩ := List.append_of_mem he
  obtain ⟨K1, K2, h2⟩ := List.append_of_mem hk
  exact ⟨L1, e, L2, K1, K2, h1, hb, h2⟩
theorem ids_split (h : e.q.l = K1 ++ (k, (id : Int)) :: K2) : e.ids = (e.ct, (K1.map Prod.snd).map Int.toNat ++ id :: (K2.map Prod.snd).map Int.toNat) := by
  unfold Bk.ids CSt.vals
  rw [h]; simp
theorem RkI.form (R : RkI m (L1 ++ e :: L2) loc) (h : e.q.l = K1 ++ (k, (id : Int)) :: K2) :
    m.l = flatB (L1.map Bk.ids ++ (e.ct, (K1.map Prod.snd).map Int.toNat ++ id :: (K2.map Prod.snd).map Int.toNat) :: L2.map Bk.ids) := by
  rw [R.flat, List.map_append, List.map_cons, ids_split h]
/-- Its count. -/
theorem RkI.count (R : RkI m (L1 ++ e :: L2) loc) (h : e.q.l = K1 ++ (k, (id : Int)) :: K2) : m.value 0 (id : Int) = (e.ct, 0) ∧ m.countR (id : Int) = (e.ct, true) := by
  obtain ⟨_, h2, h3⟩ := rem_in R.good.c (R.form h)
  refine ⟨h2, ?_⟩
  unfold CSt.countR
  rw [h2, h3]
theorem RkI.nd_ne (R : RkI m (L1 ++ e :: L2) loc) {e' : Bk} (h : e' ∈ L1 ++ L2) : e'.nd ≠ e.nd := fun hc => by
  have ha := R.nds
  rw [List.map_append, List.map_cons] at ha
  have h1 := (List.perm_middle (a := e.nd) (l₁ := L1.map Bk.nd) (l₂ := L2.map Bk.nd)).nodup_iff.1 ha
  refine (List.nodup_cons.1 h1).1 ?_
  rw [← hc, ← List.map_append]
  exact List.mem_map.2 ⟨e', h, rfl⟩
/-- No element lies twice. -/
theorem RkI.once (R : RkI m (L1 ++ e :: L2) loc) (h : e.q.l = K1 ++ (k, (id : Int)) :: K2) : loc id = some (e.nd, k) := (R.at_ id e.nd k).2 ⟨e, by simp, rfl, by rw [h]; simp⟩
theorem mem_mid {x : Bk} (h : x ∈ L1 ++ L2) (e : Bk) : x ∈ L1 ++ e :: L2 := by
  rcases List.mem_append.1 h with h | h <;> simp [h]
theorem mid_mem {x : Bk} (h : x ∈ L1 ++ e :: L2) : x = e ∨ x ∈ L1 ++ L2 := by
  rcases List.mem_append.1 h with h | h
  · exact .inr (by simp [h])
  · rcases List.mem_cons.1 h with h | h
    · exact .inl h
    · exact .inr (by simp [h])
/-- An element goes; its bucket stays, or goes too. -/
theorem RkI.take (R : RkI m (L1 ++ e :: L2) loc) (h : e.q.l = K1 ++ (k, (id : Int)) :: K2) :
    e.q.rem (k : Int) = { e.q with l := K1 ++ K2 } ∧ (K1 ++ K2 ≠ [] → RkI (m.rem (id : Int)) (L1 ++ { e with q := e.q.rem (k : Int) } :: L2) (locSet loc id none)) ∧ (K1 ++ K2 = [] → RkI (m.rem (id : Int)) (L1 ++ L2) (locSet loc id none)) := by
  have hq := R.qs e (by simp)
  obtain ⟨_, r2, _⟩ := rem_split hq h
  obtain ⟨f1, _, _⟩ := rem_in R.good.c (R.form h)
  have hG : GoodR (m.rem (id : Int)) := R.good.rem _
  have hn : (m.rem (id : Int)).n = m.n := by rw [f1]
  have hnd := hq.nd
  unfold CSt.nodes at hnd
  rw [h, List.map_append, List.map_cons] at hnd
  have hk : ∀ z, (k, z) ∉ K1 ++ K2 := fun z hz => by
    have h1 := (List.perm_middle (a := k) (l₁ := K1.map Prod.fst) (l₂ := K2.map Prod.fst)).nodup_iff.1 hnd
    refine (List.nodup_cons.1 h1).1 ?_
    rw [← List.map_append]
    exact List.mem_map.2 ⟨_, hz, rfl⟩
  have hat : ∀ id' b' k', id' ≠ id → (loc id' = some (b', k') ↔ (e.nd = b' ∧ (k', (id' : Int)) ∈ K1 ++ K2) ∨ ∃ e' ∈ L1 ++ L2, e'.nd = b' ∧ (k', (id' : Int)) ∈ e'.q.l) := fun id' b' k' hne => by
    rw [R.at_]
    constructor
    · rintro ⟨e', he', h1, h2⟩
      rcases mid_mem he' with rfl | h3
      · refine .inl ⟨h1, ?_⟩
        rw [h] at h2
        rcases List.mem_append.1 h2 with h4 | h4
        · simp [h4]
        · rcases List.mem_cons.1 h4 with h5 | h5
          · injection h5 with _ h5; omega
          · simp [h5]
      · exact .inr ⟨e', h3, h1, h2⟩
    · rintro (⟨h1, h2⟩ | ⟨e', h3, h1, h2⟩)
      · refine ⟨e, by simp, h1, ?_⟩
        rw [h]
        rcases List.mem_append.1 h2 with h4 | h4 <;> simp [h4]
      · exact ⟨e', mem_mid h3 e, h1, h2⟩
  have hid : ∀ b' k', ¬ ((e.nd = b' ∧ (k', (id : Int)) ∈ K1 ++ K2) ∨ ∃ e' ∈ L1 ++ L2, e'.nd = b' ∧ (k', (id : Int)) ∈ e'.q.l) := by
    intro b' k' hx
    have h0 := R.once h
    have h1 : loc id = some (b', k') := (R.at_ id b' k').2 (by
      rcases hx with ⟨h1, h2⟩ | ⟨e', h3, h1, h2⟩
      · refine ⟨e, by simp, h1, ?_⟩
        rw [h]
        rcases List.mem_append.1 h2 with h4 | h4 <;> simp [h4]
      · exact ⟨e', mem_mid h3 e, h1, h2⟩)
    rw [h0] at h1
    injection h1 with h1
    injection h1 with h1 h2
    subst h2
    rcases hx with ⟨_, h3⟩ | ⟨e', h3, h4, _⟩
    · exact hk _ h3
    · exact R.nd_ne h3 (by rw [h4, h1])
  have hasc := R.asc
  refine ⟨r2, fun hne => ?_, fun h0 => ?_⟩
  · rw [r2]
    refine ⟨hG, ?_, ?_, fun e' he' => ?_, fun e' he' => ?_, fun e' he' => ?_, fun e' he' => ?_, ?_, fun id' b' k' => ?_⟩
    · rw [f1, List.map_append, List.map_cons]
      show flatB _ = flatB (_ ++ (e.ct, ((K1 ++ K2).map Prod.snd).map Int.toNat) :: _)
      rw [List.map_append, List.map_append]
    · rw [List.pairwise_append] at hasc ⊢
      rw [List.pairwise_cons] at hasc ⊢
      obtain ⟨a1, ⟨a2, a3⟩, a4⟩ := hasc
      exact ⟨a1, ⟨a2, a3⟩, fun x hx y hy => by
        rcases List.mem_cons.1 hy with rfl | hy
        · exact a4 x hx e (by simp)
        · exact a4 x hx y (by simp [hy])⟩
    · rcases mid_mem he' with rfl | h3
      · exact hne
      · exact R.full e' (mem_mid h3 e)
    · rw [hn]
      rcases mid_mem he' with rfl | h3
      · exact R.size e (by simp)
      · exact R.size e' (mem_mid h3 e)
    · rcases mid_mem he' with rfl | h3
      · have := hq.rem (k : Int)
        rw [r2] at this
        exact this
      · exact R.qs e' (mem_mid h3 e)
    · rcases mid_mem he' with rfl | h3
      · intro p hp
        exact R.vals e (by simp) p (by rw [h]; rcases List.mem_append.1 hp with h4 | h4 <;> simp [h4])
      · exact R.vals e' (mem_mid h3 e)
    · simpa using R.nds
    · unfold locSet
      have key : (∃ e' ∈ L1 ++ { e with q := { e.q with l := K1 ++ K2 } } :: L2, e'.nd = b' ∧ (k', (id' : Int)) ∈ e'.q.l) ↔ ((e.nd = b' ∧ (k', (id' : Int)) ∈ K1 ++ K2) ∨ ∃ e' ∈ L1 ++ L2, e'.nd = b' ∧ (k', (id' : Int)) ∈ e'.q.l) := by
        constructor
        · rintro ⟨e', he', h1, h2⟩
          rcases mid_mem he' with rfl | h3
          · exact .inl ⟨h1, h2⟩
          · exact .inr ⟨e', h3, h1, h2⟩
        · rintro (⟨h1, h2⟩ | ⟨e', h3, h1, h2⟩)
          · exact ⟨{ e with q := { e.q with l := K1 ++ K2 } }, by simp, h1, h2⟩
          · exact ⟨e', mem_mid h3 _, h1, h2⟩
      rw [key]
      by_cases hi : id' = id
      · subst hi
        rw [if_pos rfl]
        exact ⟨fun hx => (by cases hx), fun hx => absurd hx (hid b' k')⟩
      · rw [if_neg hi]
        exact hat id' b' k' hi
  · refine ⟨hG, ?_, ?_, fun e' he' => R.full e' (mem_mid he' e), fun e' he' => by rw [hn]; exact R.size e' (mem_mid he' e), fun e' he' => R.qs e' (mem_mid he' e), fun e' he' => R.vals e' (mem_mid he' e), ?_, fun id' b' k' => ?_⟩
    · rw [f1]
      show flatB _ = _
      rw [← List.map_append, ← List.map_append, h0, List.map_nil, List.map_nil, flat_gone, List.map_append]
    · rw [List.pairwise_append] at hasc ⊢
      rw [List.pairwise_cons] at hasc
      obtain ⟨a1, ⟨a2, a3⟩, a4⟩ := hasc
      exact ⟨a1, a3, fun x hx y hy => a4 x hx y (by simp [hy])⟩
    · have ha := R.nds
      rw [List.map_append, List.map_cons] at ha
      have h1 := (List.perm_middle (a := e.nd) (l₁ := L1.map Bk.nd) (l₂ := L2.map Bk.nd)).nodup_iff.1 ha
      rw [List.map_append]
      exact (List.nodup_cons.1 h1).2
    · unfold locSet
      by_cases hi : id' = id
      · subst hi
        rw [if_pos rfl]
        exact ⟨fun hx => (by cases hx), fun hx => absurd (.inr hx) (hid b' k')⟩
      · rw [if_neg hi, hat id' b' k' hi, h0]
        simp
theorem flat_len (L : List Bk) : ∀ e ∈ L, e.q.l.length ≤ (flatB (L.map Bk.ids)).length := by
  intro e he
  obtain ⟨A, B, rfl⟩ := List.append_of_mem he
  rw [List.map_append, List.map_cons, flat_app, flat_cons, List.length_append, List.length_append, List.length_map]
  have : e.ids.2.length = e.q.l.length := by unfold Bk.ids CSt.vals; simp
  omega
theorem flat_len2 : ∀ (L : List Bk), (∀ e ∈ L, e.q.l ≠ []) → L.length ≤ (flatB (L.map Bk.ids)).length
  | [], _ => Nat.zero_le _
  | e :: L, h => by
    have h1 := flat_len2 L fun e' he' => h e' (by simp [he'])
    have h2 := h e (by simp)
    rw [List.map_cons, flat_cons, List.length_append, List.length_map, List.length_cons]
    have h3 : e.ids.2.length = e.q.l.length := by unfold Bk.ids CSt.vals; simp
    have h4 : e.q.l.length ≠ 0 := fun hx => h2 (List.eq_nil_of_length_eq_zero hx)
    omega
/-- There is room. -/
theorem RkI.room (R : RkI m L loc) (hno : loc id = none) (hlt : id < m.n) : m.l.length < m.n ∧ (∀ e ∈ L, e.q.l.length < e.q.n) ∧ L.length < m.n := by
  have hm : id ∉ m.nodes := fun h => by have := (R.mem id).1 h; rw [hno] at this; cases this
  have h1 : m.l.length < m.n := by
    have h2 := nodup_into (l := id :: m.nodes) (l' := List.range m.n) (List.nodup_cons.2 ⟨hm, R.good.c.nd⟩) (fun y hy => by
      rcases List.mem_cons.1 hy with rfl | h
      · exact List.mem_range.2 hlt
      · exact List.mem_range.2 (R.good.c.lt y h))
    rw [List.length_cons, nodes_len, List.length_range] at h2
    exact h2
  refine ⟨h1, fun e he => ?_, ?_⟩
  · have := flat_len L e he
    rw [← R.flat] at this
    rw [R.size e he]; omega
  · have := flat_len2 L R.full
    rw [← R.flat] at this
    omega
theorem push_is {q : CSt Int} {x : Nat} {v : Int} (h : q.l.length < q.n) (hx : freeN q.nodes = x) : q.pushB v = (((x : Int), 0), { q with l := q.l ++ [(x, v)] }) := by
  have hx' : freeN (q.l.map Prod.fst) = x := hx
  unfold CSt.pushB CSt.ins
  rw [if_neg (by omega), hx]
  unfold insC
  rw [hx', List.take_length, List.drop_length]
theorem RkI.putG (R : RkI m L loc) (hno : loc id = none) (hlt : id < m.n) (h0 : 0 ≤ c) (h1 : c ≤ 9223372036854775808) : GoodR { m with l := putR m.l id c } := by
  have hm : id ∉ m.nodes := fun h => by have := (R.mem id).1 h; rw [hno] at this; cases this
  have hp : (placeC m.l (id : Int)).isSome = false := by rw [R.has, hno]; rfl
  have h2 : m.insR (id : Int) c = (0, { m with l := putR m.l id c }) := by
    unfold CSt.insR
    rw [if_neg (by omega), if_neg (by rw [hp]; exact Bool.false_ne_true), if_neg (by omega)]
    rfl
  have h3 := R.good.insR (id : Int) c h0
  rw [h2] at h3
  exact h3
/-- An element comes into a bucket that is there. -/
theorem RkI.push (R : RkI m (L1 ++ e :: L2) loc) (hno : loc id = none) (hlt : id < m.n) {x : Nat} (hx : freeN e.q.nodes = x) :
    e.q.pushB (id : Int) = (((x : Int), 0), { e.q with l := e.q.l ++ [(x, (id : Int))] }) ∧
      RkI { m with l := putR m.l id e.ct } (L1 ++ { e with q := { e.q with l := e.q.l ++ [(x, (id : Int))] } } :: L2) (locSet loc id (some (e.nd, x))) := by
  obtain ⟨r1, r2, r3⟩ := R.room hno hlt
  have hroom := r2 e (by simp)
  have hpush := push_is (v := (id : Int)) hroom hx
  have hasc := R.asc
  rw [List.pairwise_append] at hasc
  rw [List.pairwise_cons] at hasc
  obtain ⟨a1, ⟨a2, a3⟩, a4⟩ := hasc
  obtain ⟨k0, z0, hkz⟩ : ∃ k0 z0, (k0, z0) ∈ e.q.l := by
    cases h : e.q.l with
    | nil => exact absurd h (R.full e (by simp))
    | cons p l => exact ⟨p.1, p.2, by simp⟩
  have hct : 0 ≤ e.ct ∧ e.ct ≤ 9223372036854775808 := by
    have h1 : (z0.toNat, e.ids.1) ∈ m.l := by
      rw [R.flat]
      exact flat_in (List.mem_map.2 ⟨e, by simp, rfl⟩) (List.mem_map.2 ⟨z0, List.mem_map.2 ⟨_, hkz, rfl⟩, rfl⟩)
    exact R.good.bd _ h1
  have hq := R.qs e (by simp)
  refine ⟨hpush, R.putG hno hlt hct.1 hct.2, ?_, ?_, fun e' he' => ?_, fun e' he' => ?_, fun e' he' => ?_, fun e' he' => ?_, by simpa using R.nds, fun id' b' k' => ?_⟩
  · show putR m.l id e.ct = _
    rw [R.flat, List.map_append, List.map_cons, show e.ids = (e.ct, e.q.vals.map Int.toNat) from rfl, put_in (fun b hb => ?_) (fun b hb => ?_)]
    · rw [List.map_append, List.map_cons]
      show _ = flatB (_ ++ (e.ct, ((e.q.l ++ [(x, (id : Int))]).map Prod.snd).map Int.toNat) :: _)
      rw [List.map_append, List.map_append]
      rfl
    · obtain ⟨e', he', rfl⟩ := List.mem_map.1 hb
      exact a4 e' he' e (by simp)
    · obtain ⟨e', he', rfl⟩ := List.mem_map.1 hb
      exact a2 e' he'
  · rw [List.pairwise_append, List.pairwise_cons]
    exact ⟨a1, ⟨a2, a3⟩, fun y hy z hz => by
      rcases List.mem_cons.1 hz with rfl | hz
      · exact a4 y hy e (by simp)
      · exact a4 y hy z (by simp [hz])⟩
  · rcases mid_mem he' with rfl | h3
    · simp
    · exact R.full e' (mem_mid h3 e)
  · rcases mid_mem he' with rfl | h3
    · exact R.size e (by simp)
    · exact R.size e' (mem_mid h3 e)
  · rcases mid_mem he' with rfl | h3
    · have := hq.ins e.q.l.length (id : Int)
      rw [show e.q.ins e.q.l.length (id : Int) = e.q.pushB (id : Int) from rfl, hpush] at this
      exact this
    · exact R.qs e' (mem_mid h3 e)
  · rcases mid_mem he' with rfl | h3
    · intro p hp
      rcases List.mem_append.1 hp with h4 | h4
      · exact R.vals e (by simp) p h4
      · rw [List.mem_singleton.1 h4]; show (0 : Int) ≤ (id : Int); omega
    · exact R.vals e' (mem_mid h3 e)
  · unfold locSet
    by_cases hi : id' = id
    · subst hi
      rw [if_pos rfl]
      constructor
      · intro hx'
        injection hx' with hx'; injection hx' with h1 h2
        exact ⟨{ e with q := { e.q with l := e.q.l ++ [(x, (id' : Int))] } }, by simp, h1, by rw [← h2]; simp⟩
      · rintro ⟨e', he', h1, h2⟩
        rcases mid_mem he' with rfl | h3
        · rcases List.mem_append.1 h2 with h4 | h4
          · have := (R.at_ id' e.nd k').2 ⟨e, by simp, rfl, h4⟩
            rw [hno] at this; cases this
          · have h5 := List.mem_singleton.1 h4
            injection h5 with h5 _
            rw [h5]
            exact congrArg (fun z => some (z, x)) h1
        · have := (R.at_ id' b' k').2 ⟨e', mem_mid h3 e, h1, h2⟩
          rw [hno] at this; cases this
    · rw [if_neg hi, R.at_]
      constructor
      · rintro ⟨e', he', h1, h2⟩
        rcases mid_mem he' with rfl | h3
        · exact ⟨{ e' with q := { e'.q with l := e'.q.l ++ [(x, (id : Int))] } }, by simp, h1, by show _ ∈ e'.q.l ++ _; simp [h2]⟩
        · exact ⟨e', mem_mid h3 _, h1, h2⟩
      · rintro ⟨e', he', h1, h2⟩
        rcases mid_mem he' with rfl | h3
        · refine ⟨e, by simp, h1, ?_⟩
          rcases List.mem_append.1 h2 with h4 | h4
          · exact h4
          · have h5 := List.mem_singleton.1 h4
            injection h5 with _ h5; omega
        · exact ⟨e', mem_mid h3 e, h1, h2⟩
/-- An element comes into a new bucket. -/
theorem RkI.fresh (R : RkI m (L1 ++ L2) loc) (hno : loc id = none) (hlt : id < m.n) (h1 : ∀ e ∈ L1, e.ct < c) (h2 : ∀ e ∈ L2, c < e.ct) (h0 : 0 ≤ c) (h3 : c ≤ 9223372036854775808) {x blk cc : Nat} (hx : x ∉ (L1 ++ L2).map Bk.nd) :
    (newC Int m.n).pushB (id : Int) = ((0, 0), { n := m.n, l := [(0, (id : Int))] }) ∧
      RkI { m with l := putR m.l id c } (L1 ++ { nd := x, ct := c, blk := blk, cc := cc, q := { n := m.n, l := [(0, (id : Int))] } } :: L2) (locSet loc id (some (x, 0))) := by
  obtain ⟨r1, r2, r3⟩ := R.room hno hlt
  have hn1 := R.good.c.n1
  have hf : freeN ([] : List Nat) = 0 := freeN_is (by simp) (fun j hj => absurd hj (Nat.not_lt_zero _))
  have hpush : (newC Int m.n).pushB (id : Int) = ((0, 0), { n := m.n, l := [(0, (id : Int))] }) := push_is (q := newC Int m.n) (x := 0) (v := (id : Int)) (by show 0 < m.n; omega) hf
  have hG := R.putG hno hlt h0 h3
  have hq := (newC_good (α := Int) hn1 R.good.c.n8).ins 0 (id : Int)
  rw [show (newC Int m.n).ins 0 (id : Int) = (newC Int m.n).pushB (id : Int) from rfl, hpush] at hq
  have hasc := R.asc
  rw [List.pairwise_append] at hasc
  obtain ⟨a1, a2, a3⟩ := hasc
  refine ⟨hpush, hG, ?_, ?_, fun e' he' => ?_, fun e' he' => ?_, fun e' he' => ?_, fun e' he' => ?_, ?_, fun id' b' k' => ?_⟩
  · show putR m.l id c = _
    rw [R.flat, List.map_append, put_new (fun b hb => ?_) (fun b hb => ?_)]
    · rw [List.map_append, List.map_cons]
      rfl
    · obtain ⟨e', he', rfl⟩ := List.mem_map.1 hb
      exact h1 e' he'
    · obtain ⟨e', he', rfl⟩ := List.mem_map.1 hb
      exact h2 e' he'
  · rw [List.pairwise_append, List.pairwise_cons]
    exact ⟨a1, ⟨fun y hy => h2 y hy, a2⟩, fun y hy z hz => by
      rcases List.mem_cons.1 hz with rfl | hz
      · exact h1 y hy
      · exact a3 y hy z hz⟩
  · rcases mid_mem he' with rfl | h4
    · simp
    · exact R.full e' h4
  · rcases mid_mem he' with rfl | h4
    · rfl
    · exact R.size e' h4
  · rcases mid_mem he' with rfl | h4
    · exact hq
    · exact R.qs e' h4
  · rcases mid_mem he' with rfl | h4
    · intro p hp
      rw [List.mem_singleton.1 hp]; show (0 : Int) ≤ (id : Int); omega
    · exact R.vals e' h4
  · rw [List.map_append, List.map_cons]
    refine (List.perm_middle (a := x) (l₁ := L1.map Bk.nd) (l₂ := L2.map Bk.nd)).nodup_iff.2 (List.nodup_cons.2 ⟨?_, ?_⟩)
    · rw [← List.map_append]; exact hx
    · rw [← List.map_append]; exact R.nds
  · unfold locSet
    by_cases hi : id' = id
    · subst hi
      rw [if_pos rfl]
      constructor
      · intro hx'
        injection hx' with hx'; injection hx' with g1 g2
        exact ⟨{ nd := x, ct := c, blk := blk, cc := cc, q := { n := m.n, l := [(0, (id' : Int))] } }, by simp, g1, by rw [← g2]; simp⟩
      · rintro ⟨e', he', g1, g2⟩
        rcases mid_mem he' with rfl | g3
        · have h5 := List.mem_singleton.1 g2
          injection h5 with h5 _
          rw [h5]
          exact congrArg (fun z => some (z, 0)) g1
        · have := (R.at_ id' b' k').2 ⟨e', g3, g1, g2⟩
          rw [hno] at this; cases this
    · rw [if_neg hi, R.at_]
      constructor
      · rintro ⟨e', he', g1, g2⟩
        exact ⟨e', mem_mid he' _, g1, g2⟩
      · rintro ⟨e', he', g1, g2⟩
        rcases mid_mem he' with rfl | g3
        · have h5 := List.mem_singleton.1 g2
          injection h5 with _ h5; omega
        · exact ⟨e', g3, g1, g2⟩
end
end Go.Proofs.YtopjnalehllgcaaDoor
