/- The plain mathematics of canonical keys: names in the order of their bytes, sorting by insertion, keys and how they are cut. Conditions: none beyond those typed. -/
import Derived.Lib.Bytealg
namespace Go.Proofs.Ytnmhgbdmjgejfaa
set_option linter.unusedVariables false
set_option maxRecDepth 100000
set_option linter.unusedSimpArgs false

/-- A tag: its name and its value. -/
abbrev Tg := ByteArray × ByteArray
def nm (t : Tg) : List UInt8 := t.1.data.toList
def vl (t : Tg) : List UInt8 := t.2.data.toList
def lt (a b : Tg) : Bool := Op.bytesLess (nm a) (nm b)

theorem bl_irrefl : ∀ a : List UInt8, Op.bytesLess a a = false
  | [] => rfl
  | a :: x => by simp [Op.bytesLess, bl_irrefl x, UInt8.lt_irrefl]
theorem bl_trans : ∀ a b c : List UInt8, Op.bytesLess a b = true → Op.bytesLess b c = true → Op.bytesLess a c = true
  | _, [], _, h, _ => by simp [Op.bytesLess] at h
  | _, _ :: _, [], _, h => by simp [Op.bytesLess] at h
  | [], _ :: _, _ :: _, _, _ => rfl
  | a :: x, b :: y, c :: z, h1, h2 => by
    simp only [Op.bytesLess, Bool.or_eq_true, Bool.and_eq_true, decide_eq_true_eq, beq_iff_eq] at h1 h2 ⊢
    rcases h1 with h1 | ⟨rfl, h1⟩
    · rcases h2 with h2 | ⟨rfl, h2⟩
      · exact .inl (UInt8.lt_trans h1 h2)
      · exact .inl h1
    · rcases h2 with h2 | ⟨rfl, h2⟩
      · exact .inl h2
      · exact .inr ⟨rfl, bl_trans x y z h1 h2⟩
theorem bl_total : ∀ a b : List UInt8, a = b ∨ Op.bytesLess a b = true ∨ Op.bytesLess b a = true
  | [], [] => .inl rfl
  | [], _ :: _ => .inr (.inl rfl)
  | _ :: _, [] => .inr (.inr rfl)
  | a :: x, b :: y => by
    simp only [Op.bytesLess, Bool.or_eq_true, Bool.and_eq_true, decide_eq_true_eq, beq_iff_eq]
    by_cases hab : a = b
    · subst hab
      rcases bl_total x y with rfl | h | h
      · exact .inl rfl
      · exact .inr (.inl (.inr ⟨rfl, h⟩))
      · exact .inr (.inr (.inr ⟨rfl, h⟩))
    · have : a < b ∨ b < a := by
        rw [UInt8.lt_iff_toNat_lt, UInt8.lt_iff_toNat_lt]
        have : a.toNat ≠ b.toNat := fun h => hab (UInt8.toNat_inj.1 h)
        omega
      rcases this with h | h
      · exact .inr (.inl (.inl h))
      · exact .inr (.inr (.inl h))
theorem bl_asymm {a b : List UInt8} (h : Op.bytesLess a b = true) : Op.bytesLess b a = false := by
  cases hb : Op.bytesLess b a with
  | false => rfl
  | true => have := bl_trans _ _ _ h hb; rw [bl_irrefl] at this; cases this
theorem cmp_lt : ∀ a b : List UInt8, decide (Lib.compareBytes a b < 0) = Op.bytesLess a b
  | [], [] => rfl
  | [], _ :: _ => rfl
  | _ :: _, [] => rfl
  | a :: x, b :: y => by
    rw [Lib.compareBytes, Op.bytesLess]
    have ih := cmp_lt x y
    by_cases h : a < b
    · simp [h]
    · by_cases h2 : b < a
      · have hne : a ≠ b := by rintro rfl; exact UInt8.lt_irrefl a h2
        simp [h, h2, hne]
      · have he : a = b := by
          rw [UInt8.lt_iff_toNat_lt] at h h2
          exact UInt8.toNat_inj.1 (by omega)
        subst he
        simp [h, ih]

theorem lt_irrefl (a : Tg) : lt a a = false := bl_irrefl _
theorem lt_trans {a b c : Tg} (h : lt a b = true) (h' : lt b c = true) : lt a c = true := bl_trans _ _ _ h h'
theorem lt_asymm {a b : Tg} (h : lt a b = true) : lt b a = false := bl_asymm h
theorem lt_total (a b : Tg) : nm a = nm b ∨ lt a b = true ∨ lt b a = true := bl_total _ _
theorem lt_nm {a b : Tg} (h : nm a = nm b) : lt a b = false := by unfold lt; rw [h]; exact bl_irrefl _
theorem lt_ne {a b : Tg} (h : lt a b = true) : nm a ≠ nm b := fun e => by rw [lt_nm e] at h; cases h
theorem lt_left {a b c : Tg} (h : nm a = nm b) : lt a c = lt b c := by unfold lt; rw [h]
theorem lt_right {a b c : Tg} (h : nm a = nm b) : lt c a = lt c b := by unfold lt; rw [h]
/-- a not after b, b before c: a before c. -/
theorem le_lt {a b c : Tg} (h : lt b a = false) (h' : lt b c = true) : lt a c = true := by
  rcases lt_total a b with e | e | e
  · rw [lt_left e]; exact h'
  · exact lt_trans e h'
  · rw [h] at e; cases e
theorem lt_le {a b c : Tg} (h : lt a b = true) (h' : lt c b = false) : lt a c = true := by
  rcases lt_total b c with e | e | e
  · rw [← lt_right e]; exact h
  · exact lt_trans h e
  · rw [h'] at e; cases e

/-! ### sorting by insertion -/

def ins (t : Tg) : List Tg → List Tg
  | [] => [t]
  | x :: r => if lt t x = true then t :: x :: r else x :: ins t r
def srt (l : List Tg) : List Tg := l.foldl (fun s t => ins t s) []
def Srtd (s : List Tg) : Prop := s.Pairwise fun a b => lt b a = false
def Strict (s : List Tg) : Prop := s.Pairwise fun a b => lt a b = true

theorem ins_at (t : Tg) : ∀ (s : List Tg) (j : Nat), (∀ x ∈ s.take j, lt t x = false) → (∀ x, s[j]? = some x → lt t x = true) → s.take j ++ t :: s.drop j = ins t s
  | [], j, _, _ => by simp [ins]
  | x :: r, 0, _, h2 => by
    have := h2 x rfl
    simp [ins, this]
  | x :: r, j + 1, h1, h2 => by
    have hx : lt t x = false := h1 x (by simp)
    have ih := ins_at t r j (fun y hy => h1 y (by simp [hy])) (fun y hy => h2 y (by simpa using hy))
    simp [ins, hx, ih]
theorem ins_perm (t : Tg) : ∀ s : List Tg, (ins t s).Perm (t :: s)
  | [] => List.Perm.refl _
  | x :: r => by
    unfold ins
    split
    · exact List.Perm.refl _
    · exact ((ins_perm t r).cons x).trans (List.Perm.swap t x r)
theorem ins_srtd (t : Tg) : ∀ s : List Tg, Srtd s → Srtd (ins t s)
  | [], _ => by simp [ins, Srtd]
  | x :: r, h => by
    have h' := List.pairwise_cons.1 h
    unfold ins
    split
    · rename_i hlt
      refine List.pairwise_cons.2 ⟨fun y hy => ?_, h⟩
      rcases List.mem_cons.1 hy with rfl | hy
      · exact lt_asymm hlt
      · exact lt_asymm (lt_le hlt (h'.1 y hy))
    · rename_i hlt
      have hf : lt t x = false := by simpa using hlt
      refine List.pairwise_cons.2 ⟨fun y hy => ?_, ins_srtd t r h'.2⟩
      rcases List.mem_cons.1 ((ins_perm t r).mem_iff.1 hy) with rfl | hy
      · exact hf
      · exact h'.1 y hy
theorem srt_snoc (l : List Tg) (t : Tg) : srt (l ++ [t]) = ins t (srt l) := by unfold srt; rw [List.foldl_append]; rfl
theorem srt_perm (l : List Tg) : (srt l).Perm l := by
  have : ∀ (l s : List Tg), (l.foldl (fun s t => ins t s) s).Perm (s ++ l) := by
    intro l
    induction l with
    | nil => intro s; simp
    | cons t r ih =>
      intro s
      refine (ih (ins t s)).trans ?_
      have h1 := (ins_perm t s).append_right r
      refine h1.trans ?_
      have : (t :: s) ++ r = t :: (s ++ r) := rfl
      rw [this]
      exact List.perm_middle.symm
  simpa [srt] using this l []
theorem srt_srtd (l : List Tg) : Srtd (srt l) := by
  have : ∀ (l s : List Tg), Srtd s → Srtd (l.foldl (fun s t => ins t s) s) := by
    intro l
    induction l with
    | nil => intro s h; exact h
    | cons t r ih => intro s h; exact ih _ (ins_srtd t s h)
  exact this l [] List.Pairwise.nil
theorem srt_length (l : List Tg) : (srt l).length = l.length := (srt_perm l).length_eq
theorem Strict.srtd {s : List Tg} (h : Strict s) : Srtd s := h.imp fun h => lt_asymm h
theorem Strict.nodup {s : List Tg} (h : Strict s) : (s.map nm).Nodup := by
  rw [List.Nodup, List.pairwise_map]
  exact h.imp fun h => lt_ne h
theorem strict_of {s : List Tg} (h : Srtd s) (hn : (s.map nm).Nodup) : Strict s := by
  rw [List.Nodup, List.pairwise_map] at hn
  refine (List.pairwise_and_iff.2 ⟨h, hn⟩).imp ?_
  rintro a b ⟨h1, h2⟩
  rcases lt_total a b with e | e | e
  · exact absurd e h2
  · exact e
  · rw [h1] at e; cases e

/-- Two tags of the list have the same name. -/
def dup (l : List Tg) : Bool := !decide ((l.map nm).Nodup)
theorem dup_perm {l m : List Tg} (h : l.Perm m) : dup l = dup m := by
  unfold dup
  have := (h.map nm).nodup_iff
  rw [decide_eq_decide.2 this]
theorem dup_srt (l : List Tg) : dup (srt l) = dup l := dup_perm (srt_perm l)
theorem dup_of_strict {l : List Tg} (h : Strict (srt l)) : dup l = false := by
  rw [← dup_srt]; unfold dup; simp [h.nodup]
theorem srt_strict {l : List Tg} (h : dup l = false) : Strict (srt l) := by
  refine strict_of (srt_srtd l) ?_
  have := (dup_srt l).trans h
  unfold dup at this
  simpa using this
/-- Lists with the same tags, of different names, are sorted alike. -/
theorem srt_perm_eq {l m : List Tg} (h : l.Perm m) (hd : dup l = false) : srt l = srt m := by
  have h1 := srt_strict hd
  have h2 : Strict (srt m) := srt_strict ((dup_perm h).symm.trans hd)
  refine List.Perm.eq_of_pairwise (le := fun a b => lt a b = true) ?_ h1 h2 (((srt_perm l).trans h).trans (srt_perm m).symm)
  intro a b _ _ hab hba
  rw [lt_asymm hab] at hba; cases hba
theorem srt_srt {l : List Tg} (hd : dup l = false) : srt (srt l) = srt l := srt_perm_eq (srt_perm l) ((dup_srt l).trans hd)

/-- Neighbours with the same name. -/
def rep : List Tg → Bool
  | a :: b :: r => (nm a == nm b) || rep (b :: r)
  | _ => false
theorem rep_iff : ∀ s : List Tg, Srtd s → rep s = dup s
  | [], _ => by simp [rep, dup]
  | [a], _ => by simp [rep, dup]
  | a :: b :: r, h => by
    have h' := List.pairwise_cons.1 h
    have ih := rep_iff (b :: r) h'.2
    unfold rep
    rw [ih]
    unfold dup
    by_cases hab : nm a = nm b
    · simp [hab]
    · have hlt : lt a b = true := by
        rcases lt_total a b with e | e | e
        · exact absurd e hab
        · exact e
        · rw [h'.1 b (by simp)] at e; cases e
      have hna : nm a ∉ (b :: r).map nm := by
        intro hm
        obtain ⟨x, hx, he⟩ := List.mem_map.1 hm
        rcases List.mem_cons.1 hx with rfl | hx
        · exact hab he.symm
        · have : lt a x = true := lt_le hlt ((List.pairwise_cons.1 h'.2).1 x hx)
          exact lt_ne this he.symm
      have hb : (nm a == nm b) = false := by simpa using hab
      have e : ((a :: b :: r).map nm).Nodup ↔ ((b :: r).map nm).Nodup := by
        rw [List.map_cons, List.nodup_cons]
        exact ⟨fun h => h.2, fun h => ⟨hna, h⟩⟩
      rw [hb, Bool.false_or, decide_eq_decide.2 e]
theorem rep_srt (l : List Tg) : rep (srt l) = dup l := (rep_iff _ (srt_srtd l)).trans (dup_srt l)

/-! ### insertion from the left, with a look for the same name -/

theorem strict_ins {s : List Tg} {t : Tg} {k : Nat} (hs : Strict s) (h1 : ∀ x ∈ s.take k, lt x t = true) (h2 : ∀ x, s[k]? = some x → lt t x = true) :
    s.take k ++ t :: s.drop k = ins t s ∧ Strict (ins t s) := by
  have e := ins_at t s k (fun x hx => lt_asymm (h1 x hx)) h2
  refine ⟨e, ?_⟩
  rw [← e]
  have hs' : Strict (s.take k ++ s.drop k) := by rw [List.take_append_drop]; exact hs
  obtain ⟨ha, hb, hc⟩ := List.pairwise_append.1 hs'
  have hd : ∀ x ∈ s.drop k, lt t x = true := by
    intro x hx
    cases hk : s.drop k with
    | nil => rw [hk] at hx; cases hx
    | cons y r =>
      have hy : s[k]? = some y := by
        have : (s.drop k)[0]? = some y := by rw [hk]; rfl
        simpa using this
      have hty := h2 y hy
      rw [hk] at hx hb
      rcases List.mem_cons.1 hx with rfl | hx
      · exact hty
      · exact lt_trans hty ((List.pairwise_cons.1 hb).1 x hx)
  refine List.pairwise_append.2 ⟨ha, List.pairwise_cons.2 ⟨hd, hb⟩, fun a ha' b hb' => ?_⟩
  rcases List.mem_cons.1 hb' with rfl | hb'
  · exact h1 a ha'
  · exact hc a ha' b hb'
theorem dup_found {l : List Tg} {i k : Nat} {t x : Tg} (ht : l[i]? = some t) (hx : (srt (l.take i))[k]? = some x) (he : nm x = nm t) : dup l = true := by
  have hm : x ∈ l.take i := (srt_perm _).mem_iff.1 (List.mem_of_getElem? hx)
  have hi : i < l.length := (List.getElem?_eq_some_iff.1 ht).1
  have hsub : (l.take (i + 1)) = l.take i ++ [t] := by
    rw [List.take_add_one, ht]; rfl
  unfold dup
  simp only [Bool.not_eq_true', decide_eq_false_iff_not]
  intro hn
  have h1 : ((l.take (i + 1)).map nm).Nodup := hn.sublist ((List.take_sublist _ _).map nm)
  rw [hsub, List.map_append, List.Nodup, List.pairwise_append] at h1
  exact h1.2.2 _ (List.mem_map_of_mem hm) (nm t) (by simp) he

/-! ### the errors -/

def nbI (z : Int) : Bool := decide ((97 ≤ z ∧ z ≤ 122) ∨ (48 ≤ z ∧ z ≤ 57) ∨ z = 95 ∨ z = 46 ∨ z = 45)
def nameOk (l : List UInt8) : Bool := l.all (fun c => nbI c.toNat) && !l.isEmpty
def vErr (t : Tg) : Int := if nameOk (nm t) = true then (if t.1.size > 32 ∨ t.2.size > 64 then 4 else 0) else 3
def fErr : List Tg → Int
  | [] => 0
  | t :: r => if vErr t = 0 then fErr r else vErr t
def sortErr (l : List Tg) : Int := if l.length = 0 ∨ l.length > 8 then 5 else if fErr l = 0 then (if dup l = true then 5 else 0) else fErr l
def sortT (l : List Tg) : List Tg := if sortErr l = 0 then srt l else []
def one (s : ByteArray) : List UInt8 := UInt8.ofNat s.size :: s.data.toList
def joinT (l : List Tg) : List UInt8 := l.flatMap fun t => one t.1 ++ one t.2
def keyErr (l : List Tg) : Int := if sortErr l = 0 then (if (joinT (srt l)).length > 255 then 4 else 0) else sortErr l
def keyBy (l : List Tg) : ByteArray := if keyErr l = 0 then ⟨(joinT (srt l)).toArray⟩ else ⟨#[]⟩
def fld : List UInt8 → Option (ByteArray × List UInt8)
  | [] => none
  | c :: r => if r.length < c.toNat then none else some (⟨(r.take c.toNat).toArray⟩, r.drop c.toNat)
theorem fld_lt {s r : List UInt8} {a : ByteArray} (h : fld s = some (a, r)) : r.length < s.length := by
  cases s with
  | nil => cases h
  | cons c q =>
    simp only [fld] at h
    split at h
    · cases h
    · injection h with h; injection h with _ h; subst h; simp only [List.length_drop, List.length_cons]; omega
def cutN : Nat → List UInt8 → Option (List Tg)
  | _, [] => some []
  | 0, _ :: _ => none
  | n + 1, c :: s => match fld (c :: s) with
    | none => none
    | some (a, r) => match fld r with
      | none => none
      | some (b, q) => (cutN n q).map ((a, b) :: ·)
theorem cutN_eq : ∀ (n m : Nat) (s : List UInt8), s.length ≤ n → s.length ≤ m → cutN n s = cutN m s
  | n, m, [], _, _ => by cases n <;> cases m <;> rfl
  | 0, _, _ :: _, h, _ => by simp at h
  | _, 0, _ :: _, _, h => by simp at h
  | n + 1, m + 1, c :: s, hn, hm => by
    simp only [cutN]
    cases h1 : fld (c :: s) with
    | none => rfl
    | some x =>
      obtain ⟨a, r⟩ := x
      simp only
      cases h2 : fld r with
      | none => rfl
      | some y =>
        obtain ⟨b, q⟩ := y
        simp only
        have l1 := fld_lt h1
        have l2 := fld_lt h2
        rw [cutN_eq n m q (by simp at hn l1; omega) (by simp at hm l1; omega)]
def cutT (s : List UInt8) : Option (List Tg) := cutN s.length s
theorem cutT_nil : cutT [] = some [] := rfl
theorem cutT_none1 {s : List UInt8} (h0 : s ≠ []) (h : fld s = none) : cutT s = none := by
  cases s with
  | nil => exact absurd rfl h0
  | cons c q => simp [cutT, cutN, h]
theorem cutT_none2 {s r : List UInt8} {a : ByteArray} (h : fld s = some (a, r)) (h' : fld r = none) : cutT s = none := by
  cases s with
  | nil => cases h
  | cons c q => simp [cutT, cutN, h, h']
theorem cutT_some {s r q : List UInt8} {a b : ByteArray} (h : fld s = some (a, r)) (h' : fld r = some (b, q)) : cutT s = (cutT q).map ((a, b) :: ·) := by
  have l1 := fld_lt h
  have l2 := fld_lt h'
  cases s with
  | nil => cases h
  | cons c p =>
    simp only [List.length_cons] at l1
    simp only [cutT, List.length_cons, cutN, h, h']
    rw [cutN_eq p.length q.length q (by omega) (Nat.le_refl _)]
def splitErr (s : ByteArray) : Int := if s.size > 255 then 4 else match cutT s.data.toList with
  | none => 3
  | some l => if keyErr l = 0 ∧ keyBy l = s then 0 else 3
def splitT (s : ByteArray) : List Tg := if splitErr s = 0 then (cutT s.data.toList).getD [] else []

/-! ### what the errors leave -/

theorem fErr_zero : ∀ {l : List Tg}, fErr l = 0 ↔ ∀ t ∈ l, vErr t = 0
  | [] => by simp [fErr]
  | t :: r => by
    unfold fErr
    split
    · rename_i h; rw [fErr_zero (l := r)]; simp [h]
    · rename_i h; simp [h]
theorem fErr_take {l : List Tg} {i : Nat} {t : Tg} (ht : l[i]? = some t) (h : ∀ x ∈ l.take i, vErr x = 0) (hv : vErr t ≠ 0) : fErr l = vErr t := by
  induction l generalizing i with
  | nil => simp at ht
  | cons x r ih =>
    cases i with
    | zero => simp at ht; subst ht; simp [fErr, hv]
    | succ i =>
      have hx := h x (by simp)
      simp only [fErr, hx, if_true]
      exact ih (by simpa using ht) (fun y hy => h y (by simp [hy]))
theorem sortErr_zero {l : List Tg} : sortErr l = 0 ↔ (1 ≤ l.length ∧ l.length ≤ 8) ∧ (∀ t ∈ l, vErr t = 0) ∧ dup l = false := by
  unfold sortErr
  split
  · rename_i h; constructor
    · intro h'; exact absurd h' (by decide)
    · intro h'; omega
  · rename_i h
    split
    · rename_i h2
      rw [fErr_zero] at h2
      cases hd : dup l with
      | true => simp
      | false => simp; exact ⟨by omega, fun a b => h2 (a, b)⟩
    · rename_i h2
      constructor
      · intro h'; exact absurd h' h2
      · rintro ⟨_, h3, _⟩; exact absurd (fErr_zero.2 h3) h2
theorem sortErr_perm {l m : List Tg} (h : l.Perm m) (h0 : sortErr l = 0) : sortErr m = 0 ∧ srt m = srt l := by
  obtain ⟨h1, h2, h3⟩ := sortErr_zero.1 h0
  refine ⟨sortErr_zero.2 ⟨by rw [← h.length_eq]; exact h1, fun t ht => h2 t (h.mem_iff.2 ht), (dup_perm h).symm.trans h3⟩, (srt_perm_eq h h3).symm⟩
theorem vErr_size {t : Tg} (h : vErr t = 0) : t.1.size ≤ 32 ∧ t.2.size ≤ 64 := by
  unfold vErr at h
  split at h
  · split at h
    · cases h
    · omega
  · cases h

/-! ### cutting what was joined -/

theorem fld_one (s : ByteArray) (r : List UInt8) (h : s.size < 256) : fld (one s ++ r) = some (s, r) := by
  obtain ⟨⟨l⟩⟩ := s
  have hs : (ByteArray.mk ⟨l⟩).size = l.length := rfl
  rw [hs] at h
  have hc : (UInt8.ofNat l.length).toNat = l.length := by rw [UInt8.toNat_ofNat']; omega
  simp only [one, hs, List.cons_append, fld, hc]
  rw [if_neg (by simp)]
  simp
theorem cut_join : ∀ l : List Tg, (∀ t ∈ l, t.1.size < 256 ∧ t.2.size < 256) → cutT (joinT l) = some l
  | [], _ => rfl
  | t :: r, h => by
    have ht := h t (by simp)
    have e : joinT (t :: r) = one t.1 ++ (one t.2 ++ joinT r) := by simp [joinT]
    rw [e, cutT_some (fld_one t.1 _ ht.1) (fld_one t.2 _ ht.2), cut_join r (fun x hx => h x (by simp [hx]))]
    rfl
theorem keyErr_zero {l : List Tg} (h : keyErr l = 0) : sortErr l = 0 ∧ (joinT (srt l)).length ≤ 255 := by
  unfold keyErr at h
  split at h
  · rename_i h0
    split at h
    · cases h
    · exact ⟨h0, by omega⟩
  · rename_i h0; exact absurd h h0
theorem cut_key {l : List Tg} (h : keyErr l = 0) : cutT (keyBy l).data.toList = some (srt l) := by
  have ⟨h0, _⟩ := keyErr_zero h
  unfold keyBy
  rw [if_pos h]
  show cutT (joinT (srt l)) = _
  refine cut_join _ fun t ht => ?_
  have := vErr_size ((sortErr_zero.1 h0).2.1 t ((srt_perm l).mem_iff.1 ht))
  omega
theorem key_perm {l m : List Tg} (h : l.Perm m) (h0 : sortErr l = 0) : keyErr m = keyErr l ∧ keyBy m = keyBy l := by
  obtain ⟨h1, h2⟩ := sortErr_perm h h0
  have e : keyErr m = keyErr l := by unfold keyErr; rw [h0, h1, h2]
  refine ⟨e, ?_⟩
  unfold keyBy; rw [e, h2]
theorem split_key {l : List Tg} (h : keyErr l = 0) : splitErr (keyBy l) = 0 ∧ splitT (keyBy l) = srt l ∧ keyErr (srt l) = 0 ∧ keyBy (srt l) = keyBy l := by
  have ⟨h0, hl⟩ := keyErr_zero h
  obtain ⟨e1, e2⟩ := key_perm (srt_perm l).symm h0
  have hs : (keyBy l).size ≤ 255 := by
    unfold keyBy; rw [if_pos h]; show (joinT (srt l)).toArray.size ≤ 255; simpa using hl
  have e3 : splitErr (keyBy l) = 0 := by
    unfold splitErr
    rw [if_neg (by omega), cut_key h]
    simp only
    rw [if_pos ⟨e1.trans h, e2⟩]
  refine ⟨e3, ?_, e1.trans h, e2⟩
  unfold splitT
  rw [if_pos e3, cut_key h]
  rfl
theorem key_inj {l m : List Tg} (hl : keyErr l = 0) (hm : keyErr m = 0) : keyBy l = keyBy m ↔ srt l = srt m := by
  constructor
  · intro h
    have h1 := cut_key hl
    rw [h, cut_key hm] at h1
    exact (Option.some.inj h1).symm
  · intro h
    unfold keyBy; rw [if_pos hl, if_pos hm, h]

/-! ### lists whose names are made of the bytes of names -/

def Decent (l : List Tg) : Prop := ∀ t ∈ l, vErr t = 0 ∨ vErr t = 4
theorem decent_fErr : ∀ {l : List Tg}, Decent l → fErr l = if ∀ t ∈ l, vErr t = 0 then 0 else 4
  | [], _ => by simp [fErr]
  | t :: r, h => by
    have ih := decent_fErr (l := r) fun x hx => h x (by simp [hx])
    unfold fErr
    rcases h t (by simp) with h0 | h0
    · rw [if_pos h0, ih]
      by_cases hc : ∀ x ∈ r, vErr x = 0
      · rw [if_pos hc, if_pos (fun x hx => by rcases List.mem_cons.1 hx with rfl | hx; exact h0; exact hc x hx)]
      · rw [if_neg hc, if_neg (fun a => hc fun x hx => a x (by simp [hx]))]
    · rw [if_neg (by rw [h0]; decide), h0, if_neg]
      intro hall
      have := hall t (by simp)
      rw [h0] at this; cases this
theorem decent_perm {l m : List Tg} (h : l.Perm m) (hl : Decent l) : keyErr l = keyErr m ∧ keyBy l = keyBy m := by
  by_cases h0 : sortErr l = 0
  · obtain ⟨a, b⟩ := key_perm h h0; exact ⟨a.symm, b.symm⟩
  · have hm : Decent m := fun t ht => hl t (h.mem_iff.2 ht)
    have e : sortErr m = sortErr l := by
      unfold sortErr
      rw [decent_fErr hl, decent_fErr hm, h.length_eq, dup_perm h]
      have : (∀ t ∈ l, vErr t = 0) ↔ (∀ t ∈ m, vErr t = 0) := ⟨fun a t ht => a t (h.mem_iff.2 ht), fun a t ht => a t (h.mem_iff.1 ht)⟩
      by_cases hc : ∀ t ∈ m, vErr t = 0
      · rw [if_pos (this.2 hc), if_pos hc]
      · rw [if_neg (fun a => hc (this.1 a)), if_neg hc]
    have e1 : keyErr l = sortErr l := by unfold keyErr; rw [if_neg h0]
    have e2 : keyErr m = sortErr l := by unfold keyErr; rw [e, if_neg h0]
    refine ⟨e1.trans e2.symm, ?_⟩
    unfold keyBy; rw [e1, e2, if_neg h0, if_neg h0]
end Go.Proofs.Ytnmhgbdmjgejfaa
