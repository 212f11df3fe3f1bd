/- Words laid together in one text. Conditions: none beyond those typed. -/
import Derived.Lib.Bytealg
import Derived.Test.YtbdafhephmoedaaBase
import Derived.Test.YtbdafhephmoedaaShelf
import Derived.WalkKit
import Derived.ProofKit
import Derived.OpenShut
import Derived.IntWalk
import Derived.Lib.Hide
import Derived.Below
import Derived.Deep.Draws
import Derived.Deep.QuietTactic
import Derived.BigQuiet
import Derived.Laws.DeepStrings4
import Derived.Laws.Strings3
import Derived.Laws.OwnMore
import Derived.Deep.AppendLies
import Derived.Maps.AppendAt
import Derived.RegionTactic
import Derived.OwnWalk
import Derived.Deep.RegionHeld3
import Derived.Deep.WholeRow
import Derived.Lib.BufferMore
import Derived.Lib.FrozenHead2
import Derived.Lib.OthersKept
import Derived.Lib.Strings
import Derived.Lib.Slices
import Derived.Lib.Walk
import Derived.Lib.Builder
import Derived.Lib.AppendStr
import Derived.Laws.Externs
import Derived.Lib.UnsafeStr
import Derived.Laws.IdiomStrings
import Derived.Laws.StructEq
/- The plain mathematics of canonical keys: names in the order of their bytes, sorting by insertion, keys and how they are cut. Conditions: none beyond those typed. -/
namespace Go.Proofs.Ytbdafhephmoedaa
set_option linter.unusedVariables false
set_option maxRecDepth 100000
set_option linter.unusedSimpArgs false

/-- A tag: its name and its value. -/
abbrev Tg := ByteArray × ByteArray
def nm (t : Tg) : List UInt8 := t.1.data.toList
def vl (t : Tg) : List UInt8 := t.2.data.toList
def lt (a b : Tg) : Bool := Op.bytesLess (nm a) (nm b)

theorem bl_irrefl : ∀ a : List UInt8, Op.bytesLess a a = false
  | [] => rfl
  | a :: x => by simp [Op.bytesLess, bl_irrefl x, UInt8.lt_irrefl]
theorem bl_trans : ∀ a b c : List UInt8, Op.bytesLess a b = true → Op.bytesLess b c = true → Op.bytesLess a c = true
  | _, [], _, h, _ => by simp [Op.bytesLess] at h
  | _, _ :: _, [], _, h => by simp [Op.bytesLess] at h
  | [], _ :: _, _ :: _, _, _ => rfl
  | a :: x, b :: y, c :: z, h1, h2 => by
    simp only [Op.bytesLess, Bool.or_eq_true, Bool.and_eq_true, decide_eq_true_eq, beq_iff_eq] at h1 h2 ⊢
    rcases h1 with h1 | ⟨rfl, h1⟩
    · rcases h2 with h2 | ⟨rfl, h2⟩
      · exact .inl (UInt8.lt_trans h1 h2)
      · exact .inl h1
    · rcases h2 with h2 | ⟨rfl, h2⟩
      · exact .inl h2
      · exact .inr ⟨rfl, bl_trans x y z h1 h2⟩
theorem bl_total : ∀ a b : List UInt8, a = b ∨ Op.bytesLess a b = true ∨ Op.bytesLess b a = true
  | [], [] => .inl rfl
  | [], _ :: _ => .inr (.inl rfl)
  | _ :: _, [] => .inr (.inr rfl)
  | a :: x, b :: y => by
    simp only [Op.bytesLess, Bool.or_eq_true, Bool.and_eq_true, decide_eq_true_eq, beq_iff_eq]
    by_cases hab : a = b
    · subst hab
      rcases bl_total x y with rfl | h | h
      · exact .inl rfl
      · exact .inr (.inl (.inr ⟨rfl, h⟩))
      · exact .inr (.inr (.inr ⟨rfl, h⟩))
    · have : a < b ∨ b < a := by
        rw [UInt8.lt_iff_toNat_lt, UInt8.lt_iff_toNat_lt]
        have : a.toNat ≠ b.toNat := fun h => hab (UInt8.toNat_inj.1 h)
        omega
      rcases this with h | h
      · exact .inr (.inl (.inl h))
      · exact .inr (.inr (.inl h))
theorem bl_asymm {a b : List UInt8} (h : Op.bytesLess a b = true) : Op.bytesLess b a = false := by
  cases hb : Op.bytesLess b a with
  | false => rfl
  | true => have := bl_trans _ _ _ h hb; rw [bl_irrefl] at this; cases this
theorem cmp_lt : ∀ a b : List UInt8, decide (Lib.compareBytes a b < 0) = Op.bytesLess a b
  | [], [] => rfl
  | [], _ :: _ => rfl
  | _ :: _, [] => rfl
  | a :: x, b :: y => by
    rw [Lib.compareBytes, Op.bytesLess]
    have ih := cmp_lt x y
    by_cases h : a < b
    · simp [h]
    · by_cases h2 : b < a
      · have hne : a ≠ b := by rintro rfl; exact UInt8.lt_irrefl a h2
        simp [h, h2, hne]
      · have he : a = b := by
          rw [UInt8.lt_iff_toNat_lt] at h h2
          exact UInt8.toNat_inj.1 (by omega)
        subst he
        simp [h, ih]

theorem lt_irrefl (a : Tg) : lt a a = false := bl_irrefl _
theorem lt_trans {a b c : Tg} (h : lt a b = true) (h' : lt b c = true) : lt a c = true := bl_trans _ _ _ h h'
theorem lt_asymm {a b : Tg} (h : lt a b = true) : lt b a = false := bl_asymm h
theorem lt_total (a b : Tg) : nm a = nm b ∨ lt a b = true ∨ lt b a = true := bl_total _ _
theorem lt_nm {a b : Tg} (h : nm a = nm b) : lt a b = false := by unfold lt; rw [h]; exact bl_irrefl _
theorem lt_ne {a b : Tg} (h : lt a b = true) : nm a ≠ nm b := fun e => by rw [lt_nm e] at h; cases h
theorem lt_left {a b c : Tg} (h : nm a = nm b) : lt a c = lt b c := by unfold lt; rw [h]
theorem lt_right {a b c : Tg} (h : nm a = nm b) : lt c a = lt c b := by unfold lt; rw [h]
/-- a not after b, b before c: a before c. -/
theorem le_lt {a b c : Tg} (h : lt b a = false) (h' : lt b c = true) : lt a c = true := by
  rcases lt_total a b with e | e | e
  · rw [lt_left e]; exact h'
  · exact lt_trans e h'
  · rw [h] at e; cases e
theorem lt_le {a b c : Tg} (h : lt a b = true) (h' : lt c b = false) : lt a c = true := by
  rcases lt_total b c with e | e | e
  · rw [← lt_right e]; exact h
  · exact lt_trans h e
  · rw [h'] at e; cases e

/-! ### sorting by insertion -/

def ins (t : Tg) : List Tg → List Tg
  | [] => [t]
  | x :: r => if lt t x = true then t :: x :: r else x :: ins t r
def srt (l : List Tg) : List Tg := l.foldl (fun s t => ins t s) []
def Srtd (s : List Tg) : Prop := s.Pairwise fun a b => lt b a = false
def Strict (s : List Tg) : Prop := s.Pairwise fun a b => lt a b = true

theorem ins_at (t : Tg) : ∀ (s : List Tg) (j : Nat), (∀ x ∈ s.take j, lt t x = false) → (∀ x, s[j]? = some x → lt t x = true) → s.take j ++ t :: s.drop j = ins t s
  | [], j, _, _ => by simp [ins]
  | x :: r, 0, _, h2 => by
    have := h2 x rfl
    simp [ins, this]
  | x :: r, j + 1, h1, h2 => by
    have hx : lt t x = false := h1 x (by simp)
    have ih := ins_at t r j (fun y hy => h1 y (by simp [hy])) (fun y hy => h2 y (by simpa using hy))
    simp [ins, hx, ih]
theorem ins_perm (t : Tg) : ∀ s : List Tg, (ins t s).Perm (t :: s)
  | [] => List.Perm.refl _
  | x :: r => by
    unfold ins
    split
    · exact List.Perm.refl _
    · exact ((ins_perm t r).cons x).trans (List.Perm.swap t x r)
theorem ins_srtd (t : Tg) : ∀ s : List Tg, Srtd s → Srtd (ins t s)
  | [], _ => by simp [ins, Srtd]
  | x :: r, h => by
    have h' := List.pairwise_cons.1 h
    unfold ins
    split
    · rename_i hlt
      refine List.pairwise_cons.2 ⟨fun y hy => ?_, h⟩
      rcases List.mem_cons.1 hy with rfl | hy
      · exact lt_asymm hlt
      · exact lt_asymm (lt_le hlt (h'.1 y hy))
    · rename_i hlt
      have hf : lt t x = false := by simpa using hlt
      refine List.pairwise_cons.2 ⟨fun y hy => ?_, ins_srtd t r h'.2⟩
      rcases List.mem_cons.1 ((ins_perm t r).mem_iff.1 hy) with rfl | hy
      · exact hf
      · exact h'.1 y hy
theorem srt_snoc (l : List Tg) (t : Tg) : srt (l ++ [t]) = ins t (srt l) := by unfold srt; rw [List.foldl_append]; rfl
theorem srt_perm (l : List Tg) : (srt l).Perm l := by
  have : ∀ (l s : List Tg), (l.foldl (fun s t => ins t s) s).Perm (s ++ l) := by
    intro l
    induction l with
    | nil => intro s; simp
    | cons t r ih =>
      intro s
      refine (ih (ins t s)).trans ?_
      have h1 := (ins_perm t s).append_right r
      refine h1.trans ?_
      have : (t :: s) ++ r = t :: (s ++ r) := rfl
      rw [this]
      exact List.perm_middle.symm
  simpa [srt] using this l []
theorem srt_srtd (l : List Tg) : Srtd (srt l) := by
  have : ∀ (l s : List Tg), Srtd s → Srtd (l.foldl (fun s t => ins t s) s) := by
    intro l
    induction l with
    | nil => intro s h; exact h
    | cons t r ih => intro s h; exact ih _ (ins_srtd t s h)
  exact this l [] List.Pairwise.nil
theorem srt_length (l : List Tg) : (srt l).length = l.length := (srt_perm l).length_eq
theorem Strict.srtd {s : List Tg} (h : Strict s) : Srtd s := h.imp fun h => lt_asymm h
theorem Strict.nodup {s : List Tg} (h : Strict s) : (s.map nm).Nodup := by
  rw [List.Nodup, List.pairwise_map]
  exact h.imp fun h => lt_ne h
theorem strict_of {s : List Tg} (h : Srtd s) (hn : (s.map nm).Nodup) : Strict s := by
  rw [List.Nodup, List.pairwise_map] at hn
  refine (List.pairwise_and_iff.2 ⟨h, hn⟩).imp ?_
  rintro a b ⟨h1, h2⟩
  rcases lt_total a b with e | e | e
  · exact absurd e h2
  · exact e
  · rw [h1] at e; cases e

/-- Two tags of the list have the same name. -/
def dup (l : List Tg) : Bool := !decide ((l.map nm).Nodup)
theorem dup_perm {l m : List Tg} (h : l.Perm m) : dup l = dup m := by
  unfold dup
  have := (h.map nm).nodup_iff
  rw [decide_eq_decide.2 this]
theorem dup_srt (l : List Tg) : dup (srt l) = dup l := dup_perm (srt_perm l)
theorem dup_of_strict {l : List Tg} (h : Strict (srt l)) : dup l = false := by
  rw [← dup_srt]; unfold dup; simp [h.nodup]
theorem srt_strict {l : List Tg} (h : dup l = false) : Strict (srt l) := by
  refine strict_of (srt_srtd l) ?_
  have := (dup_srt l).trans h
  unfold dup at this
  simpa using this
/-- Lists with the same tags, of different names, are sorted alike. -/
theorem srt_perm_eq {l m : List Tg} (h : l.Perm m) (hd : dup l = false) : srt l = srt m := by
  have h1 := srt_strict hd
  have h2 : Strict (srt m) := srt_strict ((dup_perm h).symm.trans hd)
  refine List.Perm.eq_of_pairwise (le := fun a b => lt a b = true) ?_ h1 h2 (((srt_perm l).trans h).trans (srt_perm m).symm)
  intro a b _ _ hab hba
  rw [lt_asymm hab] at hba; cases hba
theorem srt_srt {l : List Tg} (hd : dup l = false) : srt (srt l) = srt l := srt_perm_eq (srt_perm l) ((dup_srt l).trans hd)

/-- Neighbours with the same name. -/
def rep : List Tg → Bool
  | a :: b :: r => (nm a == nm b) || rep (b :: r)
  | _ => false
theorem rep_iff : ∀ s : List Tg, Srtd s → rep s = dup s
  | [], _ => by simp [rep, dup]
  | [a], _ => by simp [rep, dup]
  | a :: b :: r, h => by
    have h' := List.pairwise_cons.1 h
    have ih := rep_iff (b :: r) h'.2
    unfold rep
    rw [ih]
    unfold dup
    by_cases hab : nm a = nm b
    · simp [hab]
    · have hlt : lt a b = true := by
        rcases lt_total a b with e | e | e
        · exact absurd e hab
        · exact e
        · rw [h'.1 b (by simp)] at e; cases e
      have hna : nm a ∉ (b :: r).map nm := by
        intro hm
        obtain ⟨x, hx, he⟩ := List.mem_map.1 hm
        rcases List.mem_cons.1 hx with rfl | hx
        · exact hab he.symm
        · have : lt a x = true := lt_le hlt ((List.pairwise_cons.1 h'.2).1 x hx)
          exact lt_ne this he.symm
      have hb : (nm a == nm b) = false := by simpa using hab
      have e : ((a :: b :: r).map nm).Nodup ↔ ((b :: r).map nm).Nodup := by
        rw [List.map_cons, List.nodup_cons]
        exact ⟨fun h => h.2, fun h => ⟨hna, h⟩⟩
      rw [hb, Bool.false_or, decide_eq_decide.2 e]
theorem rep_srt (l : List Tg) : rep (srt l) = dup l := (rep_iff _ (srt_srtd l)).trans (dup_srt l)

/-! ### insertion from the left, with a look for the same name -/

theorem strict_ins {s : List Tg} {t : Tg} {k : Nat} (hs : Strict s) (h1 : ∀ x ∈ s.take k, lt x t = true) (h2 : ∀ x, s[k]? = some x → lt t x = true) :
    s.take k ++ t :: s.drop k = ins t s ∧ Strict (ins t s) := by
  have e := ins_at t s k (fun x hx => lt_asymm (h1 x hx)) h2
  refine ⟨e, ?_⟩
  rw [← e]
  have hs' : Strict (s.take k ++ s.drop k) := by rw [List.take_append_drop]; exact hs
  obtain ⟨ha, hb, hc⟩ := List.pairwise_append.1 hs'
  have hd : ∀ x ∈ s.drop k, lt t x = true := by
    intro x hx
    cases hk : s.drop k with
    | nil => rw [hk] at hx; cases hx
    | cons y r =>
      have hy : s[k]? = some y := by
        have : (s.drop k)[0]? = some y := by rw [hk]; rfl
        simpa using this
      have hty := h2 y hy
      rw [hk] at hx hb
      rcases List.mem_cons.1 hx with rfl | hx
      · exact hty
      · exact lt_trans hty ((List.pairwise_cons.1 hb).1 x hx)
  refine List.pairwise_append.2 ⟨ha, List.pairwise_cons.2 ⟨hd, hb⟩, fun a ha' b hb' => ?_⟩
  rcases List.mem_cons.1 hb' with rfl | hb'
  · exact h1 a ha'
  · exact hc a ha' b hb'
theorem dup_found {l : List Tg} {i k : Nat} {t x : Tg} (ht : l[i]? = some t) (hx : (srt (l.take i))[k]? = some x) (he : nm x = nm t) : dup l = true := by
  have hm : x ∈ l.take i := (srt_perm _).mem_iff.1 (List.mem_of_getElem? hx)
  have hi : i < l.length := (List.getElem?_eq_some_iff.1 ht).1
  have hsub : (l.take (i + 1)) = l.take i ++ [t] := by
    rw [List.take_add_one, ht]; rfl
  unfold dup
  simp only [Bool.not_eq_true', decide_eq_false_iff_not]
  intro hn
  have h1 : ((l.take (i + 1)).map nm).Nodup := hn.sublist ((List.take_sublist _ _).map nm)
  rw [hsub, List.map_append, List.Nodup, List.pairwise_append] at h1
  exact h1.2.2 _ (List.mem_map_of_mem hm) (nm t) (by simp) he

/-! ### the errors -/

def nbI (z : Int) : Bool := decide ((97 ≤ z ∧ z ≤ 122) ∨ (48 ≤ z ∧ z ≤ 57) ∨ z = 95 ∨ z = 46 ∨ z = 45)
def nameOk (l : List UInt8) : Bool := l.all (fun c => nbI c.toNat) && !l.isEmpty
def vErr (t : Tg) : Int := if nameOk (nm t) = true then (if t.1.size > 32 ∨ t.2.size > 64 then 4 else 0) else 3
def fErr : List Tg → Int
  | [] => 0
  | t :: r => if vErr t = 0 then fErr r else vErr t
def sortErr (l : List Tg) : Int := if l.length = 0 ∨ l.length > 8 then 5 else if fErr l = 0 then (if dup l = true then 5 else 0) else fErr l
def sortT (l : List Tg) : List Tg := if sortErr l = 0 then srt l else []
def one (s : ByteArray) : List UInt8 := UInt8.ofNat s.size :: s.data.toList
def joinT (l : List Tg) : List UInt8 := l.flatMap fun t => one t.1 ++ one t.2
def keyErr (l : List Tg) : Int := if sortErr l = 0 then (if (joinT (srt l)).length > 255 then 4 else 0) else sortErr l
def keyBy (l : List Tg) : ByteArray := if keyErr l = 0 then ⟨(joinT (srt l)).toArray⟩ else ⟨#[]⟩
def fld : List UInt8 → Option (ByteArray × List UInt8)
  | [] => none
  | c :: r => if r.length < c.toNat then none else some (⟨(r.take c.toNat).toArray⟩, r.drop c.toNat)
theorem fld_lt {s r : List UInt8} {a : ByteArray} (h : fld s = some (a, r)) : r.length < s.length := by
  cases s with
  | nil => cases h
  | cons c q =>
    simp only [fld] at h
    split at h
    · cases h
    · injection h with h; injection h with _ h; subst h; simp only [List.length_drop, List.length_cons]; omega
def cutN : Nat → List UInt8 → Option (List Tg)
  | _, [] => some []
  | 0, _ :: _ => none
  | n + 1, c :: s => match fld (c :: s) with
    | none => none
    | some (a, r) => match fld r with
      | none => none
      | some (b, q) => (cutN n q).map ((a, b) :: ·)
theorem cutN_eq : ∀ (n m : Nat) (s : List UInt8), s.length ≤ n → s.length ≤ m → cutN n s = cutN m s
  | n, m, [], _, _ => by cases n <;> cases m <;> rfl
  | 0, _, _ :: _, h, _ => by simp at h
  | _, 0, _ :: _, _, h => by simp at h
  | n + 1, m + 1, c :: s, hn, hm => by
    simp only [cutN]
    cases h1 : fld (c :: s) with
    | none => rfl
    | some x =>
      obtain ⟨a, r⟩ := x
      simp only
      cases h2 : fld r with
      | none => rfl
      | some y =>
        obtain ⟨b, q⟩ := y
        simp only
        have l1 := fld_lt h1
        have l2 := fld_lt h2
        rw [cutN_eq n m q (by simp at hn l1; omega) (by simp at hm l1; omega)]
def cutT (s : List UInt8) : Option (List Tg) := cutN s.length s
theorem cutT_nil : cutT [] = some [] := rfl
theorem cutT_none1 {s : List UInt8} (h0 : s ≠ []) (h : fld s = none) : cutT s = none := by
  cases s with
  | nil => exact absurd rfl h0
  | cons c q => simp [cutT, cutN, h]
theorem cutT_none2 {s r : List UInt8} {a : ByteArray} (h : fld s = some (a, r)) (h' : fld r = none) : cutT s = none := by
  cases s with
  | nil => cases h
  | cons c q => simp [cutT, cutN, h, h']
theorem cutT_some {s r q : List UInt8} {a b : ByteArray} (h : fld s = some (a, r)) (h' : fld r = some (b, q)) : cutT s = (cutT q).map ((a, b) :: ·) := by
  have l1 := fld_lt h
  have l2 := fld_lt h'
  cases s with
  | nil => cases h
  | cons c p =>
    simp only [List.length_cons] at l1
    simp only [cutT, List.length_cons, cutN, h, h']
    rw [cutN_eq p.length q.length q (by omega) (Nat.le_refl _)]
def splitErr (s : ByteArray) : Int := if s.size > 255 then 4 else match cutT s.data.toList with
  | none => 3
  | some l => if keyErr l = 0 ∧ keyBy l = s then 0 else 3
def splitT (s : ByteArray) : List Tg := if splitErr s = 0 then (cutT s.data.toList).getD [] else []

/-! ### what the errors leave -/

theorem fErr_zero : ∀ {l : List Tg}, fErr l = 0 ↔ ∀ t ∈ l, vErr t = 0
  | [] => by simp [fErr]
  | t :: r => by
    unfold fErr
    split
    · rename_i h; rw [fErr_zero (l := r)]; simp [h]
    · rename_i h; simp [h]
theorem fErr_take {l : List Tg} {i : Nat} {t : Tg} (ht : l[i]? = some t) (h : ∀ x ∈ l.take i, vErr x = 0) (hv : vErr t ≠ 0) : fErr l = vErr t := by
  induction l generalizing i with
  | nil => simp at ht
  | cons x r ih =>
    cases i with
    | zero => simp at ht; subst ht; simp [fErr, hv]
    | succ i =>
      have hx := h x (by simp)
      simp only [fErr, hx, if_true]
      exact ih (by simpa using ht) (fun y hy => h y (by simp [hy]))
theorem sortErr_zero {l : List Tg} : sortErr l = 0 ↔ (1 ≤ l.length ∧ l.length ≤ 8) ∧ (∀ t ∈ l, vErr t = 0) ∧ dup l = false := by
  unfold sortErr
  split
  · rename_i h; constructor
    · intro h'; exact absurd h' (by decide)
    · intro h'; omega
  · rename_i h
    split
    · rename_i h2
      rw [fErr_zero] at h2
      cases hd : dup l with
      | true => simp
      | false => simp; exact ⟨by omega, fun a b => h2 (a, b)⟩
    · rename_i h2
      constructor
      · intro h'; exact absurd h' h2
      · rintro ⟨_, h3, _⟩; exact absurd (fErr_zero.2 h3) h2
theorem sortErr_perm {l m : List Tg} (h : l.Perm m) (h0 : sortErr l = 0) : sortErr m = 0 ∧ srt m = srt l := by
  obtain ⟨h1, h2, h3⟩ := sortErr_zero.1 h0
  refine ⟨sortErr_zero.2 ⟨by rw [← h.length_eq]; exact h1, fun t ht => h2 t (h.mem_iff.2 ht), (dup_perm h).symm.trans h3⟩, (srt_perm_eq h h3).symm⟩
theorem vErr_size {t : Tg} (h : vErr t = 0) : t.1.size ≤ 32 ∧ t.2.size ≤ 64 := by
  unfold vErr at h
  split at h
  · split at h
    · cases h
    · omega
  · cases h

/-! ### cutting what was joined -/

theorem fld_one (s : ByteArray) (r : List UInt8) (h : s.size < 256) : fld (one s ++ r) = some (s, r) := by
  obtain ⟨⟨l⟩⟩ := s
  have hs : (ByteArray.mk ⟨l⟩).size = l.length := rfl
  rw [hs] at h
  have hc : (UInt8.ofNat l.length).toNat = l.length := by rw [UInt8.toNat_ofNat']; omega
  simp only [one, hs, List.cons_append, fld, hc]
  rw [if_neg (by simp)]
  simp
theorem cut_join : ∀ l : List Tg, (∀ t ∈ l, t.1.size < 256 ∧ t.2.size < 256) → cutT (joinT l) = some l
  | [], _ => rfl
  | t :: r, h => by
    have ht := h t (by simp)
    have e : joinT (t :: r) = one t.1 ++ (one t.2 ++ joinT r) := by simp [joinT]
    rw [e, cutT_some (fld_one t.1 _ ht.1) (fld_one t.2 _ ht.2), cut_join r (fun x hx => h x (by simp [hx]))]
    rfl
theorem keyErr_zero {l : List Tg} (h : keyErr l = 0) : sortErr l = 0 ∧ (joinT (srt l)).length ≤ 255 := by
  unfold keyErr at h
  split at h
  · rename_i h0
    split at h
    · cases h
    · exact ⟨h0, by omega⟩
  · rename_i h0; exact absurd h h0
theorem cut_key {l : List Tg} (h : keyErr l = 0) : cutT (keyBy l).data.toList = some (srt l) := by
  have ⟨h0, _⟩ := keyErr_zero h
  unfold keyBy
  rw [if_pos h]
  show cutT (joinT (srt l)) = _
  refine cut_join _ fun t ht => ?_
  have := vErr_size ((sortErr_zero.1 h0).2.1 t ((srt_perm l).mem_iff.1 ht))
  omega
theorem key_perm {l m : List Tg} (h : l.Perm m) (h0 : sortErr l = 0) : keyErr m = keyErr l ∧ keyBy m = keyBy l := by
  obtain ⟨h1, h2⟩ := sortErr_perm h h0
  have e : keyErr m = keyErr l := by unfold keyErr; rw [h0, h1, h2]
  refine ⟨e, ?_⟩
  unfold keyBy; rw [e, h2]
theorem split_key {l : List Tg} (h : keyErr l = 0) : splitErr (keyBy l) = 0 ∧ splitT (keyBy l) = srt l ∧ keyErr (srt l) = 0 ∧ keyBy (srt l) = keyBy l := by
  have ⟨h0, hl⟩ := keyErr_zero h
  obtain ⟨e1, e2⟩ := key_perm (srt_perm l).symm h0
  have hs : (keyBy l).size ≤ 255 := by
    unfold keyBy; rw [if_pos h]; show (joinT (srt l)).toArray.size ≤ 255; simpa using hl
  have e3 : splitErr (keyBy l) = 0 := by
    unfold splitErr
    rw [if_neg (by omega), cut_key h]
    simp only
    rw [if_pos ⟨e1.trans h, e2⟩]
  refine ⟨e3, ?_, e1.trans h, e2⟩
  unfold splitT
  rw [if_pos e3, cut_key h]
  rfl
theorem key_inj {l m : List Tg} (hl : keyErr l = 0) (hm : keyErr m = 0) : keyBy l = keyBy m ↔ srt l = srt m := by
  constructor
  · intro h
    have h1 := cut_key hl
    rw [h, cut_key hm] at h1
    exact (Option.some.inj h1).symm
  · intro h
    unfold keyBy; rw [if_pos hl, if_pos hm, h]

/-! ### lists whose names are made of the bytes of names -/

def Decent (l : List Tg) : Prop := ∀ t ∈ l, vErr t = 0 ∨ vErr t = 4
theorem decent_fErr : ∀ {l : List Tg}, Decent l → fErr l = if ∀ t ∈ l, vErr t = 0 then 0 else 4
  | [], _ => by simp [fErr]
  | t :: r, h => by
    have ih := decent_fErr (l := r) fun x hx => h x (by simp [hx])
    unfold fErr
    rcases h t (by simp) with h0 | h0
    · rw [if_pos h0, ih]
      by_cases hc : ∀ x ∈ r, vErr x = 0
      · rw [if_pos hc, if_pos (fun x hx => by rcases List.mem_cons.1 hx with rfl | hx; exact h0; exact hc x hx)]
      · rw [if_neg hc, if_neg (fun a => hc fun x hx => a x (by simp [hx]))]
    · rw [if_neg (by rw [h0]; decide), h0, if_neg]
      intro hall
      have := hall t (by simp)
      rw [h0] at this; cases this
theorem decent_perm {l m : List Tg} (h : l.Perm m) (hl : Decent l) : keyErr l = keyErr m ∧ keyBy l = keyBy m := by
  by_cases h0 : sortErr l = 0
  · obtain ⟨a, b⟩ := key_perm h h0; exact ⟨a.symm, b.symm⟩
  · have hm : Decent m := fun t ht => hl t (h.mem_iff.2 ht)
    have e : sortErr m = sortErr l := by
      unfold sortErr
      rw [decent_fErr hl, decent_fErr hm, h.length_eq, dup_perm h]
      have : (∀ t ∈ l, vErr t = 0) ↔ (∀ t ∈ m, vErr t = 0) := ⟨fun a t ht => a t (h.mem_iff.2 ht), fun a t ht => a t (h.mem_iff.1 ht)⟩
      by_cases hc : ∀ t ∈ m, vErr t = 0
      · rw [if_pos (this.2 hc), if_pos hc]
      · rw [if_neg (fun a => hc (this.1 a)), if_neg hc]
    have e1 : keyErr l = sortErr l := by unfold keyErr; rw [if_neg h0]
    have e2 : keyErr m = sortErr l := by unfold keyErr; rw [e, if_neg h0]
    refine ⟨e1.trans e2.symm, ?_⟩
    unfold keyBy; rw [e1, e2, if_neg h0, if_neg h0]
end Go.Proofs.Ytbdafhephmoedaa

/- Package tags and its twin: bytes of names, valid tags, and the string after a length. Conditions: none beyond those typed. -/
namespace Go.Proofs.Ytbdafhephmoedaa
open Go.ChangeShapes Go.WideShapes Go.ChangeAt Go.RowKit
set_option linter.unusedVariables false
set_option maxRecDepth 100000
set_option linter.unusedSimpArgs false

theorem nbI_iff (z : Int) : nbI z = true ↔ ((97 ≤ z ∧ z ≤ 122) ∨ (48 ≤ z ∧ z ≤ 57) ∨ z = 95 ∨ z = 46 ∨ z = 45) := by unfold nbI; simp

/-! ### names -/

def NameTo (s : ByteArray) (k : Nat) : Prop := (s.data.toList.take k).all (fun c => nbI c.toNat) = true
theorem NameTo.zero (s : ByteArray) : NameTo s 0 := by simp [NameTo]
theorem NameTo.succ {s : ByteArray} {k : Nat} (h : NameTo s k) (hk : k < s.size) (hb : nbI (s[k].toNat : Int) = true) : NameTo s (k + 1) := by
  unfold NameTo at *
  rw [List.take_succ_eq_append_getElem (by simpa using hk), List.all_append, h]
  simp
  exact hb
theorem nameOk_no {s : ByteArray} {k : Nat} (hk : k < s.size) (hb : nbI (s[k].toNat : Int) = false) : nameOk s.data.toList = false := by
  unfold nameOk
  have : s.data.toList.all (fun c => nbI c.toNat) = false := by
    rw [List.all_eq_false]
    exact ⟨s[k], Array.getElem_mem_toList _, by rw [hb]; simp⟩
  rw [this]; rfl
theorem NameTo.all {s : ByteArray} (h : NameTo s s.size) : nameOk s.data.toList = !s.toList.isEmpty := by
  unfold NameTo at h
  rw [List.take_of_length_le (by simp)] at h
  unfold nameOk
  rw [h, Lib.toList_data, Bool.true_and]

theorem nameOk_end {s : ByteArray} {b : Bool} (h : NameTo s s.size) (h0 : s.toList.isEmpty = b) : nameOk s.data.toList = !b := by rw [h.all, h0]

theorem vErr_form {n v : ByteArray} (h : nameOk n.data.toList = false) : vErr (n, v) = 3 := by unfold vErr nm; simp only [h]; rfl
theorem vErr_long {n v : ByteArray} (h : nameOk n.data.toList = true) (hs : 32 < n.size ∨ 64 < v.size) : vErr (n, v) = 4 := by
  unfold vErr nm; simp only [h]; rw [if_pos trivial, if_pos hs]
theorem vErr_ok {n v : ByteArray} (h : nameOk n.data.toList = true) (h1 : n.size ≤ 32) (h2 : v.size ≤ 64) : vErr (n, v) = 0 := by
  unfold vErr nm; simp only [h]; rw [if_pos trivial, if_neg (by omega)]

end Go.Proofs.Ytbdafhephmoedaa

/- Package tags and its twin: the string that a key begins with, after the byte with its length. Conditions: none beyond those typed. -/
namespace Go.Proofs.Ytbdafhephmoedaa
open Go.ChangeShapes Go.WideShapes Go.ChangeAt Go.RowKit
set_option linter.unusedVariables false
set_option maxRecDepth 100000
set_option linter.unusedSimpArgs false

theorem ba_empty {s : ByteArray} (h : s.size = 0) : s.toList.isEmpty = true ∧ s = ⟨#[]⟩ := by
  obtain ⟨⟨l⟩⟩ := s
  have hl : l = [] := List.eq_nil_of_length_eq_zero h
  subst hl
  exact ⟨by rw [Lib.toList_data]; rfl, rfl⟩
theorem ba_some {s : ByteArray} (h : 0 < s.size) : s.toList.isEmpty = false := by
  rw [Lib.toList_data]
  cases hl : s.data.toList with
  | nil => rw [ba_size, hl] at h; cases h
  | cons a r => rfl
theorem fld_empty {s : ByteArray} (h : s.size = 0) : fld s.data.toList = none := by rw [(ba_empty h).2]; rfl
theorem fld_short {s : ByteArray} (h : 0 < s.size) (hs : s.size < 1 + s[0].toNat) : fld s.data.toList = none := by
  obtain ⟨⟨l⟩⟩ := s
  cases l with
  | nil => cases h
  | cons c r =>
    show fld (c :: r) = none
    have hs' : r.length + 1 < 1 + c.toNat := hs
    simp only [fld]
    rw [if_pos (by omega)]
theorem fld_full {s : ByteArray} (h : 0 < s.size) (hs : 1 + s[0].toNat ≤ s.size) :
    fld s.data.toList = some (s.extract 1 (1 + s[0].toNat), (s.extract (1 + s[0].toNat) s.size).data.toList) := by
  obtain ⟨⟨l⟩⟩ := s
  cases l with
  | nil => cases h
  | cons c r =>
    have hs' : 1 + c.toNat ≤ r.length + 1 := hs
    show fld (c :: r) = some ((ByteArray.mk ⟨c :: r⟩).extract 1 (1 + c.toNat), ((ByteArray.mk ⟨c :: r⟩).extract (1 + c.toNat) (r.length + 1)).data.toList)
    simp only [fld]
    rw [if_neg (by omega)]
    congr 1
    refine Prod.ext ?_ ?_
    · apply ByteArray.ext
      rw [ByteArray.data_extract]
      simp [Nat.add_comm]
    · show _ = ((ByteArray.mk ⟨c :: r⟩).extract (1 + c.toNat) (r.length + 1)).data.toList
      rw [ByteArray.data_extract]
      simp [Nat.add_comm 1]
      rw [List.take_of_length_le (by simp)]
theorem fld_inv {s a : ByteArray} {r : List UInt8} (hf : fld s.data.toList = some (a, r)) :
    ∃ h : 0 < s.size, 1 + s[0].toNat ≤ s.size ∧ a = s.extract 1 (1 + s[0].toNat) ∧ (⟨r.toArray⟩ : ByteArray) = s.extract (1 + s[0].toNat) s.size := by
  rcases Nat.eq_zero_or_pos s.size with h | h
  · rw [fld_empty h] at hf; cases hf
  · refine ⟨h, ?_⟩
    by_cases hs : 1 + s[0].toNat ≤ s.size
    · rw [fld_full h hs] at hf
      injection hf with hf
      injection hf with h1 h2
      refine ⟨hs, h1.symm, ?_⟩
      subst h2
      rfl
    · rw [fld_short h (by omega)] at hf; cases hf


def FldYes (w : World) (a b : ByteArray) (e : Ending) (w' : World) : Prop := e = .returned (.tuple #[.string a, .string b, .bool true]) ∧ ∃ n, w' = w.drewN n
def FldNo (w : World) (e : Ending) (w' : World) : Prop := e = .returned (.tuple #[.string ⟨#[]⟩, .string ⟨#[]⟩, .bool false]) ∧ w = w'

end Go.Proofs.Ytbdafhephmoedaa

/- Words for memory: a slice that reads as a list of tags, a row of tags of the call's own, and append onto an owned one. Conditions: none beyond those typed. -/
namespace Go.Proofs.Ytbdafhephmoedaa
open Go.ChangeShapes Go.WideShapes Go.ChangeAt Go.RowKit
set_option linter.unusedVariables false
set_option maxRecDepth 100000
set_option linter.unusedSimpArgs false

/-- The slice value '.slice A n c' reads as the tags l. -/
def RdT (w : World) (A : Option Addr) (n c : Nat) (l : List Tg) : Prop :=
  l.length = n ∧ n ≤ c ∧ c ≤ maxLen ∧ (∀ t ∈ l, t.1.size ≤ 140737488355328 ∧ t.2.size ≤ 140737488355328) ∧
    ∀ j t, l[j]? = some t → ∃ b o, A = some ⟨b, o, none⟩ ∧ w.cell? ⟨b, o + j * 2, none⟩ = some (.string t.1) ∧ w.cell? ⟨b, o + j * 2 + 1, none⟩ = some (.string t.2)

section
variable {w w' : World} {A : Option Addr} {n c : Nat} {l : List Tg}
theorem RdT.len (h : RdT w A n c l) : l.length = n := h.1
theorem RdT.cap (h : RdT w A n c l) : n ≤ c := h.2.1
theorem RdT.max (h : RdT w A n c l) : c ≤ 9223372036854775807 := h.2.2.1
theorem RdT.sizes (h : RdT w A n c l) : ∀ t ∈ l, t.1.size ≤ 140737488355328 ∧ t.2.size ≤ 140737488355328 := h.2.2.2.1
theorem RdT.at_ (h : RdT w A n c l) {k : Nat} (hk : k < n) :
    ∃ b o p q, A = some ⟨b, o, none⟩ ∧ l[k]? = some (p, q) ∧ p.size ≤ 140737488355328 ∧ q.size ≤ 140737488355328 ∧ b < w.heap.size ∧
      w.cell? ⟨b, o + k * 2, none⟩ = some (.string p) ∧ w.cell? ⟨b, o + k * 2 + 1, none⟩ = some (.string q) := by
  have hl : k < l.length := by rw [h.1]; exact hk
  have hg : l[k]? = some l[k] := List.getElem?_eq_getElem hl
  obtain ⟨b, o, hA, h1, h2⟩ := h.2.2.2.2 k _ hg
  have hs := h.sizes _ (List.getElem_mem hl)
  exact ⟨b, o, l[k].1, l[k].2, hA, hg, hs.1, hs.2, World.block_lt_of_cell? w ⟨b, o + k * 2, none⟩ h1, h1, h2⟩
theorem RdT.keep (h : RdT w A n c l) (hk : ∀ a v, w.cell? a = some v → w'.cell? a = some v) : RdT w' A n c l :=
  ⟨h.1, h.2.1, h.2.2.1, h.2.2.2.1, fun j t ht => by
    obtain ⟨b, o, hA, h1, h2⟩ := h.2.2.2.2 j t ht
    exact ⟨b, o, hA, hk _ _ h1, hk _ _ h2⟩⟩
theorem RdT.below (h : RdT w A n c l) (hb : Below w.heap.size w w') : RdT w' A n c l :=
  h.keep fun a v hc => (hb.cell (World.block_lt_of_cell? w a hc)).trans hc
theorem RdT.drewN (h : RdT w A n c l) (k : Nat) : RdT (w.drewN k) A n c l := h
theorem RdT.nil (w : World) (A : Option Addr) (c : Nat) (hc : c ≤ maxLen) : RdT w A 0 c [] :=
  ⟨rfl, Nat.zero_le _, hc, fun z hz => absurd hz (by simp), fun j z hz => by simp at hz⟩
theorem RdT.none_ (w : World) : RdT w none 0 0 [] := RdT.nil w _ _ (by simp [maxLen])
theorem RdT.alloc (h : RdT w A n c l) (o : Obj) : RdT (w.alloc o) A n c l := h.below ((Below.refl _ _).alloc (Nat.le_refl _) o)
end


def RepAt (l : List Tg) (k : Nat) : Prop := 1 ≤ k ∧ rep (l.drop (k - 1)) = rep l
theorem RepAt.one (l : List Tg) : RepAt l 1 := ⟨by omega, by simp⟩
theorem drop_two {l : List Tg} {k : Nat} {x y : Tg} (hk : 1 ≤ k) (hx : l[k - 1]? = some x) (hy : l[k]? = some y) : l.drop (k - 1) = x :: y :: l.drop (k + 1) := by
  have h1 : k - 1 < l.length := (List.getElem?_eq_some_iff.1 hx).1
  have h2 : k < l.length := (List.getElem?_eq_some_iff.1 hy).1
  have e1 : l[k - 1] = x := (List.getElem?_eq_some_iff.1 hx).2
  have e2 : l[k] = y := (List.getElem?_eq_some_iff.1 hy).2
  rw [List.drop_eq_getElem_cons h1, e1]
  have : k - 1 + 1 = k := by omega
  rw [this, List.drop_eq_getElem_cons h2, e2]
theorem RepAt.hit {l : List Tg} {k : Nat} {p q p' q' : ByteArray} (h : RepAt l k) (hx : l[k - 1]? = some (p', q')) (hy : l[k]? = some (p, q)) (he : (p.toList == p'.toList) = true) : rep l = true := by
  rw [← h.2, drop_two h.1 hx hy]
  have : nm (p', q') = nm (p, q) := by simp only [nm]; rw [← Lib.toList_data, ← Lib.toList_data]; exact (beq_iff_eq.1 he).symm
  simp [rep, this]
theorem RepAt.next {l : List Tg} {k : Nat} {p q p' q' : ByteArray} (h : RepAt l k) (hx : l[k - 1]? = some (p', q')) (hy : l[k]? = some (p, q)) (he : (p.toList == p'.toList) = false) : RepAt l (k + 1) := by
  refine ⟨by omega, ?_⟩
  rw [← h.2, drop_two h.1 hx hy]
  have hne : (nm (p', q') == nm (p, q)) = false := by
    simp only [nm]; rw [← Lib.toList_data, ← Lib.toList_data]
    rw [beq_eq_false_iff_ne] at he ⊢
    exact fun e => he e.symm
  have hd : l.drop (k + 1 - 1) = (p, q) :: l.drop (k + 1) := by
    have h2 : k < l.length := (List.getElem?_eq_some_iff.1 hy).1
    have : k + 1 - 1 = k := by omega
    rw [this, List.drop_eq_getElem_cons h2, (List.getElem?_eq_some_iff.1 hy).2]
  rw [hd]
  simp only [rep, hne, Bool.false_or]
theorem RepAt.end_ {l : List Tg} {k : Nat} (h : RepAt l k) (hl : l.length ≤ k) : rep l = false := by
  rw [← h.2]
  cases hd : l.drop (k - 1) with
  | nil => rfl
  | cons x r =>
    have : r = [] := by
      have : (l.drop (k - 1)).length = l.length - (k - 1) := List.length_drop
      rw [hd] at this
      simp only [List.length_cons] at this
      have := h.1
      exact List.eq_nil_of_length_eq_zero (by omega)
    subst this; rfl

end Go.Proofs.Ytbdafhephmoedaa

/- slices.SortFunc over tags by their names, for few tags. Conditions: none beyond those typed. -/
namespace Go.Proofs.Ytbdafhephmoedaa
open Go.ChangeShapes Go.WideShapes Go.ChangeAt Go.RowKit
set_option linter.unusedVariables false
set_option maxRecDepth 100000
set_option linter.unusedSimpArgs false

theorem bcell {W w1 : World} (hb : Below W.heap.size W w1) : (∀ b o, b < W.heap.size → w1.cell? ⟨b, o, none⟩ = W.cell? ⟨b, o, none⟩) ∧ (∀ b o, b < W.heap.size → w1.frozen? ⟨b, o, none⟩ = W.frozen? ⟨b, o, none⟩) :=
  ⟨fun b o h => hb.cell (p := ⟨b, o, none⟩) h, fun b o h => hb.frozen (p := ⟨b, o, none⟩) h⟩
def cellsT (l : List Tg) : List Value := l.flatMap fun t => [.string t.1, .string t.2]
theorem cellsT_length : ∀ l : List Tg, (cellsT l).length = l.length * 2
  | [] => rfl
  | t :: r => by
    have := cellsT_length r
    simp only [cellsT, List.flatMap_cons, List.length_append, List.length_cons, List.length_nil] at this ⊢
    omega
theorem cellsT_at : ∀ (l : List Tg) (j : Nat) (t : Tg), l[j]? = some t → (cellsT l)[j * 2]? = some (.string t.1) ∧ (cellsT l)[j * 2 + 1]? = some (.string t.2)
  | [], j, t, h => by simp at h
  | x :: r, 0, t, h => by simp at h; subst h; exact ⟨rfl, rfl⟩
  | x :: r, j + 1, t, h => by
    have ih := cellsT_at r j t (by simpa using h)
    have e : cellsT (x :: r) = .string x.1 :: .string x.2 :: cellsT r := rfl
    have a : (j + 1) * 2 = j * 2 + 1 + 1 := by omega
    rw [e, a]
    simpa using ih
theorem cellsT_set : ∀ (l : List Tg) (j : Nat) (t : Tg), j < l.length → ((cellsT l).set (j * 2) (.string t.1)).set (j * 2 + 1) (.string t.2) = cellsT (l.set j t)
  | [], j, t, h => by simp at h
  | x :: r, 0, t, h => rfl
  | x :: r, j + 1, t, h => by
    have ih := cellsT_set r j t (by simpa using h)
    have e : cellsT (x :: r) = .string x.1 :: .string x.2 :: cellsT r := rfl
    have a : (j + 1) * 2 = j * 2 + 1 + 1 := by omega
    rw [e, a]
    simp only [List.set_cons_succ, ih]
    rfl
section
variable {w w' : World} {g c : Nat} {l : List Tg}
end

/-- s with t put in at j, and what follows. -/
def mid (s : List Tg) (t : Tg) (j : Nat) (r : List Tg) : List Tg := s.take j ++ t :: (s.drop j ++ r)
def InsAt (t : Tg) (s : List Tg) (j : Nat) : Prop := j ≤ s.length ∧ ∀ x, s[j]? = some x → lt t x = true
theorem mid_len (s : List Tg) (t : Tg) (j : Nat) (r : List Tg) (hj : j ≤ s.length) : (mid s t j r).length = s.length + 1 + r.length := by
  simp only [mid, List.length_append, List.length_cons, List.length_take, List.length_drop]; omega
theorem mid_t (s : List Tg) (t : Tg) (j : Nat) (r : List Tg) (hj : j ≤ s.length) : (mid s t j r)[j]? = some t := by
  unfold mid
  rw [List.getElem?_append_right (by rw [List.length_take]; omega)]
  have : j - (s.take j).length = 0 := by rw [List.length_take]; omega
  rw [this]; rfl
theorem mid_prev (s : List Tg) (t : Tg) (j : Nat) (r : List Tg) (hj : j ≤ s.length) (h0 : 0 < j) : (mid s t j r)[j - 1]? = s[j - 1]? := by
  unfold mid
  rw [List.getElem?_append_left (by rw [List.length_take]; omega), List.getElem?_take, if_pos (by omega)]
theorem mid_swap (s : List Tg) (t x : Tg) (j : Nat) (r : List Tg) (h0 : 0 < j) (hx : s[j - 1]? = some x) :
    ((mid s t j r).set j x).set (j - 1) t = mid s t (j - 1) r := by
  have hlt : j - 1 < s.length := (List.getElem?_eq_some_iff.1 hx).1
  have hxe : s[j - 1] = x := (List.getElem?_eq_some_iff.1 hx).2
  have e1 : s.take j = s.take (j - 1) ++ [x] := by
    have : j = j - 1 + 1 := by omega
    rw [this, List.take_add_one]
    have e : j - 1 + 1 - 1 = j - 1 := by omega
    rw [e, hx]; rfl
  have e2 : s.drop (j - 1) = x :: s.drop j := by
    rw [List.drop_eq_getElem_cons hlt, hxe]
    have : j - 1 + 1 = j := by omega
    rw [this]
  have hl : (s.take (j - 1)).length = j - 1 := by rw [List.length_take]; omega
  unfold mid
  rw [e1, e2, List.append_assoc]
  rw [List.set_append_right _ _ (by omega), List.set_append_right _ _ (by omega), hl]
  have a1 : j - (j - 1) = 1 := by omega
  have a2 : j - 1 - (j - 1) = 0 := by omega
  rw [a1, a2]
  rfl
theorem mid_end {s : List Tg} {t : Tg} {j : Nat} (r : List Tg) (hs : Srtd s) (h : InsAt t s j) (hx : 0 < j → ∃ x, s[j - 1]? = some x ∧ lt t x = false) :
    mid s t j r = ins t s ++ r := by
  have : s.take j ++ t :: s.drop j = ins t s := by
    refine ins_at t s j (fun y hy => ?_) h.2
    obtain ⟨i, hi⟩ := List.mem_iff_getElem?.1 hy
    rw [List.getElem?_take] at hi
    split at hi
    · rename_i hij
      obtain ⟨x, hsx, hf⟩ := hx (by omega)
      rcases Nat.lt_or_ge i (j - 1) with hlt | hge
      · have h1 : lt x y = false := by
          have := List.pairwise_iff_getElem.1 hs i (j - 1) (List.getElem?_eq_some_iff.1 hi).1 (List.getElem?_eq_some_iff.1 hsx).1 hlt
          rwa [(List.getElem?_eq_some_iff.1 hi).2, (List.getElem?_eq_some_iff.1 hsx).2] at this
        cases hty : lt t y with
        | false => rfl
        | true =>
          have := lt_le hty h1
          rw [hf] at this; cases this
      · have : i = j - 1 := by omega
        subst this
        rw [hsx] at hi
        rw [← Option.some.inj hi]; exact hf
    · cases hi
  unfold mid
  rw [← this]
  simp
theorem srt_take_len {l : List Tg} {k : Nat} (h : k ≤ l.length) : (srt (l.take k)).length = k := by rw [srt_length, List.length_take]; omega
theorem mid_start {l : List Tg} {k : Nat} {t : Tg} (ht : l[k]? = some t) : srt (l.take k) ++ l.drop k = mid (srt (l.take k)) t k (l.drop (k + 1)) := by
  have hlt : k < l.length := (List.getElem?_eq_some_iff.1 ht).1
  have hl := srt_take_len (Nat.le_of_lt hlt)
  have e1 : (srt (l.take k)).take k = srt (l.take k) := List.take_of_length_le (by omega)
  have e2 : (srt (l.take k)).drop k = [] := List.drop_of_length_le (by omega)
  have e3 : l.drop k = t :: l.drop (k + 1) := by rw [List.drop_eq_getElem_cons hlt, (List.getElem?_eq_some_iff.1 ht).2]
  unfold mid
  rw [e1, e2, e3]
  rfl
theorem srt_one (l : List Tg) : srt (l.take 1) ++ l.drop 1 = l := by cases l <;> simp [srt, ins]
theorem srt_all {l : List Tg} {k : Nat} (h : l.length ≤ k) : srt (l.take k) ++ l.drop k = srt l := by
  rw [List.take_of_length_le h, List.drop_of_length_le h, List.append_nil]
theorem insAt_start {l : List Tg} {k : Nat} {t : Tg} (ht : l[k]? = some t) : InsAt t (srt (l.take k)) k := by
  have hlt : k < l.length := (List.getElem?_eq_some_iff.1 ht).1
  have hl := srt_take_len (Nat.le_of_lt hlt)
  exact ⟨by omega, fun x hx => by rw [List.getElem?_eq_none (by omega)] at hx; cases hx⟩
theorem mid_next {l : List Tg} {k j : Nat} {t : Tg} (ht : l[k]? = some t) (h : InsAt t (srt (l.take k)) j) (hx : 0 < j → ∃ x, (srt (l.take k))[j - 1]? = some x ∧ lt t x = false) :
    mid (srt (l.take k)) t j (l.drop (k + 1)) = srt (l.take (k + 1)) ++ l.drop (k + 1) := by
  rw [mid_end _ (srt_srtd _) h hx, List.take_add_one, ht]
  show _ = srt (l.take k ++ [t]) ++ _
  rw [srt_snoc]

theorem grow_set {w w' : World} {g : Nat} (h : w.grownBy w' (some g)) (i : Nat) (v : Value) : w.grownBy (w'.setCell ⟨g, i, none⟩ v) (some g) :=
  ⟨h.os, h.tape, h.output, by simpa [World.setCell] using h.size, fun k hk hne => (Below.heap_setCell _ _ _ _ (fun e => hne (by simp [e]))).trans (h.block k hk hne)⟩
theorem grow_below {w w' w1 : World} {row : Option Nat} (h : w.grownBy w' row) (hb : Below w'.heap.size w' w1) : w.grownBy w1 row :=
  ⟨hb.os.trans h.os, hb.tape.trans h.tape, hb.output.trans h.output, Nat.le_trans h.size hb.size, fun k hk hne => (hb.block k (Nat.lt_of_lt_of_le hk h.size)).trans (h.block k hk hne)⟩
theorem grow_drewN {w w' : World} {row : Option Nat} (h : w.grownBy w' row) (n : Nat) : w.grownBy (w'.drewN n) row := ⟨h.os, h.tape, h.output, h.size, h.block⟩

end Go.Proofs.Ytbdafhephmoedaa

/- Rows of tags that a call owns: append onto them, slices.Clone, and tags.Sort. Conditions: none beyond those typed. -/
namespace Go.Proofs.Ytbdafhephmoedaa
open Go.ChangeShapes Go.WideShapes Go.ChangeAt Go.RowKit
set_option linter.unusedVariables false
set_option maxRecDepth 100000
set_option linter.unusedSimpArgs false

theorem cellsT_append (l m : List Tg) : cellsT (l ++ m) = cellsT l ++ cellsT m := by simp [cellsT]
theorem cellsT_mem : ∀ {l : List Tg} {u : Value}, u ∈ cellsT l → u.oneCell' = true
  | [], u, h => by simp [cellsT] at h
  | t :: r, u, h => by
    have e : cellsT (t :: r) = .string t.1 :: .string t.2 :: cellsT r := rfl
    rw [e] at h
    rcases List.mem_cons.1 h with rfl | h
    · rfl
    · rcases List.mem_cons.1 h with rfl | h
      · rfl
      · exact cellsT_mem h
theorem cellsT_get : ∀ {l : List Tg} {j : Nat} {u : Value}, (cellsT l)[j]? = some u → ∃ i t, l[i]? = some t ∧ ((j = i * 2 ∧ u = .string t.1) ∨ (j = i * 2 + 1 ∧ u = .string t.2))
  | [], j, u, h => by simp [cellsT] at h
  | t :: r, 0, u, h => ⟨0, t, rfl, .inl ⟨rfl, (Option.some.inj h).symm⟩⟩
  | t :: r, 1, u, h => ⟨0, t, rfl, .inr ⟨rfl, (Option.some.inj h).symm⟩⟩
  | t :: r, j + 2, u, h => by
    have e : cellsT (t :: r) = .string t.1 :: .string t.2 :: cellsT r := rfl
    rw [e] at h
    obtain ⟨i, x, hx, hh⟩ := cellsT_get (l := r) (j := j) (u := u) (by simpa using h)
    refine ⟨i + 1, x, by simpa using hx, ?_⟩
    rcases hh with ⟨h1, h2⟩ | ⟨h1, h2⟩
    · exact .inl ⟨by omega, h2⟩
    · exact .inr ⟨by omega, h2⟩

section
variable {w w' : World} {base : Nat} {v : Value} {l : List Tg}
end

section
variable {w : World}
end

end Go.Proofs.Ytbdafhephmoedaa

/- tags.Sort: the sorted tags, or the first error. Conditions: none beyond those typed. -/
namespace Go.Proofs.Ytbdafhephmoedaa
open Go.ChangeShapes Go.WideShapes Go.ChangeAt Go.RowKit
set_option linter.unusedVariables false
set_option maxRecDepth 100000
set_option linter.unusedSimpArgs false

def AllOk (l : List Tg) (k : Nat) : Prop := ∀ x ∈ l.take k, vErr x = 0
theorem AllOk.zero (l : List Tg) : AllOk l 0 := fun x hx => by simp at hx
theorem AllOk.succ {l : List Tg} {k : Nat} {t : Tg} (h : AllOk l k) (ht : l[k]? = some t) (hv : vErr t = 0) : AllOk l (k + 1) := by
  intro x hx
  rw [List.take_add_one, ht] at hx
  rcases List.mem_append.1 hx with hx | hx
  · exact h x hx
  · simp at hx; subst hx; exact hv
theorem AllOk.all {l : List Tg} {k : Nat} (h : AllOk l k) (hl : l.length ≤ k) : ∀ x ∈ l, vErr x = 0 := by
  intro x hx
  exact h x (by rwa [List.take_of_length_le hl])
theorem sortErr_len {l : List Tg} (h : l.length = 0 ∨ l.length > 8) : sortErr l = 5 ∧ sortT l = [] := by
  have e : sortErr l = 5 := by unfold sortErr; rw [if_pos h]
  exact ⟨e, by unfold sortT; rw [e, if_neg (by decide)]⟩
theorem sortErr_bad {l : List Tg} {k : Nat} {t : Tg} (h1 : 0 < l.length) (h2 : l.length ≤ 8) (h : AllOk l k) (ht : l[k]? = some t) (hv : vErr t ≠ 0) : sortErr l = vErr t ∧ sortT l = [] := by
  have hf := fErr_take ht h hv
  have e : sortErr l = vErr t := by
    unfold sortErr; rw [if_neg (by omega), hf, if_neg hv]
  exact ⟨e, by unfold sortT; rw [e, if_neg hv]⟩
theorem sortErr_dup {l : List Tg} {k : Nat} (h1 : 0 < l.length) (h2 : l.length ≤ 8) (h : AllOk l k) (hk : l.length ≤ k) (hd : dup l = true) : sortErr l = 5 ∧ sortT l = [] := by
  have hf := fErr_zero.2 (h.all hk)
  have e : sortErr l = 5 := by
    unfold sortErr; rw [if_neg (by omega), if_pos hf, if_pos hd]
  exact ⟨e, by unfold sortT; rw [e, if_neg (by decide)]⟩
theorem sortErr_ok {l : List Tg} {k : Nat} (h1 : 0 < l.length) (h2 : l.length ≤ 8) (h : AllOk l k) (hk : l.length ≤ k) (hd : dup l = false) : sortErr l = 0 ∧ sortT l = srt l := by
  have hf := fErr_zero.2 (h.all hk)
  have e : sortErr l = 0 := by
    unfold sortErr; rw [if_neg (by omega), if_pos hf, if_neg (by rw [hd]; decide)]
  exact ⟨e, by unfold sortT; rw [if_pos e]⟩
theorem sortT_len (l : List Tg) : (sortT l).length ≤ 8 := by
  unfold sortT
  split
  · rename_i h; rw [srt_length]; exact (sortErr_zero.1 h).1.2
  · simp

/-- What Sort gives back. -/
def SortOut (l : List Tg) (w : World) (e : Ending) (w' : World) : Prop :=
  ∃ A n c, e = .returned (.tuple #[.slice A n c, .int .i64 (sortErr l)]) ∧ n ≤ 8 ∧ RdT w' A n c (sortT l) ∧ Below w.heap.size w w'
theorem SortOut.err {l : List Tg} {w w' : World} {z : Int} (h : sortErr l = z ∧ sortT l = []) (hb : Below w.heap.size w w') :
    SortOut l w (.returned (.tuple #[.slice none 0 0, .int .i64 z])) w' :=
  ⟨none, 0, 0, by rw [h.1], by omega, by rw [h.2]; exact RdT.none_ w', hb⟩
end Go.Proofs.Ytbdafhephmoedaa

/- strings.Builder: a byte and a string written to it; and the key that tags.join builds. Conditions: none beyond those typed. -/
namespace Go.Proofs.Ytbdafhephmoedaa
open Go.ChangeShapes Go.WideShapes Go.ChangeAt Go.RowKit
set_option linter.unusedVariables false
set_option maxRecDepth 100000
set_option linter.unusedSimpArgs false

theorem info_byte : (Try.prog.info? 5).map (fun i => (i.zero, i.size, i.bytes)) = some (some (.int .u8 0), 1, 1) := by kernel_rfl
end Go.Proofs.Ytbdafhephmoedaa

/- heavykeysref01.Sort: the sorted tags, or the first error. Conditions: none beyond those typed. -/
namespace Go.Proofs.Ytbdafhephmoedaa
open Go.ChangeShapes Go.WideShapes Go.ChangeAt Go.RowKit
set_option linter.unusedVariables false
set_option maxRecDepth 100000
set_option linter.unusedSimpArgs false

theorem RdT.take {w : World} {A : Option Addr} {n c : Nat} {l : List Tg} (h : RdT w A n c l) {k : Nat} (hk : k ≤ n) : RdT w A k c (l.take k) := by
  refine ⟨by rw [List.length_take, h.1]; omega, Nat.le_trans hk h.2.1, h.2.2.1, fun z hz => h.sizes z (List.mem_of_mem_take hz), fun j t ht => ?_⟩
  rw [List.getElem?_take] at ht
  split at ht
  · exact h.2.2.2.2 j t ht
  · cases ht
theorem RdT.grown {w w' : World} {A : Option Addr} {n c : Nat} {l : List Tg} {row : Option Nat} (h : RdT w A n c l) (hg : w.grownBy w' row) (hne : ∀ b o, A = some ⟨b, o, none⟩ → some b ≠ row) : RdT w' A n c l :=
  ⟨h.1, h.2.1, h.2.2.1, h.2.2.2.1, fun j t ht => by
    obtain ⟨b, o, hA, h1, h2⟩ := h.2.2.2.2 j t ht
    have := hne b o hA
    exact ⟨b, o, hA, hg.cell h1 this, hg.cell h2 this⟩⟩

/-- The box of a tag, and all that is older than it, stand as they stood. -/
def KS (W1 : World) (g : Nat) (p q : ByteArray) (w : World) : Prop := w.cell? ⟨g, 0, none⟩ = some (.string p) ∧ w.cell? ⟨g, 1, none⟩ = some (.string q) ∧ Below W1.heap.size W1 w
theorem KS.mk' {W1 w : World} {g : Nat} {p q : ByteArray} (c0 : W1.cell? ⟨g, 0, none⟩ = some (.string p)) (c1 : W1.cell? ⟨g, 1, none⟩ = some (.string q)) (h : Below W1.heap.size W1 w) : KS W1 g p q w :=
  ⟨(h.cell (p := ⟨g, 0, none⟩) (World.block_lt_of_cell? _ ⟨g, 0, none⟩ c0)).trans c0, (h.cell (p := ⟨g, 1, none⟩) (World.block_lt_of_cell? _ ⟨g, 1, none⟩ c1)).trans c1, h⟩
theorem KS.alloc {W1 w : World} {g : Nat} {p q : ByteArray} (c0 : W1.cell? ⟨g, 0, none⟩ = some (.string p)) (c1 : W1.cell? ⟨g, 1, none⟩ = some (.string q)) (o : Obj) (h : KS W1 g p q w) : KS W1 g p q (w.alloc o) :=
  KS.mk' c0 c1 (h.2.2.alloc h.2.2.size _)
theorem below_d (W1 : World) (m : Nat) (o : Obj) : Below W1.heap.size W1 ((W1.drewN m).alloc o) := by
  refine Below.alloc ?_ ?_ _
  · exact ⟨rfl, rfl, rfl, Nat.le_refl _, fun _ _ => rfl⟩
  · exact Nat.le_refl _
theorem below_d2 (W1 : World) (m : Nat) (o o' : Obj) : Below W1.heap.size W1 (((W1.drewN m).alloc o).alloc o') := by
  refine Below.alloc (below_d W1 m o) ?_ _
  simp
theorem RdT.drop {w : World} {b o n c : Nat} {l : List Tg} (h : RdT w (some ⟨b, o, none⟩) n c l) {k : Nat} (hk : k ≤ n) : RdT w (some ⟨b, o + k * 2, none⟩) (n - k) (c - k) (l.drop k) := by
  refine ⟨by rw [List.length_drop, h.1], by have := h.2.1; omega, by have := h.2.2.1; omega, fun z hz => h.sizes z (List.mem_of_mem_drop hz), fun j t ht => ?_⟩
  rw [List.getElem?_drop] at ht
  obtain ⟨b', o', hA, h1, h2⟩ := h.2.2.2.2 _ t ht
  injection hA with hA
  injection hA with e1 e2
  subst e1; subst e2
  refine ⟨_, _, rfl, ?_, ?_⟩
  · rw [← h1]; congr 2; omega
  · rw [← h2]; congr 2; omega
theorem own_ne {h h' : Nat} (hne : h' ≠ h) : ∀ b o, (some (⟨h', 0, none⟩ : Addr)) = some ⟨b, o, none⟩ → (Value.slice (some ⟨h, 0, none⟩) 0 0).ownBlock ≠ some b := by
  rintro b o e
  injection e with e
  injection e with e1
  subst e1
  simp only [Value.ownBlock, ne_eq, Option.some.injEq]
  exact fun x => hne x.symm
theorem RdT.end_ {w : World} {A : Option Addr} {j m c : Nat} {l : List Tg} (hl : l.length ≤ j) (hm : m = 0) (hc : c ≤ maxLen) : RdT w A m c (l.drop j) := by
  subst hm
  rw [List.drop_of_length_le hl]
  exact RdT.nil w A c hc
theorem RdT.far {W1 w : World} {A : Option Addr} {n c : Nat} {l : List Tg} {g : Nat} {p q : ByteArray} (h : RdT W1 A n c l) (hk : KS W1 g p q w) : RdT w A n c l := h.below hk.2.2
theorem ref_fin {l : List Tg} {k j : Nat} {t : Tg} (ht : l[k]? = some t) (hS : Strict (srt (l.take k))) (h1 : ∀ x ∈ (srt (l.take k)).take j, lt x t = true) (h2 : ∀ x, (srt (l.take k))[j]? = some x → lt t x = true) :
    ([] ++ (srt (l.take k)).take j ++ [t]) ++ (srt (l.take k)).drop j = srt (l.take (k + 1)) ∧ Strict (srt (l.take (k + 1))) := by
  have e : l.take (k + 1) = l.take k ++ [t] := by rw [List.take_add_one, ht]; rfl
  rw [e, srt_snoc]
  obtain ⟨a, b⟩ := strict_ins hS h1 h2
  exact ⟨by rw [← a]; simp, b⟩
theorem str_nm {p q p' q' : ByteArray} (h : (p'.toList == p.toList) = true) : nm (p', q') = nm (p, q) := by
  simp only [nm]; rw [← Lib.toList_data, ← Lib.toList_data]; exact beq_iff_eq.1 h
theorem ref_less {s : List Tg} {j : Nat} {p q p' q' : ByteArray} {x : Tg} (hg : s[j]? = some (p', q')) (h1 : Op.bytesLess p'.toList p.toList = false) (h2 : (p'.toList == p.toList) = false) (hx : s[j]? = some x) : lt (p, q) x = true := by
  rw [hg] at hx
  obtain rfl := Option.some.inj hx
  rw [Lib.toList_data, Lib.toList_data] at h1 h2
  rcases lt_total (p, q) (p', q') with e | e | e
  · exact absurd e.symm (beq_eq_false_iff_ne.1 h2)
  · exact e
  · exact absurd (e.symm.trans h1) (by decide)
theorem SortOut.okR {l : List Tg} {w w' : World} {A : Option Addr} {n c : Nat} (h : sortErr l = 0 ∧ sortT l = srt l) (hr : RdT w' A n c (srt l)) (hn8 : n ≤ 8) (hb : Below w.heap.size w w') :
    SortOut l w (.returned (.tuple #[.slice A n c, .int .i64 0])) w' :=
  ⟨A, n, c, by rw [h.1], hn8, by rw [h.2]; exact hr, hb⟩
def Less (s : List Tg) (t : Tg) (j : Nat) : Prop := ∀ x ∈ s.take j, lt x t = true
theorem less_next {s : List Tg} {j : Nat} {p q p' q' : ByteArray} (h : Less s (p, q) j) (hg : s[j]? = some (p', q')) (h1 : Op.bytesLess p'.toList p.toList = true) : Less s (p, q) (j + 1) := by
  intro x hx
  rw [List.take_add_one, hg] at hx
  rcases List.mem_append.1 hx with hx | hx
  · exact h x hx
  · simp at hx; subst hx
    rw [Lib.toList_data, Lib.toList_data] at h1
    exact h1
end Go.Proofs.Ytbdafhephmoedaa

/- tags.join, tags.Key and heavykeysref01.Key. Conditions: none beyond those typed. -/
namespace Go.Proofs.Ytbdafhephmoedaa
open Go.ChangeShapes Go.WideShapes Go.ChangeAt Go.RowKit
set_option linter.unusedVariables false
set_option maxRecDepth 100000
set_option linter.unusedSimpArgs false

theorem cells_one (s : ByteArray) (h : s.size ≤ 255) : Lib.byteCells (one s) = [.int .u8 (s.size : Int)] ++ Lib.strCells s := by
  have : (UInt8.ofNat s.size).toNat = s.size := by rw [UInt8.toNat_ofNat']; omega
  simp only [one, Lib.byteCells, Lib.strCells, List.map_cons, this]
  rfl
theorem joinT_snoc {l : List Tg} {k : Nat} {t : Tg} (ht : l[k]? = some t) : joinT (l.take (k + 1)) = joinT (l.take k) ++ (one t.1 ++ one t.2) := by
  rw [List.take_add_one, ht]
  simp [joinT]
theorem cells_next {l : List Tg} {k : Nat} {p q : ByteArray} (ht : l[k]? = some (p, q)) (hp : p.size ≤ 255) (hq : q.size ≤ 255) :
    Lib.byteCells (joinT (l.take k)) ++ [.int .u8 (p.size : Int)] ++ Lib.strCells p ++ [.int .u8 (q.size : Int)] ++ Lib.strCells q = Lib.byteCells (joinT (l.take (k + 1))) := by
  rw [joinT_snoc ht, Lib.byteCells_append, Lib.byteCells_append, cells_one p hp, cells_one q hq]
  simp
theorem joinT_len : ∀ (l : List Tg), (∀ t ∈ l, t.1.size ≤ 255 ∧ t.2.size ≤ 255) → (joinT l).length ≤ l.length * 512
  | [], _ => by simp [joinT]
  | t :: r, h => by
    have ih := joinT_len r fun x hx => h x (by simp [hx])
    have ht := h t (by simp)
    have e : joinT (t :: r) = one t.1 ++ one t.2 ++ joinT r := by simp [joinT]
    have a1 : (one t.1).length = t.1.size + 1 := by rw [ba_size]; simp [one]
    have a2 : (one t.2).length = t.2.size + 1 := by rw [ba_size]; simp [one]
    rw [e, List.length_append, List.length_append, a1, a2, List.length_cons]
    omega
theorem isb_alloc {T e : TypeId} {B b : Nat} {bs : List Value} {w : World} (h : Lib.IsBuilderF T e B b bs w) (o : Obj) : Lib.IsBuilderF T e B b bs (w.alloc o) := by
  rcases h with h | h
  · exact .inl (h.alloc o)
  · exact .inr (h.alloc o)
theorem isb_drewN {T e : TypeId} {B b : Nat} {bs : List Value} {w : World} (h : Lib.IsBuilderF T e B b bs w) (n : Nat) : Lib.IsBuilderF T e B b bs (w.drewN n) := h
/-- The bytes of joined tags. -/
def keyS (l : List Tg) : ByteArray := ⟨(joinT l).toArray⟩
theorem keyS_size (l : List Tg) : (keyS l).size = (joinT l).length := by simp [keyS, ByteArray.size]
theorem key_bad {l : List Tg} (h : sortErr l ≠ 0) : keyErr l = sortErr l ∧ keyBy l = ⟨#[]⟩ := by
  have e : keyErr l = sortErr l := by unfold keyErr; rw [if_neg h]
  exact ⟨e, by unfold keyBy; rw [e, if_neg h]⟩
theorem key_long {l : List Tg} (h : sortErr l = 0) (hl : 255 < (keyS (srt l)).size) : keyErr l = 4 ∧ keyBy l = ⟨#[]⟩ := by
  rw [keyS_size] at hl
  have e : keyErr l = 4 := by unfold keyErr; rw [if_pos h, if_pos hl]
  exact ⟨e, by unfold keyBy; rw [e, if_neg (by decide)]⟩
theorem key_ok {l : List Tg} (h : sortErr l = 0) (hl : (keyS (srt l)).size ≤ 255) : keyErr l = 0 ∧ keyBy l = keyS (srt l) := by
  rw [keyS_size] at hl
  have e : keyErr l = 0 := by unfold keyErr; rw [if_pos h, if_neg (by omega)]
  exact ⟨e, by unfold keyBy; rw [if_pos e]; rfl⟩
theorem sorted_sizes {l : List Tg} (h : sortErr l = 0) : ∀ t ∈ srt l, t.1.size ≤ 255 ∧ t.2.size ≤ 255 := by
  intro t ht
  have := vErr_size ((sortErr_zero.1 h).2.1 t ((srt_perm l).mem_iff.1 ht))
  omega
/-- What Key gives back. -/
def KeyOut (l : List Tg) (w : World) (e : Ending) (w' : World) : Prop := e = .returned (.tuple #[.string (keyBy l), .int .i64 (keyErr l)]) ∧ Below w.heap.size w w'
theorem KeyOut.mk' {l : List Tg} {w w' : World} {s : ByteArray} {z : Int} (h : keyErr l = z ∧ keyBy l = s) (hb : Below w.heap.size w w') : KeyOut l w (.returned (.tuple #[.string s, .int .i64 z])) w' := by
  obtain ⟨rfl, rfl⟩ := h; exact ⟨rfl, hb⟩

/-- The string of one byte. -/
def chr (n : Nat) : ByteArray := ⟨#[UInt8.ofNat n]⟩
theorem chr_size (n : Nat) : (chr n).size ≤ 1 := Nat.le_refl _
theorem conv_one (w : World) (h n : Nat) (hn : n ≤ 255) (hc : w.cell? ⟨h, 0, none⟩ = some (.int .u8 (n : Int))) : (convert 58 9 (.slice (some ⟨h, 0, none⟩) 1 1)).run Try.prog w = .ok (.string (chr n)) w :=
  run_convert_bytes_back w _ _ _ ⟨h, 0, none⟩ 1 [UInt8.ofNat n] Try.underlying58 Try.underlying5 Try.underlying9 fun j hj => by
    have h0 : j = 0 := by simp at hj; exact hj
    subst h0
    have : (UInt8.ofNat n).toNat = n := by rw [UInt8.toNat_ofNat']; omega
    have e : (⟨h, 0, none⟩ : Addr).add 0 = ⟨h, 0, none⟩ := rfl
    rw [e, hc]
    simp only [List.getElem_cons_zero, this]
theorem keyS_snoc {l : List Tg} {k : Nat} {p q : ByteArray} (ht : l[k]? = some (p, q)) : keyS (l.take k) ++ (((chr p.size ++ p) ++ chr q.size) ++ q) = keyS (l.take (k + 1)) := by
  apply ByteArray.ext
  simp only [ByteArray.data_append, keyS, joinT_snoc ht, chr, one]
  apply Array.ext'
  simp
theorem ba_append_size (a b : ByteArray) : (a ++ b).size = a.size + b.size := ByteArray.size_append

end Go.Proofs.Ytbdafhephmoedaa

/- heavykeysref01.SameTags. Conditions: none beyond those typed. -/
namespace Go.Proofs.Ytbdafhephmoedaa
open Go.ChangeShapes Go.WideShapes Go.ChangeAt Go.RowKit
set_option linter.unusedVariables false
set_option maxRecDepth 100000
set_option linter.unusedSimpArgs false


theorem str_eq {a b : ByteArray} (h : a.toList = b.toList) : a = b := by
  rw [Lib.toList_data, Lib.toList_data] at h
  exact ByteArray.ext (Array.toList_inj.1 h)
theorem str_beq (a b : ByteArray) : (a.toList == b.toList) = decide (a = b) := by
  rw [Bool.eq_iff_iff, beq_iff_eq, decide_eq_true_iff]
  exact ⟨str_eq, fun h => by rw [h]⟩
theorem take_eq_next {l r : List Tg} {k : Nat} {t : Tg} (h : l.take k = r.take k) (hl : l[k]? = some t) (hr : r[k]? = some t) : l.take (k + 1) = r.take (k + 1) := by
  rw [List.take_add_one, List.take_add_one, h, hl, hr]
theorem ne_at {l r : List Tg} {k : Nat} {t u : Tg} (hl : l[k]? = some t) (hr : r[k]? = some u) (hne : t ≠ u) : decide (l = r) = false := by
  rw [decide_eq_false_iff_not]; rintro rfl; rw [hl] at hr; exact hne (Option.some.inj hr)

end Go.Proofs.Ytbdafhephmoedaa

/- Words on tags that statements share: literal lists, boxes, heavykeysref01.SameTags on equal lists. Conditions: none beyond those typed. -/
namespace Go.Proofs.Ytbdafhephmoedaa
open Go.ChangeShapes Go.WideShapes Go.ChangeAt Go.RowKit
set_option linter.unusedVariables false
set_option maxRecDepth 100000
set_option linter.unusedSimpArgs false

/-- A box stands behind a call that leaves alone what was there. -/
theorem box_next {W W' : World} {g : Nat} {p q : ByteArray} (h : W.cell? ⟨g, 0, none⟩ = some (.string p) ∧ W.cell? ⟨g, 1, none⟩ = some (.string q)) (hb : Below W.heap.size W W') :
    W'.cell? ⟨g, 0, none⟩ = some (.string p) ∧ W'.cell? ⟨g, 1, none⟩ = some (.string q) :=
  ⟨(hb.cell (p := ⟨g, 0, none⟩) (World.block_lt_of_cell? _ ⟨g, 0, none⟩ h.1)).trans h.1, (hb.cell (p := ⟨g, 1, none⟩) (World.block_lt_of_cell? _ ⟨g, 1, none⟩ h.2)).trans h.2⟩
theorem keyBy_le (l : List Tg) : (keyBy l).size ≤ 255 := by
  by_cases h : keyErr l = 0
  · unfold keyBy; rw [if_pos h]; show (joinT (srt l)).toArray.size ≤ 255; simpa using (keyErr_zero h).2
  · unfold keyBy; rw [if_neg h]; show (#[] : Array UInt8).size ≤ 255; simp

/-- The argument: a slice of tags, of whatever sizes. -/
def ArgT (w : World) (A : Option Addr) (n c : Nat) (l : List Tg) : Prop :=
  l.length = n ∧ n ≤ c ∧ c ≤ maxLen ∧ (∀ t ∈ l, t.1.size ≤ maxLen ∧ t.2.size ≤ maxLen) ∧
    ∀ j t, l[j]? = some t → ∃ b o, A = some ⟨b, o, none⟩ ∧ w.cell? ⟨b, o + j * 2, none⟩ = some (.string t.1) ∧ w.cell? ⟨b, o + j * 2 + 1, none⟩ = some (.string t.2)
theorem ArgT.at_ {w : World} {A : Option Addr} {n c : Nat} {l : List Tg} (h : ArgT w A n c l) {k : Nat} (hk : k < n) :
    ∃ b o p q, A = some ⟨b, o, none⟩ ∧ l[k]? = some (p, q) ∧ p.size ≤ 9223372036854775807 ∧ q.size ≤ 9223372036854775807 ∧ b < w.heap.size ∧
      w.cell? ⟨b, o + k * 2, none⟩ = some (.string p) ∧ w.cell? ⟨b, o + k * 2 + 1, none⟩ = some (.string q) := by
  have hl : k < l.length := by rw [h.1]; exact hk
  have hg : l[k]? = some l[k] := List.getElem?_eq_getElem hl
  obtain ⟨b, o, hA, h1, h2⟩ := h.2.2.2.2 k _ hg
  have hs := h.2.2.2.1 _ (List.getElem_mem hl)
  exact ⟨b, o, l[k].1, l[k].2, hA, hg, hs.1, hs.2, World.block_lt_of_cell? w ⟨b, o + k * 2, none⟩ h1, h1, h2⟩
theorem ArgT.below {w w' : World} {A : Option Addr} {n c : Nat} {l : List Tg} (h : ArgT w A n c l) (hb : Below w.heap.size w w') : ArgT w' A n c l :=
  ⟨h.1, h.2.1, h.2.2.1, h.2.2.2.1, fun j t ht => by
    obtain ⟨b, o, hA, h1, h2⟩ := h.2.2.2.2 j t ht
    have e1 := (hb.cell (World.block_lt_of_cell? w _ h1)).trans h1
    have e2 := (hb.cell (World.block_lt_of_cell? w _ h2)).trans h2
    exact ⟨b, o, hA, e1, e2⟩⟩
theorem three_cell (w : World) (x y z : Value) (t : TypeId) : (w.alloc (.cells #[x, y, z] t)).cell? ⟨w.heap.size, 0, none⟩ = some x ∧ (w.alloc (.cells #[x, y, z] t)).cell? ⟨w.heap.size, 1, none⟩ = some y ∧ (w.alloc (.cells #[x, y, z] t)).cell? ⟨w.heap.size, 2, none⟩ = some z := by
  refine ⟨?_, ?_, ?_⟩ <;> (rw [World.cell?_alloc_at _ _ _ _ rfl]; rfl)
end Go.Proofs.Ytbdafhephmoedaa

/- Decks of numbers: New, Next, Within. Conditions: none beyond those typed. -/
namespace Go.Proofs.Ytbdafhephmoedaa
open Go.ChangeShapes Go.WideShapes Go.ChangeAt Go.RowKit
set_option linter.unusedVariables false
set_option maxRecDepth 100000
set_option linter.unusedSimpArgs false

/-- The slice value '.slice A n c' reads as n numbers. -/
def RdI (w : World) (A : Option Addr) (n c : Nat) : Prop :=
  n ≤ c ∧ c ≤ maxLen ∧ ∀ j, j < n → ∃ b o z, A = some ⟨b, o, none⟩ ∧ w.cell? ⟨b, o + j, none⟩ = some (.int .i64 z) ∧ -9223372036854775808 ≤ z ∧ z ≤ 9223372036854775807
/-- A deck in block g. -/
def DeckAt (w : World) (g : Nat) (A : Option Addr) (n c a : Nat) : Prop :=
  w.heap[g]? = some (.cells #[.slice A n c, .int .i64 (a : Int)] 50 (0, 0)) ∧ a ≤ n

theorem RdI.keep {w w' : World} {A : Option Addr} {n c : Nat} (h : RdI w A n c) (hk : ∀ a v, w.cell? a = some v → w'.cell? a = some v) : RdI w' A n c :=
  ⟨h.1, h.2.1, fun j hj => by
    obtain ⟨b, o, z, hA, hc, hz⟩ := h.2.2 j hj
    exact ⟨b, o, z, hA, hk _ _ hc, hz⟩⟩
theorem RdI.below {w w' : World} {A : Option Addr} {n c : Nat} (h : RdI w A n c) (hb : Below w.heap.size w w') : RdI w' A n c :=
  h.keep fun a v hc => (hb.cell (World.block_lt_of_cell? w a hc)).trans hc
theorem DeckAt.c0 {w : World} {g n c a : Nat} {A : Option Addr} (h : DeckAt w g A n c a) : w.cell? ⟨g, 0, none⟩ = some (.slice A n c) := by rw [cell_of_row w g 0 _ _ (0, 0) h.1]; rfl
theorem DeckAt.c1 {w : World} {g n c a : Nat} {A : Option Addr} (h : DeckAt w g A n c a) : w.cell? ⟨g, 1, none⟩ = some (.int .i64 (a : Int)) := by rw [cell_of_row w g 1 _ _ (0, 0) h.1]; rfl
theorem DeckAt.frozen {w : World} {g n c a : Nat} {A : Option Addr} (h : DeckAt w g A n c a) (i : Nat) : w.frozen? ⟨g, i, none⟩ = false := by
  have := h.1; simp [World.frozen?, this]
theorem DeckAt.lt {w : World} {g n c a : Nat} {A : Option Addr} (h : DeckAt w g A n c a) : g < w.heap.size := World.block_lt_of_cell? _ ⟨g, 0, none⟩ h.c0
theorem DeckAt.step {w : World} {g n c a : Nat} {A : Option Addr} (h : DeckAt w g A n c a) (hlt : a < n) : DeckAt (w.setCell ⟨g, 1, none⟩ (.int .i64 ((a : Int) + 1))) g A n c (a + 1) := by
  refine ⟨?_, by omega⟩
  have := h.1
  simp [World.setCell, Array.getElem?_modify, this]
theorem DeckAt.far {w w' : World} {g n c a : Nat} {A : Option Addr} (h : DeckAt w g A n c a) (hb : w'.heap[g]? = w.heap[g]?) : DeckAt w' g A n c a := ⟨hb.trans h.1, h.2⟩
theorem DeckAt.below {w w' : World} {g n c a : Nat} {A : Option Addr} (h : DeckAt w g A n c a) (hb : Below w.heap.size w w') : DeckAt w' g A n c a := h.far (hb.block g h.lt)

/-- A number from 0 to n - 1 comes back. -/
def IntOut (n : Int) (w : World) (e : Ending) (w' : World) : Prop := ∃ r : Nat, (r : Int) < n ∧ e = .returned (.int .i64 (r : Int)) ∧ w = w'
theorem within_val (x n : Int) (h3 : 1 ≤ n) (h4 : n ≤ 4398046511104) : wrap64 (x.tmod n + n) = x.tmod n + n ∧ 0 ≤ (x.tmod n + n).tmod n ∧ (x.tmod n + n).tmod n < n := by
  have a1 := Int.tmod_lt_of_pos x (show 0 < n by omega)
  have a2 : -n < x.tmod n := by
    have := Int.tmod_lt_of_pos (-x) (show 0 < n by omega)
    rw [Int.neg_tmod] at this
    omega
  refine ⟨IntWalk.wrap64_in _ ⟨by omega, by omega⟩, Int.tmod_nonneg _ (by omega), Int.tmod_lt_of_pos _ (by omega)⟩
theorem within_any (x n : Int) (w : World) (h1 : -9223372036854775808 ≤ x) (h2 : x ≤ 9223372036854775807) (h3 : 1 ≤ n) (h4 : n ≤ 4398046511104) :
    Calls Try.prog 32 #[.int .i64 x, .int .i64 n] w (IntOut n w) := by
  obtain ⟨e1, e2, e3⟩ := within_val x n h3 h4
  obtain ⟨r, hr⟩ := Int.eq_ofNat_of_zero_le e2
  have E1 := Lib.hid e1
  have HR := Lib.hid hr
  have hrn : (r : Int) < n := by omega
  clear e1 e2 e3 hr
  go_enter Try.func32, Try.ntmps32
  go_wp2
  go_ret
  exact ⟨r, hrn, ret_i64 (by rw [E1.out]; exact HR.out), rfl⟩

/-- What Next leaves: a number below k, and the deck. -/
def NextOut (g : Nat) (A : Option Addr) (n c : Nat) (k : Int) (w : World) (e : Ending) (w' : World) : Prop :=
  ∃ r : Nat, (r : Int) < k ∧ e = .returned (.int .i64 (r : Int)) ∧ (∃ a, DeckAt w' g A n c a) ∧ w.grownBy w' (some g)

set_option maxHeartbeats 1000000 in
theorem next_any (g : Nat) (A : Option Addr) (n c a : Nat) (k : Int) (w : World) (hD : DeckAt w g A n c a) (hR : RdI w A n c) (hg : ∀ j, j < n → ∀ b o, A = some ⟨b, o, none⟩ → b ≠ g) (h3 : 1 ≤ k) (h4 : k ≤ 4398046511104) :
    Calls Try.prog 25 #[.pointer (some ⟨g, 0, none⟩), .int .i64 k] w (NextOut g A n c k w) := by
  have HG := Lib.hid hg
  clear hg
  have c0 := hD.c0
  have c1 := hD.c1
  have f1 := hD.frozen 1
  have hn : n ≤ 9223372036854775807 := Nat.le_trans hR.1 hR.2.1
  have ha := hD.2
  by_cases hlt : a < n
  · have hd : decide (n ≤ a) = false := by simp; omega
    have hi : decide ((n : Int) ≤ (a : Int)) = false := by simp; omega
    obtain ⟨b, o, z, rfl, hc, hz1, hz2⟩ := hR.2.2 a hlt
    have hbg := HG.out a hlt b o rfl
    have i1 : IntKind.i64.wrap ((a : Int) + 1 - 1) = (a : Int) := by rw [IntWalk.i64_in _ (by omega)]; omega
    have i4 : IntKind.i64.wrap (a : Int) = (a : Int) := IntWalk.i64_in _ (by omega)
    have i5 : a ≤ c := by have := hR.1; omega
    have i2 : (0 : Int) ≤ (a : Int) := Int.natCast_nonneg _
    have i3 : (a : Int) < (n : Int) := by omega
    go_enter Try.func25, Try.ntmps25
    go_wp2
    go_quiet (fail)
    go_wp2
    have hD' : DeckAt (w.drewN nq) g (some ⟨b, o, none⟩) n c a := hD
    have hS := hD'.step hlt
    have hG := grow_set (grow_drewN (World.grownBy.refl w (some g)) nq) 1 (.int .i64 ((a : Int) + 1))
    have k0 := hS.c0
    have k1 := hS.c1
    rw [Int.natCast_add, Int.natCast_one] at k1
    have k2 : ((w.drewN nq).setCell ⟨g, 1, none⟩ (.int .i64 ((a : Int) + 1))).cell? ⟨b, o + a, none⟩ = some (.int .i64 z) := by
      rw [World.cell?_setCell_other _ _ _ _ (by simp [hbg])]; exact hc
    clear hD' hD c0 c1 f1 hc hlt
    have HS := Lib.hid hS
    clear hS
    generalize (w.drewN nq).setCell ⟨g, 1, none⟩ (.int .i64 ((a : Int) + 1)) = W at *
    go_region_held3 (fun w' => w'.cell? ⟨g, 0, none⟩ = some (.slice (some ⟨b, o, none⟩) n c) ∧ w'.cell? ⟨g, 1, none⟩ = some (.int .i64 ((a : Int) + 1)) ∧ w'.cell? ⟨b, o + a, none⟩ = some (.int .i64 z)) (first | exact ⟨k0, k1, k2⟩ | assumption) (first | (go_at_call 32; refine (within_any _ _ _ hz1 hz2 h3 h4).mono ?_; rintro e w5 ⟨r, hr, rfl, rfl⟩))
    clear k0 k1 k2
    go_wp2
    go_ret
    exact ⟨r, hr, rfl, ⟨_, HS.out⟩, grow_drewN hG 1⟩
  · have hd : decide (n ≤ a) = true := by simp; omega
    have hi : decide ((n : Int) ≤ (a : Int)) = true := by simp; omega
    go_enter Try.func25, Try.ntmps25
    go_wp2
    go_quiet (fail)
    go_wp2
    go_ret
    exact ⟨0, by omega, rfl, ⟨a, hD⟩, grow_drewN (World.grownBy.refl _ _) _⟩

theorem new_any (A : Option Addr) (n c : Nat) (w : World) :
    Calls Try.prog 16 #[.slice A n c] w fun e w' => e = .returned (.pointer (some ⟨w.heap.size, 0, none⟩)) ∧ w' = w.alloc (.cells #[.slice A n c, .int .i64 0] 50) := by
  go_enter Try.func16, Try.ntmps16
  go_wp2
  go_ret
  exact ⟨rfl, rfl⟩
end Go.Proofs.Ytbdafhephmoedaa
