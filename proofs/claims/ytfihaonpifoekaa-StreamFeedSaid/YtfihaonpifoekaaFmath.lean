/- Plain facts on batches of events as bytes, and on what is read of a body, also of one that is cut. No program here. Conditions: none beyond those typed. -/
import Derived.Test.YtfihaonpifoekaaEitem
namespace Go.Proofs.Ytfihaonpifoekaa
set_option linter.unusedVariables false
set_option linter.unusedSimpArgs false
set_option maxRecDepth 100000

def Byt (l : List Int) : Prop := ∀ z ∈ l, 0 ≤ z ∧ z ≤ 255
theorem Byt.app {l m : List Int} (h : Byt l) (h' : Byt m) : Byt (l ++ m) := fun z hz => by
  rcases List.mem_append.1 hz with a | a
  · exact h z a
  · exact h' z a
theorem Byt.drop {l : List Int} (h : Byt l) (k : Nat) : Byt (l.drop k) := fun z hz => h z (List.mem_of_mem_drop hz)
theorem Byt.take {l : List Int} (h : Byt l) (k : Nat) : Byt (l.take k) := fun z hz => h z (List.mem_of_mem_take hz)
theorem Byt.numR {l : List Int} (h : Byt l) : Byt (numR l) := h.drop _
theorem Byt.txtR {l : List Int} (h : Byt l) : Byt (txtR l) := h.numR.drop _
theorem evB_bytes (l : List Tg) (t x : Int) : Byt (evB l t x) := fun z hz => by
  unfold evB at hz
  rcases List.mem_append.1 hz with a | a
  · rcases List.mem_append.1 a with a | a
    · rcases List.mem_append.1 a with a | a
      · exact enc_bytes _ z a
      · exact enc_bytes _ z a
    · exact enc_bytes _ z a
  · exact tagsB_bytes _ z a

/-! ### what follows changes nothing of what is read -/
theorem rd_ext {p : List Int} (a : List Int) (hp : Byt p) (ha : Byt a) (h : rdE p = 0) : rdE (p ++ a) = 0 ∧ rdN (p ++ a) = rdN p ∧ rdK (p ++ a) = rdK p ∧ numR (p ++ a) = numR p ++ a := by
  obtain ⟨k, hk, _, hkl, _, h0, h1, he⟩ := rd_unique p hp h
  have hs : p ++ a = enc (rdN p).toNat ++ (p.drop k ++ a) := by rw [he, ← List.append_assoc, List.take_append_drop]
  obtain ⟨b1, b2, b3⟩ := rd_back (rdN p).toNat (p.drop k ++ a) (by omega) fun z hz => (((hp.drop k).app ha) z hz).1
  have hlen : ((enc (rdN p).toNat).length : Int) = rdK p := by rw [he, hk, List.length_take]; omega
  rw [hs, b1, b2, b3, hlen]
  refine ⟨rfl, by omega, rfl, ?_⟩
  rw [← hs]
  have hK : rdK (p ++ a) = rdK p := by rw [hs, b2, hlen]
  unfold numR
  rw [hK, hk, Int.toNat_natCast, List.drop_append_of_le_length hkl]
theorem num_ext {most over : Int} {p : List Int} (a : List Int) (hp : Byt p) (ha : Byt a) (ho : over ≠ 0) (h : numE most over p = 0) : numE most over (p ++ a) = 0 ∧ rdN (p ++ a) = rdN p ∧ numR (p ++ a) = numR p ++ a := by
  obtain ⟨h1, h2, _⟩ := numE_zero h ho
  obtain ⟨b1, b2, _, b4⟩ := rd_ext a hp ha h1
  exact ⟨(numE_ok b1 (by rw [b2]; omega)).1, b2, b4⟩
theorem txt_ext {p : List Int} (a : List Int) (hp : Byt p) (ha : Byt a) (h : txtE p = 0) : txtE (p ++ a) = 0 ∧ txtV (p ++ a) = txtV p ∧ txtR (p ++ a) = txtR p ++ a := by
  have h0 : numE 4096 4 p = 0 := by
    unfold txtE at h
    split at h
    · rename_i hh; exact absurd h hh
    · rename_i hh; simpa using hh
  have h1 : ¬ ((numR p).length : Int) < rdN p := by
    intro hh
    unfold txtE at h
    rw [if_neg (by simp [h0]), if_pos hh] at h
    cases h
  obtain ⟨b1, b2, b3⟩ := num_ext a hp ha (by decide) h0
  have hn := (rd_top hp).1
  have hle : (rdN p).toNat ≤ (numR p).length := by omega
  have e : txtE (p ++ a) = 0 := by
    unfold txtE
    rw [if_neg (by simp [b1]), b3, b2, if_neg (by rw [List.length_append]; omega)]
  refine ⟨e, ?_, ?_⟩
  · unfold txtV
    rw [if_pos e, if_pos h, b3, b2, List.take_append_of_le_length hle]
  · unfold txtR
    rw [b3, b2, List.drop_append_of_le_length hle]
theorem tgs_ext : ∀ (k : Nat) {p : List Int} (a : List Int), Byt p → Byt a → tgsE k p = 0 → tgsE k (p ++ a) = 0 ∧ tgsV k (p ++ a) = tgsV k p ∧ tgsR k (p ++ a) = tgsR k p ++ a
  | 0, p, a, _, _, _ => ⟨rfl, rfl, rfl⟩
  | k + 1, p, a, hp, ha, h => by
    rw [tgsE] at h
    split at h
    · rename_i hh; exact absurd h hh
    · rename_i h1
      have h1 : txtE p = 0 := by simpa using h1
      split at h
      · rename_i hh; exact absurd h hh
      · rename_i h2
        have h2 : txtE (txtR p) = 0 := by simpa using h2
        obtain ⟨a1, a2, a3⟩ := txt_ext a hp ha h1
        obtain ⟨b1, b2, b3⟩ := txt_ext a hp.txtR ha h2
        obtain ⟨c1, c2, c3⟩ := tgs_ext k a hp.txtR.txtR ha h
        refine ⟨?_, ?_, ?_⟩
        · rw [tgsE, a1, a3, b1, b3, c1]; rfl
        · rw [tgsV, tgsV, a2, a3, b2, b3, c2]
        · rw [tgsR, tgsR, a3, b3, c3]
theorem dec_parts {p : List Int} (h : decE p = 0) : numE 1099511627776 1 p = 0 ∧ numE 18446744073709551615 1 (numR p) = 0 ∧ numE 8 5 (numR (numR p)) = 0 ∧ tgsE (rdN (numR (numR p))).toNat (numR (numR (numR p))) = 0 := by
  unfold decE evR1 evR2 evR3 at h
  split at h
  · rename_i hh; exact absurd h hh
  · rename_i h1
    split at h
    · rename_i hh; exact absurd h hh
    · rename_i h2
      split at h
      · rename_i hh; exact absurd h hh
      · rename_i h3
        exact ⟨by simpa using h1, by simpa using h2, by simpa using h3, h⟩
theorem dec_ext {p : List Int} (a : List Int) (hp : Byt p) (ha : Byt a) (h : decE p = 0) :
    decE (p ++ a) = 0 ∧ decT (p ++ a) = decT p ∧ decM (p ++ a) = decM p ∧ decW (p ++ a) = decW p ∧ decR (p ++ a) = decR p ++ a := by
  obtain ⟨h1, h2, h3, h4⟩ := dec_parts h
  obtain ⟨a1, a2, a3⟩ := num_ext a hp ha (by decide) h1
  obtain ⟨b1, b2, b3⟩ := num_ext a hp.numR ha (by decide) h2
  obtain ⟨c1, c2, c3⟩ := num_ext a hp.numR.numR ha (by decide) h3
  obtain ⟨d1, d2, d3⟩ := tgs_ext _ a hp.numR.numR.numR ha h4
  have e : decE (p ++ a) = 0 := by
    unfold decE evR1 evR2 evR3
    rw [a1, a3, b1, b3, c1, c2, c3, d1]; rfl
  refine ⟨e, ?_, ?_, ?_, ?_⟩
  · unfold decT evR2 evR3; rw [if_pos e, if_pos h, a3, b3, c2, c3, d2]
  · unfold decM; rw [if_pos e, if_pos h, a2]
  · unfold decW evR1; rw [if_pos e, if_pos h, a3, b2]
  · unfold decR evR2 evR3; rw [a3, b3, c2, c3, d3]
theorem dec_rest {l : List Tg} {t w : Int} (a : List Int) (h : encE l t = 0) (hw : 0 ≤ w ∧ w ≤ 18446744073709551615) (ha : Byt a) : decR (evB l t w ++ a) = a := by
  obtain ⟨h0, _, _, _, h4⟩ := dec_back a h hw ha
  obtain ⟨g0, _, _, _, g4⟩ := dec_back (l := l) (t := t) (w := w) [] h hw (fun z hz => by simp at hz)
  rw [List.append_nil] at g0 g4
  have hx := dec_ext a (evB_bytes l t w) ha g0
  have hN : decN (evB l t w) = ((evB l t w).length : Int) - (decR (evB l t w)).length := if_pos g0
  have hl : (decR (evB l t w)).length = 0 := by rw [g4] at hN; omega
  rw [hx.2.2.2.2, List.eq_nil_of_length_eq_zero hl, List.nil_append]
/-- The beginning of an event is none. -/
theorem dec_cut {l : List Tg} {t w : Int} {c : Nat} (h : encE l t = 0) (hw : 0 ≤ w ∧ w ≤ 18446744073709551615) (hc : c < (evB l t w).length) : decE ((evB l t w).take c) ≠ 0 := by
  intro h0
  have hx := dec_ext ((evB l t w).drop c) ((evB_bytes l t w).take c) ((evB_bytes l t w).drop c) h0
  rw [List.take_append_drop] at hx
  have hr := dec_rest (l := l) (t := t) (w := w) [] h hw (fun z hz => by simp at hz)
  rw [List.append_nil] at hr
  rw [hr] at hx
  have := congrArg List.length hx.2.2.2.2
  rw [List.length_append, List.length_drop] at this
  simp at this
  omega
/-- What is left is an end of what was there. -/
theorem numR_suf (l : List Int) : numR l <:+ l := List.drop_suffix _ _
theorem txtR_suf (l : List Int) : txtR l <:+ l := (List.drop_suffix _ _).trans (numR_suf l)
theorem tgsR_suf : ∀ (k : Nat) (l : List Int), tgsR k l <:+ l
  | 0, l => List.suffix_rfl
  | k + 1, l => ((tgsR_suf k _).trans (txtR_suf _)).trans (txtR_suf l)
theorem decR_suf (l : List Int) : decR l <:+ l := ((tgsR_suf _ _).trans (numR_suf _)).trans ((numR_suf _).trans (numR_suf l))
theorem decR_drop {l : List Int} (h : decE l = 0) : l.drop (decN l).toNat = decR l := by
  obtain ⟨q, hq⟩ := decR_suf l
  have hN : decN l = (l.length : Int) - (decR l).length := if_pos h
  have hl := congrArg List.length hq
  rw [List.length_append] at hl
  have : (decN l).toNat = q.length := by omega
  rw [this]
  conv => lhs; rw [← hq]
  rw [List.drop_left']
  rfl
theorem decN_le {l : List Int} : 0 ≤ decN l ∧ decN l ≤ l.length := by
  by_cases h : decE l = 0
  · obtain ⟨q, hq⟩ := decR_suf l
    have hN : decN l = (l.length : Int) - (decR l).length := if_pos h
    have hl := congrArg List.length hq
    rw [List.length_append] at hl
    omega
  · have : decN l = 0 := if_neg h
    omega

/-! ### bodies -/
/-- An event: its tags, its time, its weight. -/
abbrev Ev := List Tg × Int × Int
def evb (e : Ev) : List Int := evB e.1 e.2.1 e.2.2
def evsB (L : List Ev) : List Int := L.flatMap evb
def bdB (L : List Ev) : List Int := enc L.length ++ evsB L
def fstE : List Ev → Int
  | [] => 0
  | e :: r => if encE e.1 e.2.1 ≠ 0 then encE e.1 e.2.1 else fstE r
def bdE (L : List Ev) : Int := if L.length = 0 ∨ 64 < L.length then 1 else if fstE L ≠ 0 then fstE L else if 4096 < (bdB L).length then 4 else 0
def bdO (L : List Ev) : List Int := if bdE L = 0 then bdB L else []
def frO (L : List Ev) : List Int := if bdE L = 0 then enc (bdB L).length ++ bdB L else []
theorem evsB_bytes (L : List Ev) : Byt (evsB L) := fun z hz => by
  obtain ⟨e, _, he⟩ := List.mem_flatMap.1 hz
  exact evB_bytes _ _ _ z he
theorem bdB_bytes (L : List Ev) : Byt (bdB L) := Byt.app (enc_bytes _) (evsB_bytes L)
theorem evsB_cons (e : Ev) (r : List Ev) : evsB (e :: r) = evb e ++ evsB r := by simp [evsB]
theorem evsB_snoc {L : List Ev} {k : Nat} {e : Ev} (h : L[k]? = some e) : evsB (L.take (k + 1)) = evsB (L.take k) ++ evb e := by
  rw [List.take_add_one, h]; simp [evsB]
theorem fstE_take {L : List Ev} {k : Nat} {e : Ev} (h : L[k]? = some e) (h0 : ∀ x ∈ L.take k, encE x.1 x.2.1 = 0) (h1 : encE e.1 e.2.1 ≠ 0) : fstE L = encE e.1 e.2.1 := by
  induction L generalizing k with
  | nil => simp at h
  | cons y r ih =>
    cases k with
    | zero => simp at h; subst h; unfold fstE; rw [if_pos h1]
    | succ k =>
      have hy := h0 y (by simp)
      unfold fstE
      rw [if_neg (by simp [hy])]
      exact ih (by simpa using h) fun x hx => h0 x (by simp [hx])
theorem fstE_zero {L : List Ev} (h : ∀ x ∈ L, encE x.1 x.2.1 = 0) : fstE L = 0 := by
  induction L with
  | nil => rfl
  | cons y r ih =>
    unfold fstE
    rw [if_neg (by simp [h y (by simp)])]
    exact ih fun x hx => h x (by simp [hx])
theorem fstE_all {L : List Ev} (h : fstE L = 0) : ∀ x ∈ L, encE x.1 x.2.1 = 0 := by
  induction L with
  | nil => intro x hx; simp at hx
  | cons y r ih =>
    unfold fstE at h
    split at h
    · rename_i hh; exact absurd h hh
    · rename_i hh
      intro x hx
      rcases List.mem_cons.1 hx with rfl | hx
      · simpa using hh
      · exact ih h x hx
theorem bdE_num {L : List Ev} (h : L.length = 0 ∨ 64 < L.length) : bdE L = 1 := if_pos h
theorem bdE_ev {L : List Ev} (h : ¬ (L.length = 0 ∨ 64 < L.length)) (h1 : fstE L ≠ 0) : bdE L = fstE L := by unfold bdE; rw [if_neg h, if_pos h1]
theorem bdE_long {L : List Ev} (h : ¬ (L.length = 0 ∨ 64 < L.length)) (h1 : fstE L = 0) (h2 : 4096 < (bdB L).length) : bdE L = 4 := by unfold bdE; rw [if_neg h, if_neg (by simp [h1]), if_pos h2]
theorem bdE_ok {L : List Ev} (h : ¬ (L.length = 0 ∨ 64 < L.length)) (h1 : fstE L = 0) (h2 : ¬ 4096 < (bdB L).length) : bdE L = 0 := by unfold bdE; rw [if_neg h, if_neg (by simp [h1]), if_neg h2]

/-! ### inputs -/
/-- An input: key, time, weight, verdict. -/
abbrev Inp := ByteArray × Int × Int × Int
def badI : Inp := (⟨#[]⟩, 0, 0, 1)
def inp (most : Int) (l : List Tg) (t x : Int) : Inp :=
  if itE l t x = 0 ∧ ¬ most < (keyBy l).size then (keyBy l, t, x, 0) else (⟨#[]⟩, 0, 0, if itE l t x = 0 then 2 else verd (itE l t x))
def inpE (most : Int) (e : Ev) : Inp := inp most e.1 e.2.1 e.2.2
def insN (most : Int) : Nat → List Int → List Inp
  | 0, l => if l = [] then [] else [badI]
  | n + 1, l => if decE l ≠ 0 then List.replicate (n + 1) badI else inp most (decT l) (decM l) (decW l) :: insN most n (decR l)
def inpsB (most : Int) (b : List Int) : List Inp := if rdE b ≠ 0 ∨ rdN b < 1 ∨ 64 < rdN b then [badI] else insN most (rdN b).toNat (numR b)

def Sound (L : List Ev) : Prop := ∀ e ∈ L, encE e.1 e.2.1 = 0 ∧ 0 ≤ e.2.2 ∧ e.2.2 ≤ 18446744073709551615
theorem Sound.tail {e : Ev} {r : List Ev} (h : Sound (e :: r)) : Sound r := fun x hx => h x (by simp [hx])
theorem insN_each (most : Int) : ∀ (L : List Ev), Sound L → insN most L.length (evsB L) = L.map (inpE most)
  | [], _ => by simp [insN, evsB]
  | e :: r, h => by
    have he := h e (by simp)
    obtain ⟨d0, d1, d2, d3, _⟩ := dec_back (evsB r) he.1 he.2 (evsB_bytes r)
    have d4 := dec_rest (evsB r) he.1 he.2 (evsB_bytes r)
    rw [evsB_cons, List.length_cons, insN]
    show (if decE (evB e.1 e.2.1 e.2.2 ++ evsB r) ≠ 0 then _ else _) = _
    unfold evb
    rw [d0, d1, d2, d3, d4, insN_each most r h.tail]
    rfl
theorem rd_body {L : List Ev} (a : List Int) (hl : L.length ≤ 64) (ha : Byt a) : rdE (enc L.length ++ a) = 0 ∧ rdN (enc L.length ++ a) = L.length ∧ numR (enc L.length ++ a) = a := by
  obtain ⟨h1, h2, h3⟩ := rd_back L.length a (by omega) fun z hz => (ha z hz).1
  refine ⟨h3, h1, ?_⟩
  unfold numR
  rw [h2, Int.toNat_natCast, List.drop_left']
  rfl
/-- The inputs of a body are those of its events. -/
theorem ins_each {most : Int} {L : List Ev} (h1 : 1 ≤ L.length) (h2 : L.length ≤ 64) (h : Sound L) : inpsB most (bdB L) = L.map (inpE most) := by
  obtain ⟨a, b, c⟩ := rd_body (evsB L) h2 (evsB_bytes L)
  unfold inpsB bdB
  rw [a, b, c, if_neg (by omega), Int.toNat_natCast]
  exact insN_each most L h
theorem insN_cut (most : Int) : ∀ (L : List Ev) (c : Nat), Sound L → c < (evsB L).length → ∃ j, j < L.length ∧ insN most L.length ((evsB L).take c) = (L.take j).map (inpE most) ++ List.replicate (L.length - j) badI
  | [], c, _, h => by simp [evsB] at h
  | e :: r, c, h, hc => by
    have he := h e (by simp)
    rw [evsB_cons] at hc ⊢
    rw [List.length_append] at hc
    by_cases hlt : c < (evb e).length
    · refine ⟨0, by simp, ?_⟩
      have hd : decE ((evb e).take c) ≠ 0 := dec_cut he.1 he.2 hlt
      rw [List.take_append_of_le_length (by omega), List.length_cons, insN, if_pos hd]
      simp
    · have ht : (evb e ++ evsB r).take c = evb e ++ (evsB r).take (c - (evb e).length) := by
        rw [List.take_append, List.take_of_length_le (by omega)]
      obtain ⟨j, hj, hi⟩ := insN_cut most r (c - (evb e).length) h.tail (by omega)
      have hb := (evsB_bytes r).take (c - (evb e).length)
      obtain ⟨d0, d1, d2, d3, _⟩ := dec_back _ he.1 he.2 hb
      have d4 := dec_rest _ he.1 he.2 hb
      refine ⟨j + 1, by simp; omega, ?_⟩
      rw [ht, List.length_cons, insN]
      unfold evb at d0 d1 d2 d3 d4 ⊢
      rw [d0, d1, d2, d3, d4]
      unfold evb at hi
      rw [hi]
      simp [inpE]
theorem evsB_len {L : List Ev} (h : L.length < 128) : (bdB L).length = (evsB L).length + 1 := by
  unfold bdB
  rw [List.length_append, enc_lt h]; simp; omega
/-- The inputs of a body that is cut: those of the first events, and then wrong ones. -/
theorem ins_cut {most : Int} {L : List Ev} {c : Nat} (h1 : 1 ≤ L.length) (h2 : L.length ≤ 64) (h : Sound L) (hc1 : 1 ≤ c) (hc : c < (bdB L).length) :
    ∃ j, j < L.length ∧ inpsB most ((bdB L).take c) = (L.take j).map (inpE most) ++ List.replicate (L.length - j) badI := by
  rw [evsB_len (by omega)] at hc
  have ht : (bdB L).take c = enc L.length ++ (evsB L).take (c - 1) := by
    unfold bdB
    rw [List.take_append, enc_lt (by omega), List.take_of_length_le (by simpa using hc1)]
    rfl
  obtain ⟨j, hj, hi⟩ := insN_cut most L (c - 1) h (by omega)
  obtain ⟨a, b, d⟩ := rd_body (L := L) ((evsB L).take (c - 1)) h2 ((evsB_bytes L).take _)
  refine ⟨j, hj, ?_⟩
  rw [ht]
  unfold inpsB
  rw [a, b, d, if_neg (by omega), Int.toNat_natCast]
  exact hi

/-! ### events of a deck are short -/
/-- An event as a deck makes one. -/
def Fit (e : Ev) : Prop := e.1.length ≤ 3 ∧ (∀ t ∈ e.1, t.1.size ≤ 32 ∧ t.2.size ≤ 70) ∧ (0 ≤ e.2.1 ∧ e.2.1 ≤ 1099511627776) ∧ (0 ≤ e.2.2 ∧ e.2.2 ≤ 18446744073709551615)
theorem Fit.enc {e : Ev} (h : Fit e) : encE e.1 e.2.1 = 0 :=
  encE_ok (by have := h.2.2.1; omega) (by have := h.1; omega) (List.any_eq_false.2 fun x hx => by have := h.2.1 x hx; simp [longT]; omega)
theorem sound_fit {L : List Ev} (h : ∀ e ∈ L, Fit e) : Sound L := fun e he => ⟨(h e he).enc, (h e he).2.2.2⟩
theorem tagsB_fit : ∀ (l : List Tg), (∀ t ∈ l, t.1.size ≤ 32 ∧ t.2.size ≤ 70) → (tagsB l).length ≤ l.length * 104
  | [], _ => by simp [tagsB]
  | t :: r, h => by
    have ih := tagsB_fit r fun x hx => h x (by simp [hx])
    have ht := h t (by simp)
    have a1 : (enc t.1.size).length = 1 := by rw [enc_lt (by omega)]; rfl
    have a2 : (enc t.2.size).length = 1 := by rw [enc_lt (by omega)]; rfl
    have e : tagsB (t :: r) = enc t.1.size ++ sB t.1 ++ (enc t.2.size ++ sB t.2) ++ tagsB r := by simp [tagsB, tagB, txt]
    rw [e]
    simp only [List.length_append, List.length_cons, sB_len]
    omega
theorem evb_fit {e : Ev} (h : Fit e) : (evb e).length ≤ 333 := by
  obtain ⟨hl, ht, hm, hw⟩ := h
  have a0 := enc_ten (n := e.2.1.toNat) (by omega)
  have a1 := enc_ten (n := e.2.2.toNat) (by omega)
  have a2 : (enc e.1.length).length = 1 := by rw [enc_lt (by omega)]; rfl
  have a3 := tagsB_fit e.1 ht
  unfold evb evB
  simp only [List.length_append]
  omega
theorem evsB_fit : ∀ (L : List Ev), (∀ e ∈ L, Fit e) → (evsB L).length ≤ L.length * 333
  | [], _ => by simp [evsB]
  | e :: r, h => by
    have ih := evsB_fit r fun x hx => h x (by simp [hx])
    have he := evb_fit (h e (by simp))
    rw [evsB_cons, List.length_append, List.length_cons]
    omega
/-- Up to twelve events of a deck make a body. -/
theorem bdE_fit {L : List Ev} (h : ∀ e ∈ L, Fit e) (h1 : 1 ≤ L.length) (h2 : L.length ≤ 12) : bdE L = 0 := by
  have a := evsB_fit L h
  refine bdE_ok (by omega) (fstE_zero fun x hx => (h x hx).enc) ?_
  rw [evsB_len (by omega)]
  omega
theorem evb_pos (e : Ev) : 1 ≤ (evb e).length := by
  have := enc_pos e.2.1.toNat
  unfold evb evB
  simp only [List.length_append]
  omega
theorem bdB_two {L : List Ev} (h1 : 1 ≤ L.length) : 2 ≤ (bdB L).length := by
  cases L with
  | nil => simp at h1
  | cons e r =>
    have a := enc_pos (e :: r).length
    have b := evb_pos e
    unfold bdB
    rw [List.length_append, evsB_cons, List.length_append]
    omega
end Go.Proofs.Ytfihaonpifoekaa
