/- Plain facts on a stream of frames that arrives byte by byte. No program here. Conditions: none beyond those typed. -/
import Derived.Test.YtfihaonpifoekaaFmath
import Derived.Test.YtfihaonpifoekaaVread
namespace Go.Proofs.Ytfihaonpifoekaa
set_option linter.unusedVariables false
set_option linter.unusedSimpArgs false
set_option maxRecDepth 100000

/-- A stream: the bytes of a frame that is not complete, how many to skip, whether it is broken. -/
abbrev St := List Int × Int × Bool
/-- A chunk: a body, a verdict. -/
abbrev Ck := List Int × Int
def st0 : St := ([], 0, false)
def stepB (b : List Int) : St × List Ck :=
  if rdE b = 3 then (([], 0, true), [([], 1)])
  else if rdE b = 0 ∧ 4096 < rdN b then (([], rdN b, false), [([], 2)])
  else if rdE b = 0 ∧ rdN b ≤ (b.length : Int) - rdK b then (([], 0, false), [((b.drop (rdK b).toNat).take (rdN b).toNat, 0)])
  else ((b, 0, false), [])
def stepS (s : St) (z : Int) : St × List Ck :=
  if s.2.2 = true then (s, []) else if s.2.1 ≠ 0 then ((s.1, s.2.1 - 1, false), []) else stepB (s.1 ++ [z])
def feed : St → List Int → St × List Ck
  | s, [] => (s, [])
  | s, z :: r => ((feed (stepS s z).1 r).1, (stepS s z).2 ++ (feed (stepS s z).1 r).2)
/-- It does not matter how the bytes are cut. -/
theorem feed_append : ∀ (a : List Int) (s : St) (b : List Int), feed s (a ++ b) = ((feed (feed s a).1 b).1, (feed s a).2 ++ (feed (feed s a).1 b).2)
  | [], s, b => by simp [feed]
  | z :: r, s, b => by
    rw [List.cons_append, feed, feed_append r, feed]
    simp
theorem feed_snoc {s : St} {l : List Int} {k : Nat} {z : Int} (h : l[k]? = some z) : feed s (l.take (k + 1)) = ((stepS (feed s (l.take k)).1 z).1, (feed s (l.take k)).2 ++ (stepS (feed s (l.take k)).1 z).2) := by
  rw [List.take_add_one, h]
  show feed s (l.take k ++ [z]) = _
  rw [feed_append]
  simp [feed]

/-! ### the streams that there are -/
/-- A buffer in which no frame is complete. -/
def Open (b : List Int) : Prop := Byt b ∧ (b = [] ∨ rdE b = 2 ∨ (rdE b = 0 ∧ rdN b ≤ 4096 ∧ (b.length : Int) < rdK b + rdN b))
/-- A stream that there is: zero, or what Feed gave back. -/
def Sound6 (s : St) : Prop := Open s.1 ∧ (0 ≤ s.2.1 ∧ s.2.1 ≤ 18446744073709551615) ∧ (s.2.1 ≠ 0 → s.1 = []) ∧ (s.2.2 = true → s.1 = [] ∧ s.2.1 = 0)
theorem sound0 : Sound6 st0 := ⟨⟨fun z hz => by simp [st0] at hz, .inl rfl⟩, by simp [st0], fun h => rfl, fun h => by simp [st0] at h⟩
theorem open_nil : Open [] := ⟨fun z hz => by simp at hz, .inl rfl⟩
theorem rdE_cases (b : List Int) : rdE b = 0 ∨ rdE b = 2 ∨ rdE b = 3 := by
  unfold rdE
  split
  · exact .inr (.inr rfl)
  · split
    · exact .inr (.inl rfl)
    · split
      · exact .inr (.inr rfl)
      · exact .inl rfl
theorem stepB_sound {b : List Int} (h : Byt b) : Sound6 (stepB b).1 := by
  have ht := rd_top h
  unfold stepB
  split
  · exact ⟨open_nil, by simp, fun _ => rfl, fun _ => ⟨rfl, rfl⟩⟩
  · rename_i h3
    split
    · exact ⟨open_nil, ⟨ht.1, ht.2⟩, fun _ => rfl, fun h => by simp at h⟩
    · rename_i h4
      split
      · exact ⟨open_nil, by simp, fun _ => rfl, fun h => by simp at h⟩
      · rename_i h5
        refine ⟨⟨h, .inr ?_⟩, by simp, fun h => by simp at h, fun h => by simp at h⟩
        rcases rdE_cases b with he | he | he
        · exact .inr ⟨he, by show rdN b ≤ 4096; omega, by show (b.length : Int) < rdK b + rdN b; omega⟩
        · exact .inl he
        · exact absurd he h3
theorem stepS_sound {s : St} {z : Int} (h : Sound6 s) (hz : 0 ≤ z ∧ z ≤ 255) : Sound6 (stepS s z).1 := by
  obtain ⟨h1, h2, h3, h4⟩ := h
  unfold stepS
  split
  · exact ⟨h1, h2, h3, h4⟩
  · split
    · rename_i h5
      exact ⟨h1, ⟨by show 0 ≤ s.2.1 - 1; omega, by show s.2.1 - 1 ≤ _; omega⟩, fun _ => h3 h5, fun h => by simp at h⟩
    · exact stepB_sound (h1.1.app fun y hy => by simp at hy; subst hy; exact hz)
theorem feed_sound : ∀ (l : List Int) {s : St}, Sound6 s → Byt l → Sound6 (feed s l).1
  | [], s, h, _ => h
  | z :: r, s, h, hb => by
    rw [feed]
    exact feed_sound r (stepS_sound h (hb z (by simp))) fun y hy => hb y (by simp [hy])
/-- No buffer is longer than a frame's length and the frame. -/
theorem open_len {b : List Int} (h : Open b) : b.length ≤ 4098 := by
  obtain ⟨hb, rfl | h | ⟨h1, h2, h3⟩⟩ := h
  · simp
  · have hl := (lead_le b).2
    have he : lead b = b.length := by
      unfold rdE at h
      split at h
      · cases h
      · split at h
        · assumption
        · split at h <;> cases h
    omega
  · obtain ⟨k, hk, _, hkl, _, _, _, he⟩ := rd_unique b hb h1
    have hn := (rd_top hb).1
    have h16 : (enc (rdN b).toNat).length ≤ 2 := enc_len 1 _ (by omega)
    rw [he, List.length_take] at h16
    omega
theorem feed_len {s : St} {l : List Int} (h : Sound6 s) (hb : Byt l) : (feed s l).1.1.length ≤ 4098 := open_len (feed_sound l h hb).1
theorem feed_broken : ∀ (l : List Int) (s : St), s.2.2 = true → feed s l = (s, [])
  | [], s, _ => rfl
  | z :: r, s, h => by
    have e : stepS s z = (s, []) := if_pos h
    rw [feed, e, feed_broken r s h]; rfl
theorem feed_skip : ∀ (l : List Int) (b : List Int) (n : Int), (l.length : Int) ≤ n → feed (b, n, false) l = ((b, n - l.length, false), [])
  | [], b, n, _ => by simp [feed]
  | z :: r, b, n, h => by
    rw [List.length_cons] at h
    have e : stepS (b, n, false) z = ((b, n - 1, false), []) := by
      unfold stepS
      rw [if_neg (by simp), if_pos (show n ≠ 0 by omega)]
    rw [feed, e, feed_skip r b (n - 1) (by omega), List.length_cons]
    simp; omega

/-- How many bytes can follow before there is anything new to find out. -/
def lackN (b : List Int) : Int := if rdE b ≠ 0 ∨ 4096 < rdN b then 1 else max 1 (rdK b + rdN b - b.length)
theorem rd_more {b : List Int} (hb : Byt b) (h : rdE b = 0) (a : List Int) (ha : Byt a) : rdE (b ++ a) = 0 ∧ rdN (b ++ a) = rdN b ∧ rdK (b ++ a) = rdK b := by
  obtain ⟨n, hn, e, h1, h2⟩ : ∃ (n : Nat), n ≤ 18446744073709551615 ∧ b = enc n ++ b.drop (enc n).length ∧ rdN b = n ∧ rdK b = (enc n).length := by
    have ht := rd_top hb
    obtain ⟨k, hk, hk1, hkl, hv, _, _, he⟩ := rd_unique b hb h
    have e2 : (enc (rdN b).toNat).length = k := by rw [he, List.length_take]; omega
    refine ⟨(rdN b).toNat, by omega, ?_, by omega, by rw [e2]; exact hk⟩
    rw [e2, he, List.take_append_drop]
  have hb' : ∀ y ∈ b.drop (enc n).length, 0 ≤ y ∧ y ≤ 255 := fun y hy => hb y (List.mem_of_mem_drop hy)
  have q := rd_back n (b.drop (enc n).length ++ a) hn fun y hy => by
    rcases List.mem_append.1 hy with hy | hy
    · exact (hb' y hy).1
    · exact (ha y hy).1
  rw [← List.append_assoc, ← e] at q
  exact ⟨q.2.2, by rw [q.1, h1], by rw [q.2.1, h2]⟩
/-- As many bytes as are lacking come all at once. -/
theorem feed_take {b : List Int} (hb : Open b) {x : List Int} (hx : Byt x) (h1 : 1 ≤ x.length) (h2 : (x.length : Int) ≤ lackN b) : feed (b, 0, false) x = stepB (b ++ x) := by
  have hall : ∀ j, j < x.length → feed (b, 0, false) (x.take j) = ((b ++ x.take j, 0, false), []) := by
    intro j
    induction j with
    | zero => intro _; simp [feed]
    | succ j ih =>
      intro hj
      have hz : x[j]? = some x[j] := List.getElem?_eq_getElem (by omega)
      rw [feed_snoc hz, ih (by omega)]
      have hc : ¬ (rdE b ≠ 0 ∨ 4096 < rdN b) := fun h => by
        unfold lackN at h2; rw [if_pos h] at h2; omega
      have h0 : rdE b = 0 := Classical.byContradiction fun h => hc (.inl h)
      unfold lackN at h2
      rw [if_neg hc] at h2
      obtain ⟨q1, q2, q3⟩ := rd_more hb.1 h0 (x.take (j + 1)) (hx.take _)
      have e : stepS (b ++ x.take j, 0, false) x[j] = ((b ++ x.take (j + 1), 0, false), []) := by
        unfold stepS
        rw [if_neg (by simp), if_neg (by simp)]
        show stepB (b ++ x.take j ++ [x[j]]) = _
        rw [show b ++ x.take j ++ [x[j]] = b ++ x.take (j + 1) by rw [List.take_add_one, hz, List.append_assoc]; rfl]
        unfold stepB
        rw [q1, q2, q3, if_neg (by decide), if_neg (fun h => hc (.inr h.2)), if_neg]
        rintro ⟨_, h⟩
        rw [List.length_append, List.length_take] at h
        omega
      rw [e]; simp
  obtain ⟨m, hm⟩ : ∃ m, x.length = m + 1 := ⟨x.length - 1, by omega⟩
  have hz : x[m]? = some (x[m]'(by omega)) := List.getElem?_eq_getElem (by omega)
  have hf := feed_snoc (s := (b, 0, false)) hz
  rw [hall m (by omega), List.take_of_length_le (by omega)] at hf
  rw [hf]
  have e : stepS (b ++ x.take m, 0, false) (x[m]'(by omega)) = stepB (b ++ x) := by
    unfold stepS
    rw [if_neg (by simp), if_neg (by simp)]
    show stepB (b ++ x.take m ++ [x[m]]) = _
    congr 1
    have := List.take_add_one (l := x) (i := m)
    rw [hz, List.take_of_length_le (by omega)] at this
    rw [List.append_assoc]
    exact congrArg (b ++ ·) this.symm
  rw [e]; simp
theorem lack_top {b : List Int} (h : Byt b) : lackN b ≤ 4096 := by
  unfold lackN
  split
  · omega
  · rename_i hc
    have h0 : rdE b = 0 := Classical.byContradiction fun h => hc (.inl h)
    have hK := rd_used h h0
    have h4 : ¬ 4096 < rdN b := fun h => hc (.inr h)
    omega
theorem lack_pos (b : List Int) : 1 ≤ lackN b := by unfold lackN; split <;> omega

/-- What stands after part of the bytes: the stream s, the bytes r, the chunks C. -/
def FdK (s0 : St) (l : List Int) (s : St) (r : List Int) (C : List Ck) : Prop := Sound6 s ∧ Byt r ∧ feed s0 l = ((feed s r).1, C ++ (feed s r).2)
theorem FdK.zero {s0 : St} {l : List Int} (h : Sound6 s0) (hl : Byt l) : FdK s0 l s0 l [] := ⟨h, hl, by simp⟩
theorem FdK.step {s0 s s' : St} {l r : List Int} {C D : List Ck} (h : FdK s0 l s r C) (k : Nat) (hf : feed s (r.take k) = (s', D)) : FdK s0 l s' (r.drop k) (C ++ D) := by
  obtain ⟨h1, h2, h3⟩ := h
  have hs := feed_sound (r.take k) h1 (h2.take _)
  rw [hf] at hs
  refine ⟨hs, fun y hy => h2 y (List.mem_of_mem_drop hy), ?_⟩
  have e := feed_append (r.take k) s (r.drop k)
  rw [List.take_append_drop, hf] at e
  rw [h3, e]
  simp
theorem FdK.skip {s0 : St} {b : List Int} {n : Int} {l r : List Int} {C : List Ck} (h : FdK s0 l (b, n, false) r C) (k : Nat) (hk : (k : Int) ≤ n) (hr : k ≤ r.length) : FdK s0 l (b, n - k, false) (r.drop k) C := by
  have hl : (r.take k).length = k := by rw [List.length_take]; omega
  have := h.step k (feed_skip (r.take k) b n (by rw [hl]; exact hk))
  rw [hl, List.append_nil] at this
  exact this
theorem FdK.take {s0 : St} {b : List Int} {l r : List Int} {C : List Ck} (h : FdK s0 l (b, 0, false) r C) (k : Nat) (h1 : 1 ≤ k) (hk : (k : Int) ≤ lackN b) (hr : k ≤ r.length) : FdK s0 l (stepB (b ++ r.take k)).1 (r.drop k) (C ++ (stepB (b ++ r.take k)).2) := by
  have hl : (r.take k).length = k := by rw [List.length_take]; omega
  exact h.step k (by rw [feed_take h.1.1 (h.2.1.take _) (by omega) (by rw [hl]; exact hk)])
theorem FdK.end_ {s0 s : St} {l r : List Int} {C : List Ck} (h : FdK s0 l s r C) (hr : r = [] ∨ s.2.2 = true) : feed s0 l = (s, C) := by
  rw [h.2.2]
  rcases hr with rfl | hr
  · simp [feed]
  · rw [feed_broken r s hr]; simp

/-! ### frames -/
theorem enc_front : ∀ (n : Nat) (i : Nat) (z : Int), i + 1 < (enc n).length → (enc n)[i]? = some z → 128 ≤ z := by
  intro n
  induction n using Nat.strongRecOn with
  | _ n ih =>
    intro i z hi hz
    by_cases h : n < 128
    · rw [enc_lt h] at hi; simp at hi
    · rw [enc_ge h] at hi hz
      cases i with
      | zero => simp at hz; omega
      | succ i => exact ih (n / 128) (by omega) i z (by simpa using hi) (by simpa using hz)
theorem enc_cut {n c : Nat} (hn : n ≤ 18446744073709551615) (hc : c < (enc n).length) : rdE ((enc n).take c) = 2 := by
  have h10 := enc_ten hn
  have hl : ((enc n).take c).length = c := by rw [List.length_take]; omega
  have e : lead ((enc n).take c) = c := by
    refine lead_eq (fun i z hi hz => ?_) (by omega) (by omega) (fun z _ hz => ?_)
    · rw [List.getElem?_take, if_pos hi] at hz
      exact enc_front n i z (by omega) hz
    · rw [List.getElem?_eq_none (by omega)] at hz; cases hz
  exact (rd_short (by rw [e, hl]) (by rw [e]; omega)).2.2.2
/-- The first bytes of a length are kept. -/
theorem feed_head {n : Nat} (hn : n ≤ 18446744073709551615) : ∀ c, c < (enc n).length → feed st0 ((enc n).take c) = (((enc n).take c, 0, false), [])
  | 0, _ => by simp [feed, st0]
  | c + 1, hc => by
    have hz : (enc n)[c]? = some (enc n)[c] := List.getElem?_eq_getElem (by omega)
    have e2 := enc_cut hn hc
    rw [feed_snoc hz, feed_head hn c (by omega)]
    have e : stepS ((enc n).take c, 0, false) (enc n)[c] = (((enc n).take (c + 1), 0, false), []) := by
      unfold stepS
      rw [if_neg (by simp), if_neg (by simp)]
      show stepB ((enc n).take c ++ [(enc n)[c]]) = _
      rw [show (enc n).take c ++ [(enc n)[c]] = (enc n).take (c + 1) by rw [List.take_add_one, hz]; rfl]
      unfold stepB
      rw [e2, if_neg (by decide), if_neg (by simp), if_neg (by simp)]
    rw [e]; simp
theorem step_last {b a : List Int} {n : Nat} {z : Int} (hb : b ++ [z] = enc n ++ a) (hn : n ≤ 18446744073709551615) (ha : Byt a) :
    stepS (b, 0, false) z = (if 4096 < n then (([], (n : Int), false), [([], 2)]) else if n ≤ a.length then (([], 0, false), [(a.take n, 0)]) else ((b ++ [z], 0, false), [])) := by
  obtain ⟨h1, h2, h3⟩ := rd_back n a hn fun y hy => (ha y hy).1
  unfold stepS
  rw [if_neg (by simp), if_neg (by simp)]
  show stepB (b ++ [z]) = _
  unfold stepB
  rw [hb, h1, h2, h3, if_neg (by decide), List.length_append, Int.toNat_natCast, Int.toNat_natCast, List.drop_left' rfl]
  by_cases h4 : 4096 < n
  · rw [if_pos ⟨rfl, by omega⟩, if_pos h4]
  · rw [if_neg (by omega), if_neg h4]
    by_cases h5 : n ≤ a.length
    · rw [if_pos ⟨rfl, by omega⟩, if_pos h5]
    · rw [if_neg (by omega), if_neg h5]
theorem enc_split (n : Nat) : ∃ z, (enc n).take ((enc n).length - 1) ++ [z] = enc n := by
  have h := enc_pos n
  have hz : (enc n)[(enc n).length - 1]? = some ((enc n)[(enc n).length - 1]'(by omega)) := List.getElem?_eq_getElem (by omega)
  have e := List.take_add_one (l := enc n) (i := (enc n).length - 1)
  rw [hz, List.take_of_length_le (by omega)] at e
  exact ⟨_, e.symm⟩
/-- A whole length. -/
theorem feed_num {n : Nat} (hn : n ≤ 18446744073709551615) : feed st0 (enc n) = (if 4096 < n then (([], (n : Int), false), [([], 2)]) else if n = 0 then (st0, [([], 0)]) else ((enc n, 0, false), [])) := by
  obtain ⟨z, hz⟩ := enc_split n
  have h := enc_pos n
  have hh := feed_head hn ((enc n).length - 1) (by omega)
  conv => lhs; rw [← hz]
  rw [feed_append, hh]
  have hs := step_last (b := (enc n).take ((enc n).length - 1)) (z := z) (a := []) (by rw [hz, List.append_nil]) hn (fun y hy => by simp at hy)
  simp only [feed, List.nil_append, List.append_nil]
  rw [hs, hz]
  by_cases h4 : 4096 < n
  · rw [if_pos h4, if_pos h4]
  · rw [if_neg h4, if_neg h4]
    by_cases h0 : n = 0
    · subst h0; simp [st0]
    · rw [if_neg (by simp; omega), if_neg h0]
/-- The bytes of a body are kept until they are all there. -/
theorem feed_body {n : Nat} {x : List Int} (hn : n ≤ 4096) (hx : Byt x) (hl : x.length = n) (h0 : 1 ≤ n) : ∀ c, c < n → feed (enc n, 0, false) (x.take c) = ((enc n ++ x.take c, 0, false), [])
  | 0, _ => by simp [feed]
  | c + 1, hc => by
    have hz : x[c]? = some x[c] := List.getElem?_eq_getElem (by omega)
    rw [feed_snoc hz, feed_body hn hx hl h0 c (by omega)]
    have hs := step_last (b := enc n ++ x.take c) (z := x[c]) (a := x.take (c + 1)) (n := n) (by rw [List.take_add_one, hz, List.append_assoc]; rfl) (by omega) (hx.take _)
    rw [hs, if_neg (by omega), if_neg (by rw [List.length_take]; omega)]
    simp only [List.append_nil]
    rw [List.take_add_one, hz, List.append_assoc]; rfl
/-- A frame gives its body. -/
theorem feed_frame {x : List Int} (hx : Byt x) (hl : x.length ≤ 4096) : feed st0 (enc x.length ++ x) = (st0, [(x, 0)]) := by
  rw [feed_append, feed_num (by omega), if_neg (by omega)]
  by_cases h0 : x.length = 0
  · have e := List.eq_nil_of_length_eq_zero h0
    subst e
    simp [feed]
  · rw [if_neg h0]
    obtain ⟨m, hm⟩ : ∃ m, x.length = m + 1 := ⟨x.length - 1, by omega⟩
    have hz : x[m]? = some (x[m]'(by omega)) := List.getElem?_eq_getElem (by omega)
    have hx2 : x = x.take m ++ [x[m]'(by omega)] := by
      have := List.take_add_one (l := x) (i := m)
      rw [hz, List.take_of_length_le (by omega)] at this
      exact this
    have hb := feed_body hl hx rfl (by omega) m (by omega)
    have hf := feed_snoc (s := (enc x.length, 0, false)) (l := x) (k := m) hz
    rw [List.take_of_length_le (by omega), hb] at hf
    have hs := step_last (b := enc x.length ++ x.take m) (z := x[m]'(by omega)) (a := x) (n := x.length) (by rw [List.append_assoc, ← hx2]) (by omega) hx
    rw [hs, if_neg (by omega), if_pos (Nat.le_refl _), List.take_length] at hf
    rw [hf]
    simp [st0]
/-- A frame that is too long costs only itself. -/
theorem feed_long {n : Nat} {x : List Int} (hn : n ≤ 18446744073709551615) (h : 4096 < n) (hl : x.length = n) : feed st0 (enc n ++ x) = (st0, [([], 2)]) := by
  rw [feed_append, feed_num hn, if_pos h, feed_skip x [] n (by omega), hl]
  simp [st0]
/-- The bodies of frames come out as they were put in. -/
theorem feed_frames : ∀ (X : List (List Int)), (∀ x ∈ X, Byt x ∧ x.length ≤ 4096) → feed st0 (X.flatMap fun x => enc x.length ++ x) = (st0, X.map fun x => (x, 0))
  | [], _ => by simp [feed]
  | x :: r, h => by
    have hx := h x (by simp)
    rw [List.flatMap_cons, feed_append, feed_frame hx.1 hx.2, feed_frames r fun y hy => h y (by simp [hy])]
    simp
end Go.Proofs.Ytfihaonpifoekaa
