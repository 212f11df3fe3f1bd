/- Plain facts on numbers as bytes: what a number is encoded to, what the bytes at the beginning of a list are decoded to. No program here. Conditions: none beyond those typed. -/
import Derived.Test.YtnmhgbdmjgejfaaRows
namespace Go.Proofs.Ytnmhgbdmjgejfaa
set_option linter.unusedVariables false
set_option maxRecDepth 100000

def enc (n : Nat) : List Int := if n < 128 then [(n : Int)] else (((n % 128 : Nat) : Int) + 128) :: enc (n / 128)
termination_by n
decreasing_by omega

theorem enc_lt {n : Nat} (h : n < 128) : enc n = [(n : Int)] := by rw [enc]; exact if_pos h
theorem enc_ge {n : Nat} (h : ¬ n < 128) : enc n = (((n % 128 : Nat) : Int) + 128) :: enc (n / 128) := by rw [enc]; exact if_neg h

theorem enc_pos (n : Nat) : 1 ≤ (enc n).length := by
  by_cases h : n < 128
  · rw [enc_lt h]; simp
  · rw [enc_ge h]; simp
theorem enc_len (k : Nat) : ∀ n, n < 128 ^ (k + 1) → (enc n).length ≤ k + 1 := by
  induction k with
  | zero => intro n h; rw [enc_lt (by simpa using h)]; simp
  | succ k ih =>
    intro n h
    by_cases hn : n < 128
    · rw [enc_lt hn]; simp
    · rw [enc_ge hn]
      have := ih (n / 128) (by rw [Nat.div_lt_iff_lt_mul (by omega)]; rw [Nat.pow_succ] at h; exact h)
      simp; omega
theorem enc_ten {n : Nat} (h : n ≤ 18446744073709551615) : (enc n).length ≤ 10 := enc_len 9 n (by omega)
theorem enc_bytes (n : Nat) : ∀ z ∈ enc n, 0 ≤ z ∧ z ≤ 255 := by
  induction n using enc.induct with
  | case1 n h => intro z hz; rw [enc_lt h] at hz; simp at hz; omega
  | case2 n h ih =>
    intro z hz
    rw [enc_ge h] at hz
    rcases List.mem_cons.1 hz with rfl | hz
    · omega
    · exact ih z hz

/-- How many of the first ten bytes, from the beginning, have the bit 128. -/
def lead (l : List Int) : Nat := ((l.take 10).takeWhile fun z => decide (128 ≤ z)).length

theorem takeWhile_len (p : Int → Bool) : ∀ (l : List Int) (k : Nat), (∀ i z, i < k → l[i]? = some z → p z = true) → k ≤ l.length → (∀ z, l[k]? = some z → p z = false) → (l.takeWhile p).length = k := by
  intro l
  induction l with
  | nil => intro k _ hk _; simp at hk; subst hk; rfl
  | cons x r ih =>
    intro k h1 hk h2
    cases k with
    | zero =>
      have : p x = false := h2 x rfl
      simp [this]
    | succ k =>
      have hx : p x = true := h1 0 x (by omega) rfl
      rw [List.takeWhile_cons, if_pos hx, List.length_cons, ih k (fun i z hi hz => h1 (i + 1) z (by omega) (by simpa using hz)) (by simpa using hk) (fun z hz => h2 z (by simpa using hz))]

theorem takeWhile_spec (p : Int → Bool) : ∀ (l : List Int), (∀ i z, i < (l.takeWhile p).length → l[i]? = some z → p z = true) ∧ (∀ z, l[(l.takeWhile p).length]? = some z → p z = false) := by
  intro l
  induction l with
  | nil => exact ⟨fun i z hi => by simp at hi, fun z hz => by simp at hz⟩
  | cons x r ih =>
    by_cases hx : p x = true
    · rw [List.takeWhile_cons, if_pos hx]
      refine ⟨fun i z hi hz => ?_, fun z hz => ih.2 z (by simpa using hz)⟩
      cases i with
      | zero => simp at hz; subst hz; exact hx
      | succ i => exact ih.1 i z (by simpa using hi) (by simpa using hz)
    · rw [List.takeWhile_cons, if_neg hx]
      refine ⟨fun i z hi => by simp at hi, fun z hz => ?_⟩
      simp at hz; subst hz
      simpa using hx

theorem lead_eq {l : List Int} {k : Nat} (h1 : ∀ i z, i < k → l[i]? = some z → 128 ≤ z) (hk : k ≤ l.length) (h10 : k ≤ 10) (h2 : ∀ z, k < 10 → l[k]? = some z → z < 128) : lead l = k := by
  unfold lead
  refine takeWhile_len _ _ _ (fun i z hi hz => ?_) (by rw [List.length_take]; omega) (fun z hz => ?_)
  · rw [List.getElem?_take] at hz
    split at hz
    · simpa using h1 i z hi hz
    · cases hz
  · rw [List.getElem?_take] at hz
    split at hz
    · simp; exact h2 z (by assumption) hz
    · cases hz

/-- The number whose groups are these bytes. -/
def val : List Int → Int
  | [] => 0
  | z :: r => z % 128 + 128 * val r

theorem val_nonneg : ∀ l, 0 ≤ val l
  | [] => by simp [val]
  | z :: r => by have := val_nonneg r; simp only [val]; omega
theorem val_snoc (l : List Int) (z : Int) : val (l ++ [z]) = val l + z % 128 * 128 ^ l.length := by
  induction l with
  | nil => simp [val]
  | cons x r ih =>
    rw [List.cons_append, val, ih, val, List.length_cons, Int.pow_succ, Int.mul_add, Int.add_assoc]
    congr 2
    rw [← Int.mul_assoc, ← Int.mul_assoc, Int.mul_comm 128 (z % 128), Int.mul_assoc, Int.mul_assoc, Int.mul_comm 128]
theorem val_lt : ∀ l : List Int, val l < 128 ^ l.length
  | [] => by simp [val]
  | z :: r => by
    have := val_lt r
    simp only [val, List.length_cons, Int.pow_succ]
    omega

/-- The number at the beginning of a list: number, length, error. -/
def rdN (l : List Int) : Int :=
  if lead l = 10 ∨ lead l = l.length ∨ (lead l = 9 ∧ 1 < l.getD (lead l) 0) ∨ (0 < lead l ∧ l.getD (lead l) 0 = 0) then 0 else val (l.take (lead l + 1))
def rdK (l : List Int) : Int :=
  if lead l = 10 ∨ lead l = l.length ∨ (lead l = 9 ∧ 1 < l.getD (lead l) 0) ∨ (0 < lead l ∧ l.getD (lead l) 0 = 0) then 0 else (lead l : Int) + 1
def rdE (l : List Int) : Int :=
  if lead l = 10 then 3 else if lead l = l.length then 2 else if (lead l = 9 ∧ 1 < l.getD (lead l) 0) ∨ (0 < lead l ∧ l.getD (lead l) 0 = 0) then 3 else 0

theorem lead_le (l : List Int) : lead l ≤ l.length ∧ lead l ≤ 10 := by
  unfold lead
  have h : ∀ (p : Int → Bool) (r : List Int), (r.takeWhile p).length ≤ r.length := fun p r => (List.takeWhile_sublist p).length_le
  have := h (fun z => decide (128 ≤ z)) (l.take 10)
  rw [List.length_take] at this
  omega

/-- The bytes of a number are read back, whatever follows. -/
theorem lead_enc (n : Nat) (a : List Int) (hn : (enc n).length ≤ 10) (ha : ∀ z ∈ a, 0 ≤ z) : lead (enc n ++ a) + 1 = (enc n).length := by
  have key : ∀ n, (enc n).length = ((enc n).length - 1) + 1 ∧ (∀ i z, i < (enc n).length - 1 → (enc n)[i]? = some z → 128 ≤ z) ∧ (∀ z, (enc n)[(enc n).length - 1]? = some z → z < 128) := by
    intro n
    induction n using enc.induct with
    | case1 n h =>
      rw [enc_lt h]
      refine ⟨rfl, fun i z hi => by simp at hi, fun z hz => ?_⟩
      simp at hz; omega
    | case2 n h ih =>
      have hp := enc_pos (n / 128)
      rw [enc_ge h]
      refine ⟨by simp, fun i z hi hz => ?_, fun z hz => ?_⟩
      · cases i with
        | zero => simp at hz; omega
        | succ i => exact ih.2.1 i z (by simp at hi; omega) (by simpa using hz)
      · refine ih.2.2 z ?_
        have e : ((((n % 128 : Nat) : Int) + 128) :: enc (n / 128)).length - 1 = ((enc (n / 128)).length - 1) + 1 := by simp; omega
        rw [e] at hz
        simpa using hz
  obtain ⟨h0, h1, h2⟩ := key n
  have : lead (enc n ++ a) = (enc n).length - 1 := by
    refine lead_eq (fun i z hi hz => h1 i z hi ?_) (by rw [List.length_append]; omega) (by omega) (fun z _ hz => h2 z ?_)
    · rwa [List.getElem?_append_left (by omega)] at hz
    · rwa [List.getElem?_append_left (by omega)] at hz
  omega
theorem val_enc (n : Nat) : val (enc n) = n := by
  induction n using enc.induct with
  | case1 n h => rw [enc_lt h]; simp [val]; omega
  | case2 n h ih => rw [enc_ge h, val, ih]; omega
theorem enc_last (n : Nat) : ∀ z, (enc n)[(enc n).length - 1]? = some z → z < 128 ∧ (1 < (enc n).length → z ≠ 0) := by
  induction n using enc.induct with
  | case1 n h => intro z hz; rw [enc_lt h] at hz; simp at hz; rw [enc_lt h]; simp; omega
  | case2 n h ih =>
    intro z hz
    have hp := enc_pos (n / 128)
    rw [enc_ge h] at hz
    have e : ((((n % 128 : Nat) : Int) + 128) :: enc (n / 128)).length - 1 = ((enc (n / 128)).length - 1) + 1 := by simp; omega
    rw [e] at hz
    have hz' : (enc (n / 128))[(enc (n / 128)).length - 1]? = some z := by simpa using hz
    have hh := ih z hz'
    refine ⟨hh.1, fun _ => ?_⟩
    by_cases h1 : 1 < (enc (n / 128)).length
    · exact hh.2 h1
    · by_cases h2 : n / 128 < 128
      · rw [enc_lt h2] at hz'
        simp at hz'
        omega
      · exfalso; apply h1; rw [enc_ge h2]; have := enc_pos (n / 128 / 128); simp; omega
theorem val_split (l : List Int) (k : Nat) : val l = val (l.take k) + 128 ^ (l.take k).length * val (l.drop k) := by
  induction l generalizing k with
  | nil => simp [val]
  | cons x r ih =>
    cases k with
    | zero => simp [val]
    | succ k =>
      rw [List.take_succ_cons, List.drop_succ_cons, val, val, List.length_cons, Int.pow_succ, ih k, Int.mul_add, ← Int.mul_assoc, Int.mul_comm (128 ^ _) 128]
      omega

theorem rd_back (n : Nat) (a : List Int) (hn : n ≤ 18446744073709551615) (ha : ∀ z ∈ a, 0 ≤ z) :
    rdN (enc n ++ a) = n ∧ rdK (enc n ++ a) = ((enc n).length : Int) ∧ rdE (enc n ++ a) = 0 := by
  have hten := enc_ten hn
  have hl := lead_enc n a hten ha
  have hpos := enc_pos n
  have hget : (enc n ++ a)[lead (enc n ++ a)]? = (enc n)[(enc n).length - 1]? := by
    rw [List.getElem?_append_left (by omega), show lead (enc n ++ a) = (enc n).length - 1 by omega]
  obtain ⟨z, hz⟩ : ∃ z, (enc n)[(enc n).length - 1]? = some z := ⟨_, List.getElem?_eq_getElem (by omega)⟩
  have hla := enc_last n z hz
  have hd : (enc n ++ a).getD (lead (enc n ++ a)) 0 = z := by rw [List.getD_eq_getElem?_getD, hget, hz]; rfl
  have hb := enc_bytes n z (List.mem_of_getElem? hz)
  have htake : (enc n ++ a).take (lead (enc n ++ a) + 1) = enc n := by rw [hl, List.take_left']; rfl
  have hlast : lead (enc n ++ a) = 9 → ¬ 1 < z := by
    intro h9 h1
    have hv := val_enc n
    have hs := val_split (enc n) 9
    have hlen : (enc n).length = 10 := by omega
    have hdrop : (enc n).drop 9 = [z] := by
      rw [hlen] at hz
      have hz9 : (enc n)[9]? = some z := hz
      have hlt : 9 < (enc n).length := by omega
      rw [List.drop_eq_getElem_cons hlt, List.drop_eq_nil_of_le (by omega)]
      rw [List.getElem?_eq_getElem hlt] at hz9
      rw [Option.some.inj hz9]
    rw [hdrop, hv] at hs
    have hn9 := val_nonneg ((enc n).take 9)
    have hlt9 : ((enc n).take 9).length = 9 := by rw [List.length_take]; omega
    rw [hlt9] at hs
    simp only [val] at hs
    have hz128 : z % 128 = z := by omega
    rw [hz128] at hs
    omega
  have hcond : ¬ (lead (enc n ++ a) = 10 ∨ lead (enc n ++ a) = (enc n ++ a).length ∨ (lead (enc n ++ a) = 9 ∧ 1 < (enc n ++ a).getD (lead (enc n ++ a)) 0) ∨ (0 < lead (enc n ++ a) ∧ (enc n ++ a).getD (lead (enc n ++ a)) 0 = 0)) := by
    rw [hd]
    rintro (h | h | ⟨h, h'⟩ | ⟨h, h'⟩)
    · omega
    · rw [List.length_append] at h; omega
    · exact hlast h h'
    · exact hla.2 (by omega) h'
  refine ⟨?_, ?_, ?_⟩
  · unfold rdN; rw [if_neg hcond, htake, val_enc]
  · unfold rdK; rw [if_neg hcond]; rw [← hl]; rfl
  · unfold rdE
    rw [if_neg (fun h => hcond (.inl h)), if_neg (fun h => hcond (.inr (.inl h))), if_neg (fun h => hcond (.inr (.inr h)))]

/-- What is read as a number is its encoding. -/
theorem enc_val : ∀ (l : List Int), (∀ z ∈ l, 0 ≤ z ∧ z ≤ 255) → 1 ≤ l.length → (∀ i z, i + 1 < l.length → l[i]? = some z → 128 ≤ z) → (∀ z, l[l.length - 1]? = some z → z < 128 ∧ (1 < l.length → z ≠ 0)) → enc (val l).toNat = l := by
  intro l
  induction l with
  | nil => intro _ h; simp at h
  | cons x r ih =>
    intro hb _ h1 h2
    have hx := hb x (by simp)
    cases r with
    | nil =>
      have := h2 x rfl
      simp only [val]
      have e : (x % 128 + 128 * 0).toNat = x.toNat := by omega
      rw [e, enc_lt (by omega)]
      congr 1
      omega
    | cons y s =>
      have h128 : 128 ≤ x := h1 0 x (by simp) rfl
      have hr := ih (fun z hz => hb z (by simp [hz])) (by simp) (fun i z hi hz => h1 (i + 1) z (by simp at hi ⊢; omega) (by simpa using hz)) (fun z hz => by
        have := h2 z (by simpa using hz)
        exact ⟨this.1, fun _ => this.2 (by simp)⟩)
      have hv := val_nonneg (y :: s)
      have hne : 1 ≤ val (y :: s) := by
        by_cases h0 : val (y :: s) = 0
        · rw [h0, show (0 : Int).toNat = 0 from rfl, enc_lt (by omega)] at hr
          have hs : s = [] ∧ y = 0 := by
            injection hr with a b
            exact ⟨b.symm, by simpa using a.symm⟩
          obtain ⟨rfl, rfl⟩ := hs
          have := (h2 0 rfl).2 (by simp)
          exact absurd rfl this
        · omega
      rw [val, enc_ge (by omega)]
      congr 1
      · omega
      · rw [show (x % 128 + 128 * val (y :: s)).toNat / 128 = (val (y :: s)).toNat by omega]
        exact hr

theorem rd_unique (l : List Int) (hb : ∀ z ∈ l, 0 ≤ z ∧ z ≤ 255) (h : rdE l = 0) :
    ∃ k : Nat, rdK l = (k : Int) ∧ 1 ≤ k ∧ k ≤ l.length ∧ k ≤ 10 ∧ 0 ≤ rdN l ∧ rdN l ≤ 18446744073709551615 ∧ enc (rdN l).toNat = l.take k := by
  have hle := lead_le l
  unfold rdE at h
  split at h
  · cases h
  · split at h
    · cases h
    · split at h
      · cases h
      · rename_i h10 hlen hc
        have hcond : ¬ (lead l = 10 ∨ lead l = l.length ∨ (lead l = 9 ∧ 1 < l.getD (lead l) 0) ∨ (0 < lead l ∧ l.getD (lead l) 0 = 0)) := by
          rintro (h | h | h)
          · exact h10 h
          · exact hlen h
          · exact hc h
        have hlt : lead l < l.length := by omega
        obtain ⟨z, hz⟩ : ∃ z, l[lead l]? = some z := ⟨_, List.getElem?_eq_getElem hlt⟩
        have hd : l.getD (lead l) 0 = z := by rw [List.getD_eq_getElem?_getD, hz]; rfl
        rw [hd] at hc
        have hzb := hb z (List.mem_of_getElem? hz)
        have hspec := takeWhile_spec (fun z => decide (128 ≤ z)) (l.take 10)
        have hlead : ∀ i y, i < lead l → l[i]? = some y → 128 ≤ y := by
          intro i y hi hy
          have := hspec.1 i y hi (by rw [List.getElem?_take, if_pos (by omega)]; exact hy)
          simpa using this
        have hz128 : z < 128 := by
          have := hspec.2 z (by
            show (l.take 10)[lead l]? = some z
            rw [List.getElem?_take, if_pos (by omega)]; exact hz)
          simpa using this
        refine ⟨lead l + 1, ?_, by omega, by omega, by omega, ?_, ?_, ?_⟩
        · unfold rdK; rw [if_neg hcond]; rfl
        · unfold rdN; rw [if_neg hcond]; exact val_nonneg _
        · unfold rdN; rw [if_neg hcond]
          by_cases h9 : lead l = 9
          · have hs := val_snoc (l.take 9) z
            have hz9 : l[9]? = some z := by rw [← h9]; exact hz
            have ht : l.take (lead l + 1) = l.take 9 ++ [z] := by rw [h9, List.take_add_one, hz9]; rfl
            have hv := val_lt (l.take 9)
            have hl9 : (l.take 9).length = 9 := by rw [List.length_take]; omega
            rw [hl9] at hs hv
            rw [ht, hs]
            have : z ≤ 1 := by
              rcases Int.lt_or_le 1 z with h | h
              · exact absurd (.inl ⟨h9, h⟩) hc
              · exact h
            omega
          · have hv := val_lt (l.take (lead l + 1))
            have hll : (l.take (lead l + 1)).length = lead l + 1 := by rw [List.length_take]; omega
            rw [hll] at hv
            have : (128 : Int) ^ (lead l + 1) ≤ 128 ^ 9 := by
              have : (128 : Nat) ^ (lead l + 1) ≤ 128 ^ 9 := Nat.pow_le_pow_right (by omega) (by omega)
              exact_mod_cast this
            omega
        · unfold rdN
          rw [if_neg hcond]
          refine enc_val _ (fun y hy => hb y (List.mem_of_mem_take hy)) (by rw [List.length_take]; omega) (fun i y hi hy => ?_) (fun y hy => ?_)
          · rw [List.length_take] at hi
            rw [List.getElem?_take, if_pos (by omega)] at hy
            exact hlead i y (by omega) hy
          · have hll : (l.take (lead l + 1)).length = lead l + 1 := by rw [List.length_take]; omega
            rw [hll, List.getElem?_take, if_pos (by omega), Nat.add_sub_cancel, hz] at hy
            obtain rfl := Option.some.inj hy
            refine ⟨hz128, fun h1 h0 => hc (.inr ⟨by rw [hll] at h1; omega, h0⟩)⟩
end Go.Proofs.Ytnmhgbdmjgejfaa
