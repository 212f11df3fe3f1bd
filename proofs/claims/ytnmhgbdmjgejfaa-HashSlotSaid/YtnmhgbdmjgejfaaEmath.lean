/- Plain facts on events as bytes: what an event is encoded to, what the bytes at the beginning of a list are decoded to. No program here. Conditions: none beyond those typed. -/
import Derived.Test.YtnmhgbdmjgejfaaVmath
import Derived.Test.YtnmhgbdmjgejfaaTmath
import Derived.Test.YtnmhgbdmjgejfaaBase
namespace Go.Proofs.Ytnmhgbdmjgejfaa
set_option linter.unusedVariables false
set_option linter.unusedSimpArgs false
set_option maxRecDepth 100000

/-- The bytes of a string. -/
def sB (s : ByteArray) : List Int := s.data.toList.map fun b => (b.toNat : Int)
theorem sB_len (s : ByteArray) : (sB s).length = s.size := by rw [ba_size]; simp [sB]
theorem sB_bytes (s : ByteArray) : ∀ z ∈ sB s, 0 ≤ z ∧ z ≤ 255 := by
  intro z hz
  obtain ⟨b, _, rfl⟩ := List.mem_map.1 hz
  have := b.toNat_lt
  omega
/-- The string of bytes. -/
def bS (l : List Int) : ByteArray := ⟨(l.map fun z => UInt8.ofNat z.toNat).toArray⟩
theorem bS_size (l : List Int) : (bS l).size = l.length := by rw [ba_size]; simp [bS]
theorem bS_sB (s : ByteArray) : bS (sB s) = s := by
  apply ByteArray.ext
  apply Array.toList_inj.1
  simp only [bS, sB, List.map_map]
  refine (List.map_congr_left (g := id) fun b _ => ?_).trans (by simp)
  simp
theorem sB_bS {l : List Int} (h : ∀ z ∈ l, 0 ≤ z ∧ z ≤ 255) : sB (bS l) = l := by
  simp only [bS, sB, List.map_map]
  refine (List.map_congr_left (g := id) fun z hz => ?_).trans (by simp)
  have := h z hz
  simp only [Function.comp, id, UInt8.toNat_ofNat']
  omega

def txt (s : ByteArray) : List Int := enc s.size ++ sB s
def tagB (t : Tg) : List Int := txt t.1 ++ txt t.2
def tagsB (l : List Tg) : List Int := l.flatMap tagB
def evB (l : List Tg) (t w : Int) : List Int := enc t.toNat ++ enc w.toNat ++ enc l.length ++ tagsB l
def longT (t : Tg) : Bool := decide (4096 < t.1.size) || decide (4096 < t.2.size)
def encE (l : List Tg) (t : Int) : Int := if t < 0 ∨ 1099511627776 < t then 1 else if 8 < l.length then 5 else if l.any longT then 4 else 0
def encB (l : List Tg) (t w : Int) : List Int := if encE l t = 0 then evB l t w else []

theorem encE_time {l : List Tg} {t : Int} (h : t < 0 ∨ 1099511627776 < t) : encE l t = 1 := if_pos h
theorem encE_many {l : List Tg} {t : Int} (h : ¬ (t < 0 ∨ 1099511627776 < t)) (h1 : 8 < l.length) : encE l t = 5 := by unfold encE; rw [if_neg h, if_pos h1]
theorem encE_long {l : List Tg} {t : Int} (h : ¬ (t < 0 ∨ 1099511627776 < t)) (h1 : ¬ 8 < l.length) (h2 : l.any longT = true) : encE l t = 4 := by unfold encE; rw [if_neg h, if_neg h1, if_pos h2]
theorem encE_ok {l : List Tg} {t : Int} (h : ¬ (t < 0 ∨ 1099511627776 < t)) (h1 : ¬ 8 < l.length) (h2 : l.any longT = false) : encE l t = 0 := by unfold encE; rw [if_neg h, if_neg h1, h2]; rfl
theorem encE_zero {l : List Tg} {t : Int} (h : encE l t = 0) : 0 ≤ t ∧ t ≤ 1099511627776 ∧ l.length ≤ 8 ∧ ∀ x ∈ l, x.1.size ≤ 4096 ∧ x.2.size ≤ 4096 := by
  unfold encE at h
  split at h
  · cases h
  · split at h
    · cases h
    · split at h
      · cases h
      · rename_i h1 h2 h3
        refine ⟨by omega, by omega, by omega, fun x hx => ?_⟩
        have := List.any_eq_false.1 (by simpa using h3) x hx
        simp [longT] at this
        exact this
theorem encB_no {l : List Tg} {t w : Int} (h : encE l t ≠ 0) : encB l t w = [] := if_neg h
theorem encB_yes {l : List Tg} {t w : Int} (h : encE l t = 0) : encB l t w = evB l t w := if_pos h
theorem txt_bytes (s : ByteArray) : ∀ z ∈ txt s, 0 ≤ z ∧ z ≤ 255 := fun z hz => by
  rcases List.mem_append.1 hz with h | h
  · exact enc_bytes _ z h
  · exact sB_bytes _ z h
theorem tagsB_bytes (l : List Tg) : ∀ z ∈ tagsB l, 0 ≤ z ∧ z ≤ 255 := fun z hz => by
  obtain ⟨t, _, ht⟩ := List.mem_flatMap.1 hz
  rcases List.mem_append.1 ht with h | h
  · exact txt_bytes _ z h
  · exact txt_bytes _ z h
theorem tagsB_snoc {l : List Tg} {k : Nat} {p q : ByteArray} (h : l[k]? = some (p, q)) : tagsB (l.take (k + 1)) = tagsB (l.take k) ++ (enc p.size ++ sB p) ++ (enc q.size ++ sB q) := by
  rw [List.take_add_one, h]
  simp [tagsB, tagB, txt]
theorem txt_len (s : ByteArray) (h : s.size ≤ 4096) : (txt s).length ≤ 4106 := by
  have := enc_ten (n := s.size) (by omega)
  unfold txt
  rw [List.length_append, sB_len]; omega
theorem tagsB_len : ∀ (l : List Tg), (∀ x ∈ l, x.1.size ≤ 4096 ∧ x.2.size ≤ 4096) → (tagsB l).length ≤ l.length * 8212
  | [], _ => by simp [tagsB]
  | t :: r, h => by
    have ih := tagsB_len r fun x hx => h x (by simp [hx])
    have ht := h t (by simp)
    have h1 := txt_len t.1 ht.1
    have h2 := txt_len t.2 ht.2
    have e : tagsB (t :: r) = txt t.1 ++ txt t.2 ++ tagsB r := by simp [tagsB, tagB]
    rw [e, List.length_append, List.length_append, List.length_cons]
    omega
theorem any_take {l : List Tg} {k : Nat} (h : (l.take k).any longT = false) (hl : l.length ≤ k) : l.any longT = false := by rwa [List.take_of_length_le hl] at h
theorem any_next {l : List Tg} {k : Nat} {p q : ByteArray} (h : (l.take k).any longT = false) (ht : l[k]? = some (p, q)) (hp : p.size ≤ 4096) (hq : q.size ≤ 4096) : (l.take (k + 1)).any longT = false := by
  rw [List.take_add_one, ht, List.any_append, h]
  simp [longT]; omega
theorem any_hit {l : List Tg} {k : Nat} {p q : ByteArray} (ht : l[k]? = some (p, q)) (hp : 4096 < p.size ∨ 4096 < q.size) : l.any longT = true := by
  rw [List.any_eq_true]
  refine ⟨(p, q), List.mem_of_getElem? ht, ?_⟩
  simp [longT]; omega
theorem any_sizes {l : List Tg} (h : l.any longT = false) : ∀ x ∈ l, x.1.size ≤ 4096 ∧ x.2.size ≤ 4096 := fun x hx => by
  have := List.any_eq_false.1 h x hx
  simp [longT] at this
  exact this

/-! ### reading -/
def numE (most over : Int) (l : List Int) : Int := if rdE l ≠ 0 then rdE l else if most < rdN l then over else 0
def numV (most over : Int) (l : List Int) : Int := if numE most over l = 0 then rdN l else 0
def numR (l : List Int) : List Int := l.drop (rdK l).toNat
def txtE (l : List Int) : Int := if numE 4096 4 l ≠ 0 then numE 4096 4 l else if ((numR l).length : Int) < rdN l then 2 else 0
def txtV (l : List Int) : ByteArray := if txtE l = 0 then bS ((numR l).take (rdN l).toNat) else ⟨#[]⟩
def txtR (l : List Int) : List Int := (numR l).drop (rdN l).toNat
/-- k tags: the error, the tags, the rest. -/
def tgsE : Nat → List Int → Int
  | 0, _ => 0
  | k + 1, l => if txtE l ≠ 0 then txtE l else if txtE (txtR l) ≠ 0 then txtE (txtR l) else tgsE k (txtR (txtR l))
def tgsV : Nat → List Int → List Tg
  | 0, _ => []
  | k + 1, l => (txtV l, txtV (txtR l)) :: tgsV k (txtR (txtR l))
def tgsR : Nat → List Int → List Int
  | 0, l => l
  | k + 1, l => tgsR k (txtR (txtR l))
/-- The rest behind time, weight and the number of tags. -/
def evR1 (l : List Int) : List Int := numR l
def evR2 (l : List Int) : List Int := numR (numR l)
def evR3 (l : List Int) : List Int := numR (numR (numR l))
def decE (l : List Int) : Int :=
  if numE 1099511627776 1 l ≠ 0 then numE 1099511627776 1 l else if numE 18446744073709551615 1 (evR1 l) ≠ 0 then numE 18446744073709551615 1 (evR1 l)
  else if numE 8 5 (evR2 l) ≠ 0 then numE 8 5 (evR2 l) else tgsE (rdN (evR2 l)).toNat (evR3 l)
def decT (l : List Int) : List Tg := if decE l = 0 then tgsV (rdN (evR2 l)).toNat (evR3 l) else []
def decM (l : List Int) : Int := if decE l = 0 then rdN l else 0
def decW (l : List Int) : Int := if decE l = 0 then rdN (evR1 l) else 0
def decR (l : List Int) : List Int := tgsR (rdN (evR2 l)).toNat (evR3 l)
def decN (l : List Int) : Int := if decE l = 0 then (l.length : Int) - (decR l).length else 0

theorem rd_top {l : List Int} (hb : ∀ z ∈ l, 0 ≤ z ∧ z ≤ 255) : 0 ≤ rdN l ∧ rdN l ≤ 18446744073709551615 := by
  by_cases h : rdE l = 0
  · obtain ⟨k, _, _, _, _, h0, h1, _⟩ := rd_unique l hb h
    exact ⟨h0, h1⟩
  · have : rdN l = 0 := by
      unfold rdN
      unfold rdE at h
      rw [if_pos]
      by_cases h1 : lead l = 10
      · exact .inl h1
      · rw [if_neg h1] at h
        by_cases h2 : lead l = l.length
        · exact .inr (.inl h2)
        · rw [if_neg h2] at h
          by_cases h3 : (lead l = 9 ∧ 1 < l.getD (lead l) 0) ∨ (0 < lead l ∧ l.getD (lead l) 0 = 0)
          · exact .inr (.inr h3)
          · rw [if_neg h3] at h; exact absurd rfl h
    omega
theorem rd_used {l : List Int} (hb : ∀ z ∈ l, 0 ≤ z ∧ z ≤ 255) (h : rdE l = 0) : 1 ≤ rdK l ∧ rdK l ≤ l.length := by
  obtain ⟨k, h1, h2, h3, _⟩ := rd_unique l hb h
  omega
theorem numR_bytes {l : List Int} (hb : ∀ z ∈ l, 0 ≤ z ∧ z ≤ 255) : ∀ z ∈ numR l, 0 ≤ z ∧ z ≤ 255 := fun z hz => hb z (List.mem_of_mem_drop hz)
theorem txtR_bytes {l : List Int} (hb : ∀ z ∈ l, 0 ≤ z ∧ z ≤ 255) : ∀ z ∈ txtR l, 0 ≤ z ∧ z ≤ 255 := fun z hz => numR_bytes hb z (List.mem_of_mem_drop hz)
theorem tgsV_len : ∀ (k : Nat) (l : List Int), (tgsV k l).length = k
  | 0, _ => rfl
  | k + 1, l => by simp [tgsV, tgsV_len k]

theorem numE_err {most over : Int} {l : List Int} (h : rdE l ≠ 0) : numE most over l = rdE l ∧ numV most over l = 0 := by
  have e : numE most over l = rdE l := if_pos h
  exact ⟨e, by unfold numV; rw [e, if_neg h]⟩
theorem numE_over {most over : Int} {l : List Int} (h : rdE l = 0) (h1 : most < rdN l) (h2 : over ≠ 0) : numE most over l = over ∧ numV most over l = 0 := by
  have e : numE most over l = over := by unfold numE; rw [if_neg (by simp [h]), if_pos h1]
  exact ⟨e, by unfold numV; rw [e, if_neg h2]⟩
theorem numE_ok {most over : Int} {l : List Int} (h : rdE l = 0) (h1 : ¬ most < rdN l) : numE most over l = 0 ∧ numV most over l = rdN l := by
  have e : numE most over l = 0 := by unfold numE; rw [if_neg (by simp [h]), if_neg h1]
  exact ⟨e, by unfold numV; rw [e, if_pos rfl]⟩
theorem numE_zero {most over : Int} {l : List Int} (h : numE most over l = 0) (h2 : over ≠ 0) : rdE l = 0 ∧ rdN l ≤ most ∧ numV most over l = rdN l := by
  unfold numE at h
  split at h
  · contradiction
  · split at h
    · exact absurd h h2
    · rename_i a b
      have a' : rdE l = 0 := by simpa using a
      exact ⟨a', by omega, (numE_ok a' (by omega)).2⟩

/-- A number is read back. -/
theorem num_back {most over : Int} (n : Nat) (a : List Int) (hn : n ≤ 18446744073709551615) (hm : (n : Int) ≤ most) (ha : ∀ z ∈ a, 0 ≤ z ∧ z ≤ 255) :
    numE most over (enc n ++ a) = 0 ∧ rdN (enc n ++ a) = n ∧ numR (enc n ++ a) = a := by
  obtain ⟨h1, h2, h3⟩ := rd_back n a hn fun z hz => (ha z hz).1
  refine ⟨(numE_ok h3 (by rw [h1]; omega)).1, h1, ?_⟩
  unfold numR
  rw [h2, Int.toNat_natCast, List.drop_left']
  rfl
theorem txt_back (s : ByteArray) (a : List Int) (hs : s.size ≤ 4096) (ha : ∀ z ∈ a, 0 ≤ z ∧ z ≤ 255) :
    txtE (txt s ++ a) = 0 ∧ txtV (txt s ++ a) = s ∧ txtR (txt s ++ a) = a := by
  have hb : ∀ z ∈ sB s ++ a, 0 ≤ z ∧ z ≤ 255 := fun z hz => by
    rcases List.mem_append.1 hz with h | h
    · exact sB_bytes _ z h
    · exact ha z h
  obtain ⟨h1, h2, h3⟩ := num_back (most := 4096) (over := 4) s.size (sB s ++ a) (by omega) (by omega) hb
  have e : txt s ++ a = enc s.size ++ (sB s ++ a) := by unfold txt; rw [List.append_assoc]
  rw [e]
  have hE : txtE (enc s.size ++ (sB s ++ a)) = 0 := by
    unfold txtE
    rw [if_neg (by simp [h1]), h3, h2, if_neg]
    rw [List.length_append, sB_len]; omega
  refine ⟨hE, ?_, ?_⟩
  · unfold txtV
    rw [if_pos hE, h3, h2, Int.toNat_natCast, List.take_left' (by rw [sB_len])]
    exact bS_sB s
  · unfold txtR
    rw [h3, h2, Int.toNat_natCast, List.drop_left' (by rw [sB_len])]
theorem tgs_back : ∀ (l : List Tg) (a : List Int), (∀ x ∈ l, x.1.size ≤ 4096 ∧ x.2.size ≤ 4096) → (∀ z ∈ a, 0 ≤ z ∧ z ≤ 255) →
    tgsE l.length (tagsB l ++ a) = 0 ∧ tgsV l.length (tagsB l ++ a) = l ∧ tgsR l.length (tagsB l ++ a) = a
  | [], a, _, _ => ⟨rfl, rfl, rfl⟩
  | t :: r, a, h, ha => by
    have ht := h t (by simp)
    have e : tagsB (t :: r) ++ a = txt t.1 ++ (txt t.2 ++ (tagsB r ++ a)) := by simp [tagsB, tagB]
    have hb1 : ∀ z ∈ tagsB r ++ a, 0 ≤ z ∧ z ≤ 255 := fun z hz => by
      rcases List.mem_append.1 hz with h | h
      · exact tagsB_bytes _ z h
      · exact ha z h
    have hb2 : ∀ z ∈ txt t.2 ++ (tagsB r ++ a), 0 ≤ z ∧ z ≤ 255 := fun z hz => by
      rcases List.mem_append.1 hz with h | h
      · exact txt_bytes _ z h
      · exact hb1 z h
    obtain ⟨a1, a2, a3⟩ := txt_back t.1 _ ht.1 hb2
    obtain ⟨b1, b2, b3⟩ := txt_back t.2 _ ht.2 hb1
    obtain ⟨c1, c2, c3⟩ := tgs_back r a (fun x hx => h x (by simp [hx])) ha
    rw [e]
    simp only [List.length_cons, tgsE, tgsV, tgsR, a1, a2, a3, b1, b2, b3, c1, c2, c3]
    simp
/-- An event that was encoded is decoded as it was, whatever follows it. -/
theorem dec_back {l : List Tg} {t w : Int} (a : List Int) (h : encE l t = 0) (hw : 0 ≤ w ∧ w ≤ 18446744073709551615) (ha : ∀ z ∈ a, 0 ≤ z ∧ z ≤ 255) :
    decE (evB l t w ++ a) = 0 ∧ decT (evB l t w ++ a) = l ∧ decM (evB l t w ++ a) = t ∧ decW (evB l t w ++ a) = w ∧ decN (evB l t w ++ a) = ((evB l t w).length : Int) := by
  obtain ⟨ht0, ht1, hl, hs⟩ := encE_zero h
  have e : evB l t w ++ a = enc t.toNat ++ (enc w.toNat ++ (enc l.length ++ (tagsB l ++ a))) := by simp [evB]
  have hb0 : ∀ z ∈ tagsB l ++ a, 0 ≤ z ∧ z ≤ 255 := fun z hz => by
    rcases List.mem_append.1 hz with h | h
    · exact tagsB_bytes _ z h
    · exact ha z h
  have hb1 : ∀ z ∈ enc l.length ++ (tagsB l ++ a), 0 ≤ z ∧ z ≤ 255 := fun z hz => by
    rcases List.mem_append.1 hz with h | h
    · exact enc_bytes _ z h
    · exact hb0 z h
  have hb2 : ∀ z ∈ enc w.toNat ++ (enc l.length ++ (tagsB l ++ a)), 0 ≤ z ∧ z ≤ 255 := fun z hz => by
    rcases List.mem_append.1 hz with h | h
    · exact enc_bytes _ z h
    · exact hb1 z h
  obtain ⟨a1, a2, a3⟩ := num_back (most := 1099511627776) (over := 1) t.toNat _ (by omega) (by omega) hb2
  obtain ⟨b1, b2, b3⟩ := num_back (most := 18446744073709551615) (over := 1) w.toNat _ (by omega) (by omega) hb1
  obtain ⟨c1, c2, c3⟩ := num_back (most := 8) (over := 5) l.length _ (by omega) (by omega) hb0
  obtain ⟨d1, d2, d3⟩ := tgs_back l a hs ha
  have hlen : (evB l t w ++ a).length = (evB l t w).length + a.length := List.length_append
  have hE : decE (evB l t w ++ a) = 0 := by
    rw [e]; unfold decE evR1 evR2 evR3
    rw [a1, a3, b1, b3, c1, c2, c3]
    simp [d1]
  refine ⟨hE, ?_, ?_, ?_, ?_⟩
  · unfold decT; rw [if_pos hE, e]; unfold evR2 evR3; rw [a3, b3, c2, c3, Int.toNat_natCast, d2]
  · unfold decM; rw [if_pos hE, e, a2]; omega
  · unfold decW; rw [if_pos hE, e]; unfold evR1; rw [a3, b2]; omega
  · unfold decN; rw [if_pos hE, hlen, e]; unfold decR evR2 evR3; rw [a3, b3, c2, c3, Int.toNat_natCast, d3]; omega
end Go.Proofs.Ytnmhgbdmjgejfaa
