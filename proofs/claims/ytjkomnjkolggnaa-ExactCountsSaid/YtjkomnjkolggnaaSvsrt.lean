/- Entries in ascending order of their keys: what they are by their members. Conditions: none beyond those typed. -/
import Derived.Test.YtjkomnjkolggnaaSvsort
namespace Go.Proofs.Ytjkomnjkolggnaa
set_option linter.unusedVariables false
set_option linter.unusedSimpArgs false

theorem insSE_add (out : List En) (e : En) : insSE out e = addM out e.1 e.2 := rfl
theorem foldSE_srt : ∀ (l out : List En), Srt out → ((l ++ out).map Prod.fst).Nodup → Srt (l.foldl insSE out)
  | [], out, h, _ => h
  | e :: l, out, h, hn => by
    have hp : ((l ++ insSE out e).map Prod.fst).Perm ((e :: l ++ out).map Prod.fst) := by
      have h1 : (l ++ insSE out e).Perm (l ++ e :: out) := (insSE_perm out e).append_left l
      exact (h1.trans List.perm_middle).map _
    refine foldSE_srt l (insSE out e) ?_ (hp.nodup_iff.2 hn)
    rw [insSE_add]
    refine add_srt h ?_
    cases hl : lookM out e.1 with
    | none => rfl
    | some v =>
      exfalso
      have hm := (look_mem h).1 hl
      rw [List.cons_append, List.map_cons] at hn
      exact (List.nodup_cons.1 hn).1 (List.mem_map.2 ⟨_, List.mem_append.2 (.inr hm), rfl⟩)
theorem sortE_srt {l : List En} (hn : (l.map Prod.fst).Nodup) : Srt (sortE l) := foldSE_srt l [] List.Pairwise.nil (by rwa [List.append_nil])
/-- Ascending lists with the same members are the same. -/
theorem srt_pairs {α : Type} {l l' : List (ByteArray × α)} (h : Srt l) (h' : Srt l') (hm : ∀ e, e ∈ l ↔ e ∈ l') : l = l' := by
  have hk : l.map Prod.fst = l'.map Prod.fst := by
    refine srt_unique (List.pairwise_map.2 h) (List.pairwise_map.2 h') fun s => ⟨fun hs => ?_, fun hs => ?_⟩
    · obtain ⟨e, he, rfl⟩ := List.mem_map.1 hs
      exact List.mem_map.2 ⟨e, (hm e).1 he, rfl⟩
    · obtain ⟨e, he, rfl⟩ := List.mem_map.1 hs
      exact List.mem_map.2 ⟨e, (hm e).2 he, rfl⟩
  refine List.ext_getElem? fun i => ?_
  have hi : (l.map Prod.fst)[i]? = (l'.map Prod.fst)[i]? := by rw [hk]
  rw [List.getElem?_map, List.getElem?_map] at hi
  cases h1 : l[i]? with
  | none =>
    rw [h1] at hi
    cases h2 : l'[i]? with
    | none => rfl
    | some y => rw [h2] at hi; cases hi
  | some x =>
    rw [h1] at hi
    cases h2 : l'[i]? with
    | none => rw [h2] at hi; cases hi
    | some y =>
      rw [h2] at hi
      injection hi with hi
      have hx := (hm x).1 (List.mem_of_getElem? h1)
      obtain ⟨j, hj⟩ := List.mem_iff_getElem?.1 hx
      obtain rfl := srt_same h' h2 hj hi.symm
      rw [h2] at hj
      injection hj with hj
      rw [hj]
theorem srt_same_mem {l l' : List En} (h : Srt l) (h' : Srt l') (hm : ∀ e, e ∈ l ↔ e ∈ l') : l = l' := srt_pairs h h' hm
end Go.Proofs.Ytjkomnjkolggnaa
