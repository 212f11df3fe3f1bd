/- Words laid together in one text. Conditions: none beyond those typed. -/
import Derived.Test.YtgkokglngpbamaaZ16
import Derived.Test.YtgkokglngpbamaaTm
/- The program's tables (Misra-Gries): the deduction. Conditions: none beyond those typed. -/
namespace Go.Proofs.Ytgkokglngpbamaa
open Go.ChangeShapes Go.WideShapes Go.ChangeAt Go.RowKit
set_option linter.unusedVariables false
set_option linter.unusedSimpArgs false
set_option maxRecDepth 100000
attribute [local go_sem] Oper.semAt_some

section
variable {P : Nat → Prop} {c2 c3 : Col} {w w' : World} {g gm : Nat} {b s x d : Int} {m m' : MSt Int} {k : ByteArray}
/-- A box of one cell. -/
theorem box1_put {c : Col} {W : World} {G a : Nat} {u : Value} {t : TypeId} (h : BoxC c W G a #[u] t) (v : Value) : BoxC c (W.setCell ⟨G, 0, none⟩ v) G a #[v] t := h.put 0 v
/-- Amid the first loop: the table's box and index, the box of the receiver, the box of the least number so far. -/
structure Ded1 (c2 : Col) (w : World) (g gm : Nat) (b s : Int) (m : MSt Int) (b0 b1 : Nat) (y : Int) (c : Col) (W : World) : Prop where
  tidy : Tidy c W
  so : SoF c W g gm b s m
  x0 : BoxC c W b0 0 #[.pointer (some ⟨g, 0, none⟩)] 23
  x1 : BoxC c W b1 3 #[.int .u64 y] 30
  step : StepC (fun c => 2 ≤ c) c2 w c W
theorem Ded1.keep {b0 b1 : Nat} {y : Int} {c c' : Col} {W W' : World} (h : Ded1 c2 w g gm b s m b0 b1 y c W) (hs : StepC (fun c => c = 2) c W c' W') : Ded1 c2 w g gm b s m b0 b1 y c' W' :=
  ⟨hs.tidy, h.so.keep hs (fun c hc => by omega) (by omega), h.x0.keep hs (by omega), h.x1.keep hs (by omega), h.step.trans (hs.mono fun c hc => by omega)⟩
theorem Ded1.reads {b0 b1 : Nat} {y : Int} {c : Col} {W : World} (h : Ded1 c2 w g gm b s m b0 b1 y c W) (hg : GoodM m) (pre : List (ByteArray × Int)) : RdEach g gm m pre c W :=
  ⟨h.tidy, h.so.c0, m, h.so.idx, fun _ => rfl, fun x rest hx => (look_mem hg.srt).2 (by rw [hx]; simp)⟩
/-- Amid the second loop: the keys of pre have been visited; the block of the first loop's deferred calls. -/
structure Ded2 (c2 : Col) (w : World) (g gm : Nat) (e s d : Int) (m : MSt Int) (b0 b1 D : Nat) (pre : List (ByteArray × Int)) (c : Col) (W : World) : Prop where
  tidy : Tidy c W
  so : ∃ m', SoF c W g gm e s m' ∧ MidP d m pre m'
  x0 : BoxC c W b0 0 #[.pointer (some ⟨g, 0, none⟩)] 23
  x1 : BoxC c W b1 3 #[.int .u64 d] 30
  cD : c D = 2
  hK : W.heap[D]? = some (.deferred (some []))
  step : StepC (fun c => 2 ≤ c) c2 w c W
theorem Ded2.lt {e d : Int} {b0 b1 D : Nat} {pre : List (ByteArray × Int)} {c : Col} {W : World} (h : Ded2 c2 w g gm e s d m b0 b1 D pre c W) : D < W.heap.size := (Array.getElem?_eq_some_iff.1 h.hK).1
theorem Ded2.keep {e d : Int} {b0 b1 D : Nat} {pre : List (ByteArray × Int)} {c c' : Col} {W W' : World} (h : Ded2 c2 w g gm e s d m b0 b1 D pre c W) (hs : StepC (fun c => c = 2) c W c' W') (hk : W'.heap[D]? = W.heap[D]?) : Ded2 c2 w g gm e s d m b0 b1 D pre c' W' := by
  obtain ⟨m', h1, h2⟩ := h.so
  exact ⟨hs.tidy, ⟨m', h1.keep hs (fun c hc => by omega) (by omega), h2⟩, h.x0.keep hs (by omega), h.x1.keep hs (by omega), (hs.kept D h.lt).trans h.cD, hk.trans h.hK, h.step.trans (hs.mono fun c hc => by omega)⟩
theorem Ded2.reads {e d : Int} {b0 b1 D : Nat} {pre : List (ByteArray × Int)} {c : Col} {W : World} (h : Ded2 c2 w g gm e s d m b0 b1 D pre c W) (hg : GoodM m) : RdEach g gm m pre c W := by
  obtain ⟨m', h1, h2⟩ := h.so
  refine ⟨h.tidy, h1.c0, m', h1.idx, fun hp => ?_, fun x rest hx => h2.at_ hg hx⟩
  subst hp
  refine srt_pairs h2.g.srt hg.srt fun q => ?_
  rw [← look_mem h2.g.srt]
  exact (h2.look _ _).trans ⟨fun h => by rcases h with ⟨u, hu, _⟩ | h; cases hu; exact h.1, fun h => .inr ⟨h, fun p hp => by cases hp⟩⟩
set_option maxHeartbeats 4000000 in
theorem fded_any (H : SoF c2 w g gm b s m) (ht : Tidy c2 w) (hg : GoodM m) (hsz : ∀ p ∈ m.l, Sz p.1) (hfew : m.l.length ≤ 64) (hv : ∀ p ∈ m.l, 0 ≤ p.2 ∧ p.2 ≤ 9223372036854775808) (hs : k.size ≤ 281474976710656)
    (hx : 0 ≤ x ∧ x ≤ 9223372036854775808) (hb : 0 ≤ b ∧ b ≤ 9223372036854775808) (hd : minP x m.l = d) (hd0 : 0 ≤ d) (hbd : b + d ≤ 9223372036854775808) :
    Calls Try.prog 40 #[.pointer (some ⟨g, 0, none⟩), .string k, .int .u64 x] w fun e w' => (∃ u, e = .returned u) ∧ ∃ c3 m', MidP d m m.l m' ∧ SoF c3 w' g gm (b + d) s (setP m' k (x - d)) ∧ StepC (fun c => 2 ≤ c) c2 w c3 w' := by
  have HV := @each_visits g gm m hsz hfew
  have s1 : StepC (fun _ => False) c2 w c2 (w.alloc (.cells #[.pointer (some ⟨g, 0, none⟩)] 23)) := StepC.alloc ht _
  have s2 : StepC (fun _ => False) c2 (w.alloc (.cells #[.pointer (some ⟨g, 0, none⟩)] 23)) (dye c2 (some (w.heap.size + 1)) 3) ((w.alloc (.cells #[.pointer (some ⟨g, 0, none⟩)] 23)).alloc (.cells #[.int .u64 x] 30)) := by
    have := StepC.new s1.tidy (.cells #[.int .u64 x] 30) 3 (fun _ => False)
    rwa [show (w.alloc (.cells #[.pointer (some ⟨g, 0, none⟩)] 23)).heap.size = w.heap.size + 1 by simp] at this
  have s3 := s1.trans s2
  have D1 : Ded1 c2 w g gm b s m w.heap.size (w.heap.size + 1) x (dye c2 (some (w.heap.size + 1)) 3) ((w.alloc (.cells #[.pointer (some ⟨g, 0, none⟩)] 23)).alloc (.cells #[.int .u64 x] 30)) :=
    ⟨s3.tidy, H.keep s3 (fun _ _ h => h) (fun h => h), (show BoxC c2 (w.alloc (.cells #[.pointer (some ⟨g, 0, none⟩)] 23)) w.heap.size 0 #[.pointer (some ⟨g, 0, none⟩)] 23 from ⟨heap_alloc_new w _, ht _ (Nat.le_refl _)⟩).keep s2 (fun h => h), ⟨by
      have := heap_alloc_new (w.alloc (.cells #[.pointer (some ⟨g, 0, none⟩)] 23)) (.cells #[.int .u64 x] 30)
      rwa [show (w.alloc (.cells #[.pointer (some ⟨g, 0, none⟩)] 23)).heap.size = w.heap.size + 1 by simp] at this, dye_of⟩, s3.mono fun c h => h.elim⟩
  obtain ⟨b0, hb0⟩ : ∃ b0, w.heap.size = b0 := ⟨_, rfl⟩
  obtain ⟨b1, hb1⟩ : ∃ b1, w.heap.size + 1 = b1 := ⟨_, rfl⟩
  obtain ⟨W2, hW2⟩ : ∃ W2, (w.alloc (.cells #[.pointer (some ⟨g, 0, none⟩)] 23)).alloc (.cells #[.int .u64 x] 30) = W2 := ⟨_, rfl⟩
  rw [hW2, hb1, hb0] at D1
  have HW := Lib.hid (And.intro hW2 (And.intro hb1 hb0))
  clear s1 s2 s3 H ht hW2 hb1 hb0
  refine calls_of_marks Try.func40 rfl ?_
  simp only [Try.ntmps40, List.size_toArray, List.length_cons, List.length_nil, Nat.reduceAdd, Nat.reduceSub, Array.replicate_succ, Array.replicate_zero, List.push_toArray, List.append_toArray, List.nil_append, List.cons_append]
  go_wp2
  rw [HW.out.1, HW.out.2.1, HW.out.2.2]
  clear HW
  refine wp_visits (gf := 42) (bs := #[.pointer (some ⟨g, 0, none⟩)]) rfl (enters_of Try.func42 (by kernel_rfl) rfl) (encs := encP) (fun _ => rfl) HV D1.tidy
    (fun pre c W => Ded1 c2 w g gm b s m b0 b1 (minP x pre) c W) (fun pre c W h => h.reads hg pre) (fun pre c W h => h.tidy) (fun pre c W c' W' h hs hB => h.keep hs) D1
    (fun p => { tmps := #[.pointer (some ⟨g, 0, none⟩), .string k, .int .u64 x, .pointer (some ⟨b0, 0, none⟩), undef, undef, .pointer (some ⟨b1, 0, none⟩), undef, .int .u64 p.2, undef, undef, .int .u64 x, .pointer (some ⟨g, 0, none⟩), .func (.func 42) #[.pointer (some ⟨g, 0, none⟩)] #[], .string p.1, .int .u64 p.2, undef, undef, undef, undef, undef, undef, undef, undef, undef, undef, undef, undef, undef, undef, undef, undef, undef, undef, undef, undef, undef, undef, undef, undef, undef, undef, undef], defers := [] }) ?assign ?body ?done
  case assign =>
    intro l p W K hK
    dsimp only [encP] at hK ⊢
    gi_wp2
    exact hK
  case body =>
    intro l pre p rest c W hxp h hWs
    dsimp only
    obtain ⟨z, hz⟩ : ∃ z, minP x pre = z := ⟨_, rfl⟩
    have y1 := h.x1.cell 0 rfl
    have f1 := h.x1.free 0
    rw [hz] at y1
    have HN := Lib.hid (show ∃ c', Ded1 c2 w g gm b s m b0 b1 (minP x (pre ++ [p])) c' (W.setCell ⟨b1, 0, none⟩ (.int .u64 (min z p.2))) ∧ StepC (fun d => 3 ≤ d) c W c' (W.setCell ⟨b1, 0, none⟩ (.int .u64 (min z p.2))) from by
      have st : StepC (fun d => d = 3) c W c (W.setCell ⟨b1, 0, none⟩ (.int .u64 (min z p.2))) := StepC.set h.tidy h.x1.col _
      rw [minP_snoc, hz]
      exact ⟨c, ⟨st.tidy, h.so.keep st (fun c hc => by omega) (by omega), h.x0.keep st (by omega), box1_put h.x1 _, h.step.trans (st.mono fun c hc => by omega)⟩, st.mono fun c hc => by omega⟩)
    clear h hz hxp
    gi_wp2
    exact HN.out
  case done =>
    intro D c W hD1 hD2 hcD h hK
    dsimp only
    rw [hd] at h
    have hdx : d ≤ x := by rw [← hd]; exact (minP_le m.l x).1
    obtain ⟨e, he⟩ : ∃ e, b + d = e := ⟨_, rfl⟩
    have hwr : IntKind.u64.wrap (b + d) = e := by rw [← he]; exact IntWalk.u64_in _ ⟨by omega, by omega⟩
    have y0 : W.cell? ⟨b0, 0, none⟩ = some (.pointer (some ⟨g, 0, none⟩)) := h.x0.cell 0 rfl
    have y1 : W.cell? ⟨b1, 0, none⟩ = some (.int .u64 d) := h.x1.cell 0 rfl
    have yb := h.so.cb
    have fb := h.so.box.free 1
    have D2 : Ded2 c2 w g gm e s d m b0 b1 D [] c (W.setCell ⟨g, 1, none⟩ (.int .u64 e)).drew := by
      obtain ⟨H4, s4⟩ := h.so.base h.tidy e
      have s5 := s4.trans (StepC.drew s4.tidy)
      exact ⟨s5.tidy, ⟨m, H4.keep (P := fun _ => False) (StepC.drew s4.tidy) (fun _ _ h => h) (fun h => h), MidP.start hg d⟩, h.x0.keep s5 (by omega), h.x1.keep s5 (by omega), hcD, (s5.block D hD2 (by omega)).trans hK, h.step.trans (s5.mono fun c hc => by omega)⟩
    have hDW : D < (W.setCell ⟨g, 1, none⟩ (.int .u64 e)).drew.heap.size := D2.lt
    obtain ⟨W4, hW4⟩ : ∃ W4, (W.setCell ⟨g, 1, none⟩ (.int .u64 e)).drew = W4 := ⟨_, rfl⟩
    rw [hW4] at D2 hDW
    have y4 : W4.cell? ⟨b0, 0, none⟩ = some (.pointer (some ⟨g, 0, none⟩)) := D2.x0.cell 0 rfl
    have HE := Lib.hid he
    have HW := Lib.hid hW4
    clear he hW4 h hK D1
    go_wp2
    go_region
    rw [HW.out]
    clear HW y0 y1 yb fb hwr
    go_wp2
    refine wp_visits (gf := 42) (bs := #[.pointer (some ⟨g, 0, none⟩)]) rfl (enters_of Try.func42 (by kernel_rfl) rfl) (encs := encP) (fun _ => rfl) HV D2.tidy
      (fun pre c W => Ded2 c2 w g gm e s d m b0 b1 D pre c W) (fun pre c W h => h.reads hg) (fun pre c W h => h.tidy) (fun pre c W c' W' h hs hB => h.keep hs (hB.block D hDW)) D2
      (fun p => { tmps := #[.pointer (some ⟨g, 0, none⟩), .string k, .int .u64 x, .pointer (some ⟨b0, 0, none⟩), undef, undef, .pointer (some ⟨b1, 0, none⟩), undef, undef, .string p.1, .int .u64 p.2, .int .u64 x, .pointer (some ⟨g, 0, none⟩), .func (.func 42) #[.pointer (some ⟨g, 0, none⟩)] #[], undef, undef, undef, undef, undef, .pointer (some ⟨g, 0, none⟩), .pointer (some ⟨g, 0, none⟩), .pointer (some ⟨g, 1, none⟩), .int .u64 b, .int .u64 d, .int .u64 e, .pointer (some ⟨g, 0, none⟩), .pointer (some ⟨g, 1, none⟩), .pointer (some ⟨g, 0, none⟩), .func (.func 42) #[.pointer (some ⟨g, 0, none⟩)] #[], .string p.1, .int .u64 p.2, undef, undef, undef, undef, undef, undef, undef, undef, undef, undef, undef, undef], defers := [] }) ?assign2 ?body2 ?done2
    case assign2 =>
      intro l p W K hK
      dsimp only [encP] at hK ⊢
      gi_wp2
      exact hK
    case body2 =>
      intro l pre p rest c W hxp h hWs
      dsimp only
      obtain ⟨mp, hpm⟩ : p ∈ m.l ∧ d ≤ p.2 := ⟨by rw [hxp]; simp, by rw [← hd]; exact (minP_le m.l x).2 p (by rw [hxp]; simp)⟩
      have hp2 := hv p mp
      have hps := hsz p mp
      obtain ⟨q, hq⟩ : ∃ q, p.2 - d = q := ⟨_, rfl⟩
      have hwr : IntKind.u64.wrap (p.2 - d) = q := by rw [← hq]; exact IntWalk.u64_in _ ⟨by omega, by omega⟩
      have y0 : W.cell? ⟨b0, 0, none⟩ = some (.pointer (some ⟨g, 0, none⟩)) := h.x0.cell 0 rfl
      have y1 : W.cell? ⟨b1, 0, none⟩ = some (.int .u64 d) := h.x1.cell 0 rfl
      obtain ⟨m1, H1, M1⟩ := h.so
      have hS := fset_any H1 h.tidy hps q
      have HF := Lib.hid (fun (w5 : World) (c5 : Col) (H5 : SoF c5 w5 g gm e s (setP m1 p.1 q)) (s5 : StepC (fun c => 16 ≤ c) c W c5 w5) => show ∃ c', Ded2 c2 w g gm e s d m b0 b1 D (pre ++ [p]) c' w5 ∧ StepC (fun d => 3 ≤ d) c W c' w5 from by
        have hM := M1.next hg hxp hpm
        rw [hq] at hM
        exact ⟨c5, ⟨s5.tidy, ⟨_, H5, hM⟩, h.x0.keep s5 (by omega), h.x1.keep s5 (by omega), (s5.kept D h.lt).trans h.cD, (s5.block D h.lt (by rw [h.cD]; omega)).trans h.hK, h.step.trans (s5.mono fun c hc => by omega)⟩, s5.mono fun c hc => by omega⟩)
      clear h H1 M1 hq hxp mp hpm hp2 hps y4 D2
      gi_wp2_with (refine ⟨trivial, rfl, ?_⟩; gi_at_call 56; refine (CallsIn.inRound l (callsIn_wide.2 hS)).mono ?_; rintro e2 w5 ⟨⟨u, rfl⟩, c5, H5, s5⟩; have HG := Lib.hid (HF.out w5 c5 H5 s5); clear H5 s5 HF hS)
      exact HG.out
    case done2 =>
      intro E c W hE1 hE2 hcE h hKE
      dsimp only
      obtain ⟨q, hq⟩ : ∃ q, x - d = q := ⟨_, rfl⟩
      have hwr : IntKind.u64.wrap (x - d) = q := by rw [← hq]; exact IntWalk.u64_in _ ⟨by omega, by omega⟩
      have y0 : W.cell? ⟨b0, 0, none⟩ = some (.pointer (some ⟨g, 0, none⟩)) := h.x0.cell 0 rfl
      have y1 : W.cell? ⟨b1, 0, none⟩ = some (.int .u64 d) := h.x1.cell 0 rfl
      obtain ⟨m1, H1, M1⟩ := h.so
      have hS := fset_any H1 h.tidy hs q
      have hED : D < E := by omega
      have HF := Lib.hid (fun (w5 : World) (c5 : Col) (H5 : SoF c5 w5 g gm e s (setP m1 k q)) (s5 : StepC (fun c => 16 ≤ c) c W c5 w5) => show w5.heap[E]? = some (.deferred (some [])) ∧ (w5.putObj E (.deferred none)).heap[D]? = some (.deferred (some [])) ∧ ∃ c3 m', MidP d m m.l m' ∧ SoF c3 ((w5.putObj E (.deferred none)).putObj D (.deferred none)) g gm (b + d) s (setP m' k (x - d)) ∧ StepC (fun c => 2 ≤ c) c2 w c3 ((w5.putObj E (.deferred none)).putObj D (.deferred none)) from by
        have k1 := (s5.block E hE2 (by rw [hcE]; omega)).trans hKE
        have k2 := (s5.block D h.lt (by rw [h.cD]; omega)).trans h.hK
        have t1 : StepC (fun d => d = 2) c5 w5 c5 (w5.putObj E (.deferred none)) := StepC.putObj s5.tidy (l := E) (show c5 E = 2 from (s5.kept E hE2).trans hcE) _
        have t2 : StepC (fun d => d = 2) c5 (w5.putObj E (.deferred none)) c5 ((w5.putObj E (.deferred none)).putObj D (.deferred none)) := StepC.putObj t1.tidy (l := D) (show c5 D = 2 from (s5.kept D h.lt).trans h.cD) _
        rw [HE.out, hq]
        exact ⟨k1, (World.putObj_heap_other (by omega)).trans k2, c5, m1, M1, H5.keep (t1.trans t2) (fun c hc => by omega) (by omega), (h.step.trans (s5.mono fun c hc => by omega)).trans ((t1.trans t2).mono fun c hc => by omega)⟩)
      clear h H1 M1 hq y4 D2 hKE hE1 hE2 hcE HE
      go_wp2_with fail
      refine hS.mono ?_
      rintro e2 w5 ⟨⟨u, rfl⟩, c5, H5, s5⟩
      have HG := Lib.hid (HF.out w5 c5 H5 s5)
      clear H5 s5 HF hS y0 y1
      go_wp2
      refine ⟨by simp, .inl ⟨_, _, rfl, run_takeDeferred HG.out.1, ?_⟩⟩
      refine ⟨by simp, .inl ⟨_, _, rfl, run_takeDeferred HG.out.2.1, ?_⟩⟩
      exact ⟨_, results_none rfl _ _ _, ⟨_, rfl⟩, HG.out.2.2⟩
end
end Go.Proofs.Ytgkokglngpbamaa

/- The program's tables (Misra-Gries): Add. Conditions: none beyond those typed. -/
namespace Go.Proofs.Ytgkokglngpbamaa
open Go.ChangeShapes Go.WideShapes Go.ChangeAt Go.RowKit
set_option linter.unusedVariables false
set_option linter.unusedSimpArgs false
set_option maxRecDepth 100000

section
variable {P : Nat → Prop} {c2 c3 : Col} {w w' : World} {g gm i : Nat} {t : TSt} {s : ByteArray} {z : Int}
set_option maxHeartbeats 4000000 in
theorem fAdd_any (T : SoFT c2 w g t) (ht : Tidy c2 w) (hs : s.size ≤ 281474976710656) (hz : 0 ≤ z ∧ z ≤ 18446744073709551615) :
    Calls Try.prog 13 #[.pointer (some ⟨g, 0, none⟩), .string s, .int .u64 z] w fun e w' => e = .returned (.int .i64 (t.addF s z).1) ∧ DidFT c2 w g (t.addF s z).2 w' := by
  have HD0 := Lib.hid (show DidFT c2 w g t w from ⟨c2, T, StepC.refl ht⟩)
  obtain ⟨gm, m, H, L⟩ := T
  have hS := L.gT.sums
  have hst := L.gT.top
  have hbase0 := L.gT.base0
  by_cases c1 : s.size = 0
  · have hb : s.toList.isEmpty = true := (ba_empty c1).1
    rw [addF_form c1]
    clear H L c1
    go_enter Try.func13, Try.ntmps13
    go_wp2
    go_ret
    exact ⟨rfl, HD0.out⟩
  have hb : s.toList.isEmpty = false := ba_some (by omega)
  by_cases c2' : z = 0
  · have hb2 : (z == 0) = true := beq_iff_eq.2 c2'
    rw [addF_zero c1 c2']
    clear H L c1 c2'
    go_enter Try.func13, Try.ntmps13
    go_wp2
    go_ret
    exact ⟨rfl, HD0.out⟩
  have hb2 : (z == 0) = false := beq_false_of_ne c2'
  have hF := fits_any t.sum z w ⟨by omega, by omega⟩ hz
  have x2 := H.cs
  cases hf : fitsB t.sum z with
  | false =>
    rw [hf] at hF
    rw [addF_over c1 c2' hf]
    clear H L c1 c2'
    go_enter Try.func13, Try.ntmps13
    go_wp2_with fail
    refine hF.mono ?_
    rintro e w1 ⟨rfl, hw⟩
    subst hw
    go_wp2
    go_ret
    exact ⟨rfl, HD0.out⟩
  | true =>
    rw [hf] at hF
    have hfl := fits_le hf
    obtain ⟨y, hy⟩ : ∃ y, t.sum + z = y := ⟨_, rfl⟩
    have hsw : IntKind.u64.wrap (t.sum + z) = y := by rw [← hy]; exact IntWalk.u64_in _ ⟨by omega, by omega⟩
    have f2 := H.box.free 2
    obtain ⟨H1, s1⟩ := H.sum ht y
    have t1 := s1.tidy
    have S1 := s1.mono (P' := fun c => 2 ≤ c) (fun c hc => by omega)
    have hG := getw_any H1.idx t1 s hs
    have x0 := H1.c0
    obtain ⟨W1, hW1⟩ : ∃ W, W = w.setCell ⟨g, 2, none⟩ (.int .u64 y) := ⟨_, rfl⟩
    have x0r := x0
    rw [← hW1] at hG H1 S1 x0 t1
    cases hp : placeE t.l s with
    | some i =>
      obtain ⟨e0, hi, he0, _⟩ := placeE_some hp
      have hgx : getG (0 : Int) m s = (e0.2.1, true) := by unfold getG; rw [(L.some_ hp hi).1]; rfl
      rw [hgx] at hG
      obtain ⟨q1, q2, q3, q4, q5⟩ := L.own c1 c2' hz.1 hf hs hp hi
      have hbd := L.gT.bd (List.mem_of_getElem? hi)
      obtain ⟨o, ho⟩ : ∃ o, e0.2.1 = o := ⟨_, rfl⟩
      rw [ho] at hG q1 q2 hbd
      have hG' : Calls Try.prog 33 #[.pointer (some ⟨gm, 0, none⟩), .string s] W1 fun r w' => r = .returned (.tuple #[.int .u64 o, .bool true]) ∧ Below W1.heap.size W1 w' := hG
      obtain ⟨v, hv⟩ : ∃ v, o + z = v := ⟨_, rfl⟩
      have hwv : IntKind.u64.wrap (o + z) = v := by rw [← hv]; exact IntWalk.u64_in _ ⟨by omega, by omega⟩
      rw [hv] at q1 q2
      rw [hy] at q4
      have HX := Lib.hid (And.intro H1 (And.intro t1 (And.intro S1 (And.intro q1 (And.intro q2 (And.intro q4 q5))))))
      rw [q3]
      clear H H1 L hG hgx s1 t1 q1 q2 q3 q4 q5 hi he0 hp ho hv S1 c1 c2' hf hfl hy
      go_enter Try.func13, Try.ntmps13
      go_wp2_with fail
      refine hF.mono ?_
      rintro e w1 ⟨rfl, hw⟩
      subst hw
      clear hF
      go_wp2_with fail
      rw [← hW1]
      clear hW1 x2 f2 x0r
      refine hG'.mono ?_
      rintro e w2 ⟨rfl, b2⟩
      have H2 := HX.out.1.below HX.out.2.1 b2
      have hP := putw_any H2.idx (HX.out.2.1.size b2.size) s v hs
      rw [HX.out.2.2.2.1] at hP
      have x0' := H2.c0
      have hP' : Calls Try.prog 38 #[.pointer (some ⟨gm, 0, none⟩), .string s, .int .u64 v] w2 fun e w' => e = .returned (.int .i64 0) ∧ DidPM PMw c2 48 w2 gm (m.put s v).2 w' := hP
      have HS := Lib.hid (And.intro H2 b2)
      clear hG' hP H2 b2 x0
      go_wp2_with fail
      refine hP'.mono ?_
      rintro e w3 ⟨rfl, hd⟩
      have HD := Lib.hid (show DidFT c2 w g (t.addF s z).2 w3 from by
        obtain ⟨H1, t1, S1, q1, q2, q4, q5⟩ := HX.out
        obtain ⟨H2, b2⟩ := HS.out
        obtain ⟨c3, H3, s3⟩ := H2.did hd
        rw [← q4, ← q5] at H3
        exact ⟨c3, ⟨gm, _, H3, q2⟩, (S1.trans (StepC.below t1 b2)).trans (s3.mono fun c hc => by omega)⟩)
      clear hP' hd HS HX x0'
      go_wp2
      go_ret
      exact ⟨rfl, HD.out⟩
    | none =>
      have hgx : getG (0 : Int) m s = (0, false) := by unfold getG; rw [L.none_ hp]; rfl
      rw [hgx] at hG
      have hG' : Calls Try.prog 33 #[.pointer (some ⟨gm, 0, none⟩), .string s] W1 fun r w' => r = .returned (.tuple #[.int .u64 0, .bool false]) ∧ Below W1.heap.size W1 w' := hG
      have hwv : IntKind.u64.wrap (0 + z) = z := by rw [Int.zero_add]; exact IntWalk.u64_in _ ⟨by omega, by omega⟩
      have hwv2 : IntKind.u64.wrap z = z := IntWalk.u64_in _ ⟨by omega, by omega⟩
      by_cases hl : t.l.length = t.m
      · have hq := L.noRoom hp hl z
        have hdl := L.least z
        obtain ⟨d, hd⟩ : ∃ d, minO z t.l = d := ⟨_, rfl⟩
        rw [hd] at hdl
        have hd0 : 0 ≤ d := by rw [← hd]; exact minO_nonneg t.l z hz.1 fun e he => Int.le_of_lt (L.gT.pos e he).1
        have hA3 := fun m' h => L.ded (m' := m') c1 (by omega) hf hs hp hl h
        rw [hd] at hA3
        have hbb : t.base + d ≤ 9223372036854775808 := by
          obtain ⟨F1, _⟩ := L.gT.full (by omega) (show 0 < z by omega) hf hp hl
          have h1 := F1.sums.2.1
          have h2 := F1.top
          have h3 : (fullF t s z).base = t.base + minO z t.l := rfl
          rw [hd] at h3
          omega
        have h0 : (t.addF s z).1 = 0 := by rw [addF_full c1 c2' hf hp hl]
        have hDd := fun (c : Col) (W : World) (H : SoF c W g gm t.base y m) (ht : Tidy c W) => fded_any H ht L.gM (fun p hp => L.szL hp) L.few.1 (fun p hp => by have h1 := L.gT.bd (L.memL hp); simp only at h1; omega) hs (x := z) (by omega) (by omega) hdl hd0 hbb
        have HX := Lib.hid (And.intro H1 (And.intro t1 (And.intro S1 (And.intro hA3 hy))))
        rw [h0]
        clear H H1 L hG hgx s1 t1 hp hl S1 c1 c2' hf hfl hA3 hd hdl hd0 hbb h0 hy
        go_enter Try.func13, Try.ntmps13
        go_wp2_with fail
        refine hF.mono ?_
        rintro e w1 ⟨rfl, hw⟩
        subst hw
        clear hF
        go_wp2_with fail
        rw [← hW1]
        clear hW1 x2 f2 x0r
        refine hG'.mono ?_
        rintro e w2 ⟨rfl, b2⟩
        have H2 := HX.out.1.below HX.out.2.1 b2
        have hP := putw_any H2.idx (HX.out.2.1.size b2.size) s z hs
        rw [hq] at hP
        have x0' := H2.c0
        have hP' : Calls Try.prog 38 #[.pointer (some ⟨gm, 0, none⟩), .string s, .int .u64 z] w2 fun e w' => e = .returned (.int .i64 7) ∧ DidPM PMw c2 48 w2 gm m w' := hP
        have HS := Lib.hid (And.intro H2 b2)
        clear hG' hP H2 b2 x0 hq
        go_wp2_with fail
        refine hP'.mono ?_
        rintro e w3 ⟨rfl, hd⟩
        obtain ⟨c3, H3, s3⟩ := HS.out.1.did hd
        have hC := hDd c3 w3 H3 s3.tidy
        have HS3 := Lib.hid (show StepC (fun c => 2 ≤ c) c2 w c3 w3 from (HX.out.2.2.1.trans (StepC.below HX.out.2.1 HS.out.2)).trans (s3.mono fun c hc => by omega))
        clear hP' hd HS x0' H3 s3 hDd
        go_wp2_with fail
        refine hC.mono ?_
        rintro e w4 ⟨⟨u, rfl⟩, c4, m4, M4, H4, s4⟩
        have HD := Lib.hid (show DidFT c2 w g (t.addF s z).2 w4 from by
          obtain ⟨H1, t1, S1, hA3, hy⟩ := HX.out
          obtain ⟨a1, a2, a3, a4⟩ := hA3 m4 M4
          rw [← a4, ← hy, ← a3] at H4
          exact ⟨c4, ⟨gm, _, H4, a1⟩, HS3.out.trans s4⟩)
        clear hC M4 H4 s4 HS3 HX
        go_wp2
        go_ret
        exact ⟨rfl, HD.out⟩
      · obtain ⟨q1, q2, q3, q4, q5⟩ := L.room c1 c2' hz.1 hf hs hp hl
        rw [hy] at q4
        have HX := Lib.hid (And.intro H1 (And.intro t1 (And.intro S1 (And.intro q1 (And.intro q2 (And.intro q4 q5))))))
        rw [q3]
        clear H H1 L hG hgx s1 t1 q1 q2 q3 q4 q5 hp hl S1 c1 c2' hf hfl hy
        go_enter Try.func13, Try.ntmps13
        go_wp2_with fail
        refine hF.mono ?_
        rintro e w1 ⟨rfl, hw⟩
        subst hw
        clear hF
        go_wp2_with fail
        rw [← hW1]
        clear hW1 x2 f2 x0r
        refine hG'.mono ?_
        rintro e w2 ⟨rfl, b2⟩
        have H2 := HX.out.1.below HX.out.2.1 b2
        have hP := putw_any H2.idx (HX.out.2.1.size b2.size) s z hs
        rw [HX.out.2.2.2.1] at hP
        have x0' := H2.c0
        have hP' : Calls Try.prog 38 #[.pointer (some ⟨gm, 0, none⟩), .string s, .int .u64 z] w2 fun e w' => e = .returned (.int .i64 0) ∧ DidPM PMw c2 48 w2 gm (m.put s z).2 w' := hP
        have HS := Lib.hid (And.intro H2 b2)
        clear hG' hP H2 b2 x0
        go_wp2_with fail
        refine hP'.mono ?_
        rintro e w3 ⟨rfl, hd⟩
        have HD := Lib.hid (show DidFT c2 w g (t.addF s z).2 w3 from by
          obtain ⟨H1, t1, S1, q1, q2, q4, q5⟩ := HX.out
          obtain ⟨H2, b2⟩ := HS.out
          obtain ⟨c3, H3, s3⟩ := H2.did hd
          rw [← q4, ← q5] at H3
          exact ⟨c3, ⟨gm, _, H3, q2⟩, (S1.trans (StepC.below t1 b2)).trans (s3.mono fun c hc => by omega)⟩)
        clear hP' hd HS HX x0'
        go_wp2
        go_ret
        exact ⟨rfl, HD.out⟩
end
end Go.Proofs.Ytgkokglngpbamaa
