/- Words laid together in one text. Conditions: none beyond those typed. -/
import Derived.Test.YtgkokglngpbamaaZ18
import Derived.Test.YtgkokglngpbamaaBase
import Derived.Test.YtgkokglngpbamaaBm
/- The program's tables (Misra-Gries): Entries. Conditions: none beyond those typed. -/
namespace Go.Proofs.Ytgkokglngpbamaa
open Go.ChangeShapes Go.WideShapes Go.ChangeAt Go.RowKit
set_option linter.unusedVariables false
set_option linter.unusedSimpArgs false
set_option maxRecDepth 100000
attribute [local go_sem] Oper.semAt_some

/-- The entry of a key in the index. -/
def tellP (b : Int) (p : ByteArray × Int) : En := (p.1, p.2, b)
/-- Amid the loop: the table, the receiver's box, the box of the entries so far. -/
structure EntI (w : World) (g gm : Nat) (b s : Int) (m : MSt Int) (b0 be : Nat) (pre : List (ByteArray × Int)) (c : Col) (W : World) : Prop where
  tidy : Tidy c W
  so : SoF c W g gm b s m
  x0 : BoxC c W b0 0 #[.pointer (some ⟨g, 0, none⟩)] 23
  row : ∃ v, BoxC c W be 3 #[v] 40 ∧ OwnKc kEn c W 4 v (pre.map (tellP b)) ∧ New w v
  below : Below w.heap.size w W
  new : w.heap.size ≤ be
section
variable {P : Nat → Prop} {c2 c3 : Col} {w w' : World} {g gm b0 be : Nat} {b s : Int} {m : MSt Int} {t : TSt} {pre : List (ByteArray × Int)} {c c' : Col} {W W' : World}
theorem EntI.keep (h : EntI w g gm b s m b0 be pre c W) (hs : StepC (fun c => c = 2) c W c' W') (hb : Below w.heap.size W W') : EntI w g gm b s m b0 be pre c' W' := by
  obtain ⟨v, h1, h2, h3⟩ := h.row
  exact ⟨hs.tidy, h.so.keep hs (fun c hc => by omega) (by omega), h.x0.keep hs (by omega), ⟨v, h1.keep hs (by omega), h2.keep hs (by omega), h3⟩, h.below.trans hb, h.new⟩
theorem EntI.reads (h : EntI w g gm b s m b0 be pre c W) (hg : GoodM m) : RdEach g gm m pre c W :=
  ⟨h.tidy, h.so.c0, m, h.so.idx, fun _ => rfl, fun x rest hx => (look_mem hg.srt).2 (by rw [hx]; simp)⟩
/-- One more entry: behind a call that lays new memory alone, and an append. -/
theorem EntI.next {w5 w7 : World} {v v7 : Value} {p : ByteArray × Int} (h : EntI w g gm b s m b0 be pre c W) (hb : Below W.heap.size W w5) (x1 : BoxC c W be 3 #[v] 40) (O : OwnKc kEn c W 4 v (pre.map (tellP b))) (hN : New w v)
    (O7 : OwnK kEn w7 v7 (pre.map (tellP b) ++ [tellP b p])) (G : (w5.alloc (.cells #[.string p.1, .int .u64 p.2, .int .u64 b] 32)).grownBy w7 v.ownBlock) (hat : v7.ownBlock = v.ownBlock ∨ v7.ownBlock = some (w5.alloc (.cells #[.string p.1, .int .u64 p.2, .int .u64 b] 32)).heap.size) :
    w7.cell? ⟨be, 0, none⟩ = some v ∧ w7.frozen? ⟨be, 0, none⟩ = false ∧ ∃ c', EntI w g gm b s m b0 be (pre ++ [p]) c' (w7.setCell ⟨be, 0, none⟩ v7) ∧ StepC (fun d => 3 ≤ d) c W c' (w7.setCell ⟨be, 0, none⟩ v7) := by
  have hb6 := hb.alloc hb.size (.cells #[.string p.1, .int .u64 p.2, .int .u64 b] 32)
  generalize w5.alloc (.cells #[.string p.1, .int .u64 p.2, .int .u64 b] 32) = W6 at *
  have sA : StepC (fun d => d = 4) c W c W6 := StepC.below h.tidy hb6
  have O6 := O.keep (StepC.below (P := fun _ => False) h.tidy hb6) (fun h => h)
  have sB : StepC (fun d => d = 4) c W6 (dye c v7.ownBlock 4) w7 := StepC.app sA.tidy G O6.col rfl hat O7.lt
  have sAB := sA.trans sB
  have x7 := x1.keep sAB (by omega)
  have sC : StepC (fun d => d = 3) (dye c v7.ownBlock 4) w7 (dye c v7.ownBlock 4) (w7.setCell ⟨be, 0, none⟩ v7) := StepC.set sB.tidy x7.col _
  have B6 := below_then h.below hb6
  have B7 := B6.grown G B6.size fun q hq => hN q hq
  refine ⟨x7.cell 0 rfl, x7.free 0, _, ⟨sC.tidy, (h.so.keep sAB (fun c hc => by omega) (by omega)).keep sC (fun c hc => by omega) (by omega), (h.x0.keep sAB (by omega)).keep sC (by omega), ⟨v7, x7.put 0 v7, ?_, New.app hN B6 hat⟩, B7.setCell (p := ⟨be, 0, none⟩) h.new _, h.new⟩, (sAB.mono fun c hc => by omega).trans (sC.mono fun c hc => by omega)⟩
  rw [List.map_append]
  exact (OwnKc.mk' kEn O7).keep sC (by omega)
/-- What lies behind the call, and behind the block of the new entry. -/
theorem entI_lay {w5 : World} {v : Value} (h : EntI w g gm b s m b0 be pre c W) (x1 : BoxC c W be 3 #[v] 40) (hb : Below W.heap.size W w5) (p : ByteArray × Int) :
    w5.cell? ⟨b0, 0, none⟩ = some (.pointer (some ⟨g, 0, none⟩)) ∧ w5.cell? ⟨be, 0, none⟩ = some v ∧ (w5.alloc (.cells #[.string p.1, .int .u64 p.2, .int .u64 b] 32)).cell? ⟨b0, 0, none⟩ = some (.pointer (some ⟨g, 0, none⟩)) ∧ (w5.alloc (.cells #[.string p.1, .int .u64 p.2, .int .u64 b] 32)).cell? ⟨be, 0, none⟩ = some v := by
  have hb6 := hb.alloc hb.size (.cells #[.string p.1, .int .u64 p.2, .int .u64 b] 32)
  have s5 : StepC (fun _ => False) c W c w5 := StepC.below h.tidy hb
  have s6 : StepC (fun _ => False) c W c (w5.alloc (.cells #[.string p.1, .int .u64 p.2, .int .u64 b] 32)) := StepC.below h.tidy hb6
  exact ⟨(h.x0.keep s5 (fun h => h)).cell 0 rfl, (x1.keep s5 (fun h => h)).cell 0 rfl, (h.x0.keep s6 (fun h => h)).cell 0 rfl, (x1.keep s6 (fun h => h)).cell 0 rfl⟩
theorem entI_b0 {w5 w7 : World} {v v7 : Value} {p : ByteArray × Int} (h : EntI w g gm b s m b0 be pre c W) (O : OwnKc kEn c W 4 v (pre.map (tellP b))) (hb : Below W.heap.size W w5)
    (O7 : OwnK kEn w7 v7 (pre.map (tellP b) ++ [tellP b p])) (G : (w5.alloc (.cells #[.string p.1, .int .u64 p.2, .int .u64 b] 32)).grownBy w7 v.ownBlock) (hat : v7.ownBlock = v.ownBlock ∨ v7.ownBlock = some (w5.alloc (.cells #[.string p.1, .int .u64 p.2, .int .u64 b] 32)).heap.size) : w7.cell? ⟨b0, 0, none⟩ = some (.pointer (some ⟨g, 0, none⟩)) := by
  have hb6 := hb.alloc hb.size (.cells #[.string p.1, .int .u64 p.2, .int .u64 b] 32)
  generalize w5.alloc (.cells #[.string p.1, .int .u64 p.2, .int .u64 b] 32) = W6 at *
  have sA : StepC (fun d => d = 4) c W c W6 := StepC.below h.tidy hb6
  have O6 := O.keep (StepC.below (P := fun _ => False) h.tidy hb6) (fun h => h)
  have sB : StepC (fun d => d = 4) c W6 (dye c v7.ownBlock 4) w7 := StepC.app sA.tidy G O6.col rfl hat O7.lt
  exact (h.x0.keep (sA.trans sB) (by omega)).cell 0 rfl
set_option maxHeartbeats 4000000 in
theorem fEntries_any (T : SoFT c2 w g t) (ht : Tidy c2 w) : Calls Try.prog 17 #[.pointer (some ⟨g, 0, none⟩)] w (RowOut kEn w (sortE (t.l.map t.tellF))) := by
  obtain ⟨gm, m, H, L⟩ := T
  have hso := L.sorted
  obtain ⟨b, hb⟩ : ∃ b, t.base = b := ⟨_, rfl⟩
  have hg := L.gM
  have hfew := L.few.1
  have hszL := fun (p : ByteArray × Int) (hp : p ∈ m.l) => L.szL hp
  rw [hso, hb]
  rw [hb] at H
  have HV := @each_visits g gm m hszL hfew
  obtain ⟨s, hs⟩ : ∃ s, t.sum = s := ⟨_, rfl⟩
  rw [hs] at H
  have S0 : StepC (fun _ => False) c2 w c2 (w.alloc (.cells #[.pointer (some ⟨g, 0, none⟩)] 23)) := StepC.alloc ht _
  have B0 : Below w.heap.size w (w.alloc (.cells #[.pointer (some ⟨g, 0, none⟩)] 23)) := (Below.refl _ _).alloc (Nat.le_refl _) _
  have X0 : BoxC c2 (w.alloc (.cells #[.pointer (some ⟨g, 0, none⟩)] 23)) w.heap.size 0 #[.pointer (some ⟨g, 0, none⟩)] 23 := ⟨heap_alloc_new w _, ht _ (Nat.le_refl _)⟩
  have H0 := H.keep S0 (fun _ _ h => h) (fun h => h)
  have hLn := fLen_any H0
  obtain ⟨N, hN⟩ : ∃ N, m.l.length = N := ⟨_, rfl⟩
  rw [hN] at hLn hfew
  obtain ⟨CS, hmk, hOw⟩ := make0_any kEn (n := N) (by omega)
  have hmk' : ∀ W : World, (Instr.makeSlice 40 (.int .i64 0) (.int .i64 (N : Int))).run Try.prog W = .ok (.slice (some ⟨W.heap.size, 0, none⟩) 0 N) (W.alloc (.cells CS 32)) := hmk
  have y0 := X0.cell 0 rfl
  have y0' : (w.alloc (.cells #[.pointer (some ⟨g, 0, none⟩)] 23)).cell? ⟨w.heap.size, 0, none⟩ = some (.pointer (some ⟨g, 0, none⟩)) := y0
  have t0 := S0.tidy
  obtain ⟨b0, hb0⟩ : ∃ b0, w.heap.size = b0 := ⟨_, rfl⟩
  obtain ⟨W1, hW1⟩ : ∃ W1, W1 = w.alloc (.cells #[.pointer (some ⟨g, 0, none⟩)] 23) := ⟨_, rfl⟩
  rw [← hW1] at X0 H0 hLn t0 B0
  rw [hb0] at X0
  have HS := Lib.hid (And.intro X0 (And.intro H0 (And.intro t0 (And.intro B0 hOw))))
  have HW := Lib.hid hW1
  have HB := Lib.hid hb0
  clear S0 X0 H0 H hso hb hs L y0 t0 B0 hmk hOw hW1 hb0 hszL
  refine calls_of_marks Try.func17 rfl ?_
  simp only [Try.ntmps17, List.size_toArray, List.length_cons, List.length_nil, Nat.reduceAdd, Nat.reduceSub, Array.replicate_succ, Array.replicate_zero, List.push_toArray, List.append_toArray, List.nil_append, List.cons_append]
  go_wp2_with fail
  rw [← HW.out, HB.out]
  clear y0'
  refine hLn.mono ?_
  rintro e w2 ⟨rfl, b2⟩
  clear hLn
  have E4 : EntI w g gm b s m b0 (w2.heap.size + 1) [] (dye (dye c2 (some w2.heap.size) 4) (some (w2.heap.size + 1)) 3) ((w2.alloc (.cells CS 32)).alloc (.cells #[.slice (some ⟨w2.heap.size, 0, none⟩) 0 N] 40)) := by
    obtain ⟨X0, H0, t0, B0, hOw⟩ := HS.out
    have s2 : StepC (fun _ => False) c2 W1 c2 w2 := StepC.below t0 b2
    have s3 := StepC.new s2.tidy (.cells CS 32) 4 (fun _ => False)
    have s4 := StepC.new s3.tidy (.cells #[.slice (some ⟨w2.heap.size, 0, none⟩) 0 N] 40) 3 (fun _ => False)
    have hz : (w2.alloc (.cells CS 32)).heap.size = w2.heap.size + 1 := by simp
    have hn := heap_alloc_new (w2.alloc (.cells CS 32)) (.cells #[.slice (some ⟨w2.heap.size, 0, none⟩) 0 N] 40)
    rw [hz] at s4 hn
    have sA := (s2.trans s3).trans s4
    have O3 : OwnKc kEn (dye c2 (some w2.heap.size) 4) (w2.alloc (.cells CS 32)) 4 (.slice (some ⟨w2.heap.size, 0, none⟩) 0 N) [] := ⟨hOw w2, HasCol.dye (.slice (some ⟨w2.heap.size, 0, none⟩) 0 N) 4⟩
    have B2 := below_then B0 b2
    exact ⟨sA.tidy, H0.keep sA (fun _ _ h => h) (fun h => h), X0.keep sA (fun h => h), ⟨_, ⟨hn, dye_of⟩, O3.keep s4 (fun h => h), New.lit B2.size⟩, (B2.alloc B2.size _).alloc (B2.alloc B2.size _).size _, Nat.le_succ_of_le B2.size⟩
  have y4 := E4.x0.cell 0 rfl
  have y4' : ((w2.alloc (.cells CS 32)).alloc (.cells #[.slice (some ⟨w2.heap.size, 0, none⟩) 0 N] 40)).cell? ⟨b0, 0, none⟩ = some (.pointer (some ⟨g, 0, none⟩)) := y4
  obtain ⟨ga, hga⟩ : ∃ ga, w2.heap.size = ga := ⟨_, rfl⟩
  obtain ⟨be, hbe⟩ : ∃ be, w2.heap.size + 1 = be := ⟨_, rfl⟩
  obtain ⟨W4, hW4⟩ : ∃ W4, (w2.alloc (.cells CS 32)).alloc (.cells #[.slice (some ⟨w2.heap.size, 0, none⟩) 0 N] 40) = W4 := ⟨_, rfl⟩
  rw [hW4, hbe] at E4
  have HW4 := Lib.hid hW4
  have HG := Lib.hid (And.intro hbe hga)
  clear HS HW HB b2 y4 hW4 hga hbe
  go_wp2
  rw [HW4.out, HG.out.1, HG.out.2]
  clear HW4 HG y4' hmk'
  refine wp_visits (gf := 42) (bs := #[.pointer (some ⟨g, 0, none⟩)]) rfl (enters_of Try.func42 (by kernel_rfl) rfl) (encs := encP) (fun _ => rfl) HV E4.tidy
    (fun pre c W => EntI w g gm b s m b0 be pre c W) (fun pre c W h => h.reads hg) (fun pre c W h => h.tidy) (fun pre c W c' W' h hs hB => h.keep hs (hB.mono E4.below.size)) E4
    (fun p => { tmps := #[.pointer (some ⟨g, 0, none⟩), .pointer (some ⟨b0, 0, none⟩), .slice none 0 0, .pointer (some ⟨be, 0, none⟩), .string p.1, .int .u64 p.2, .pointer (some ⟨g, 0, none⟩), .bool false, .pointer (some ⟨g, 0, none⟩), .int .i64 (N : Int), .slice (some ⟨ga, 0, none⟩) 0 N, .pointer (some ⟨g, 0, none⟩), .func (.func 42) #[.pointer (some ⟨g, 0, none⟩)] #[], .string p.1, .int .u64 p.2, undef, undef, undef, undef, undef, undef, undef, undef], defers := [] }) ?assign ?body ?done
  case assign =>
    intro l p W K hK
    dsimp only [encP] at hK ⊢
    gi_wp2
    exact hK
  case body =>
    intro l pre p rest c W hxp h hWs
    try dsimp only
    have hmx : Try.prog.follows .mixedOrders = true := by kernel_rfl
    obtain ⟨v, x1, O, hNw⟩ := h.row
    have hlo : (pre.map (tellP b)).length = pre.length := List.length_map ..
    obtain ⟨Ao, co, hv, _, _⟩ := O.own.form hlo
    have hpl : pre.length + 1 ≤ 1000000000 := by
      have h1 : m.l.length = pre.length + (rest.length + 1) := by rw [hxp, List.length_append, List.length_cons]
      omega
    have bd := (Below.refl W.heap.size W).drew
    have y0 : W.drew.cell? ⟨b0, 0, none⟩ = some (.pointer (some ⟨g, 0, none⟩)) := h.x0.cell 0 rfl
    have y1 : W.drew.cell? ⟨be, 0, none⟩ = some v := x1.cell 0 rfl
    have hEn := fentry_any (w := W.drew) (h.so.box.cell 1 rfl) p.1 p.2
    have hEn' : Calls Try.prog 34 #[.pointer (some ⟨g, 0, none⟩), .string p.1, .int .u64 p.2] W.drew fun e w' => e = .returned (.agg #[.string p.1, .int .u64 p.2, .int .u64 b]) ∧ Below W.drew.heap.size W.drew w' := hEn
    have HH := Lib.hid (And.intro h (And.intro x1 (And.intro O (And.intro hNw bd))))
    have HL := Lib.hid (show (pre.map (tellP b)).length + 1 ≤ 1000000000 by rw [hlo]; exact hpl)
    clear h x1 O hNw bd hEn hxp hlo hpl
    subst hv
    refine wpIn_block ?_
    refine wpIn_round_late (fun w' => w'.cell? ⟨b0, 0, none⟩ = some (.pointer (some ⟨g, 0, none⟩)) ∧ w'.cell? ⟨be, 0, none⟩ = some (.slice Ao pre.length co)) (fun j => [2, 3, 7].contains j) hmx (by kernel_rfl) (by rintro ⟨_, _, h⟩; cases h.1) ?_
    intro u0 hu0
    have hS : (fun w' : World => w'.cell? ⟨b0, 0, none⟩ = some (.pointer (some ⟨g, 0, none⟩)) ∧ w'.cell? ⟨be, 0, none⟩ = some (.slice Ao pre.length co)) u0 := by rw [← hu0]; exact ⟨y0, y1⟩
    rw [hu0] at hEn' HH
    have hS1 := hS.1
    have hS2 := hS.2
    clear y0 y1 hu0
    refine wpAnyL_takeY 2 _ (.string p.1) rfl (by kernel_rfl) (by kernel_rfl) (by kernel_rfl) (by kernel_rfl) (fun _ _ _ h => h) (Or.inl ⟨by rfl, ?_⟩) ?_
    · intro w'; go_simp
    simp only [Act.put, List.setIfInBounds_toArray, List.set_cons_zero, List.set_cons_succ]
    refine wpAnyL_takeY 3 _ (.int .u64 p.2) rfl (by kernel_rfl) (by kernel_rfl) (by kernel_rfl) (by kernel_rfl) (fun _ _ _ h => h) (Or.inl ⟨by rfl, ?_⟩) ?_
    · intro w'; go_simp
    simp only [Act.put, List.setIfInBounds_toArray, List.set_cons_zero, List.set_cons_succ]
    refine wpAnyL_take 0 _ (.slice Ao pre.length co) rfl (by kernel_rfl) (by kernel_rfl) (by kernel_rfl) (by kernel_rfl) (fun _ _ _ h => h) (Or.inl ⟨by rfl, ?_⟩) hS ?_
    · rintro w' ⟨h0, h1⟩; go_simp
    simp only [Act.put, List.setIfInBounds_toArray, List.set_cons_zero, List.set_cons_succ]
    refine wpAnyL_take 1 _ (.pointer (some ⟨g, 0, none⟩)) rfl (by kernel_rfl) (by kernel_rfl) (by kernel_rfl) (by kernel_rfl) (fun _ _ _ h => h) (Or.inl ⟨by rfl, ?_⟩) hS ?_
    · rintro w' ⟨h0, h1⟩; go_simp
    simp only [Act.put, List.setIfInBounds_toArray, List.set_cons_zero, List.set_cons_succ]
    clear hS
    refine wpAnyL_all [4] (by kernel_rfl) (by simp) ?_
    refine lateCons ?_ lateNil
    refine wpOpL_step _ rfl (fun K' hK => ?_)
    go_simp
    refine hEn'.mono ?_
    rintro e w5 ⟨rfl, b5⟩
    have HQ := entI_lay HH.out.1 HH.out.2.1 (below_then HH.out.2.2.2.2 b5) p
    obtain ⟨k0, k1, k2, k3⟩ := HQ
    try dsimp only
    refine hK.out _ _ (fun _ => ⟨k0, k1⟩) ?_
    clear hK K' hS1 hS2 hEn'
    try simp only [Act.put, List.setIfInBounds_toArray, List.set_cons_zero, List.set_cons_succ]
    refine wpAnyL_all [5] (by kernel_rfl) (by simp) ?_
    refine lateCons ?_ lateNil
    refine wpOpL_step _ rfl (fun K' hK => ?_)
    go_simp
    refine hK.out _ _ (fun _ => ⟨k2, k3⟩) ?_
    clear hK K' k0 k1
    try simp only [Act.put, List.setIfInBounds_toArray, List.set_cons_zero, List.set_cons_succ]
    refine wpAnyL_all [6] (by kernel_rfl) (by simp) ?_
    refine lateCons ?_ lateNil
    refine wpOpL_step _ rfl (fun K' hK => ?_)
    refine step_appG kEn rfl (.tmp 15) (.tmp 20) rfl (.slice Ao pre.length co) (pre.map (tellP b)) rfl (some ⟨w5.heap.size, 0, none⟩) 1 1 [tellP b p] rfl ((HH.out.2.2.1.own.below (below_then HH.out.2.2.2.2 b5)).alloc _) (RdG.one2 kEn (tellP b p) rfl rfl rfl) HL.out ?_
    intro v7 w7 O7 G7 hat
    obtain ⟨A7, c7, rfl, _, _⟩ := O7.form (n := pre.length + 1) (by simp)
    obtain ⟨q1, q2, q3⟩ := HH.out.1.next (below_then HH.out.2.2.2.2 b5) HH.out.2.1 HH.out.2.2.1 HH.out.2.2.2.1 O7 G7 hat
    have HN := Lib.hid q3
    have q0 := entI_b0 HH.out.1 HH.out.2.2.1 (below_then HH.out.2.2.2.2 b5) O7 G7 hat
    refine hK.out _ _ (fun _ => ⟨q0, q1⟩) ?_
    clear hK K' k2 k3 O7 G7 hat q3 b5
    try simp only [Act.put, List.setIfInBounds_toArray, List.set_cons_zero, List.set_cons_succ]
    refine wpAnyL_all [7] (by kernel_rfl) (by simp) ?_
    refine lateCons ?_ lateNil
    refine wpOpL_step _ rfl (fun K' hK => ?_)
    go_simp
    refine hK.out _ _ (fun h => absurd h (by decide)) ?_
    clear hK K'
    try simp only [Act.put, List.setIfInBounds_toArray, List.set_cons_zero, List.set_cons_succ]
    refine wpAnyL_done (by kernel_rfl) ?_ _
    exact ⟨rfl, HN.out⟩
  case done =>
    intro D c W hD1 hD2 hcD h hK
    try dsimp only
    obtain ⟨v, x1, O, hNw⟩ := h.row
    have hml : (m.l.map (tellP b)).length = N := by rw [List.length_map, hN]
    have sD : StepC (fun d => d = 2) c W c (W.putObj D (.deferred none)) := StepC.putObj h.tidy (l := D) (show c D = 2 from hcD) _
    have O2 := O.keep sD (by omega)
    have BD : Below w.heap.size w (W.putObj D (.deferred none)) := h.below.trans (below_put _ (Nat.le_trans E4.below.size hD1))
    obtain ⟨Ao, co, hv, hR, hform⟩ := O2.own.form hml
    have hAo : ∀ b o sp, Ao = some ⟨b, o, sp⟩ → w.heap.size ≤ b := fun b o sp hb => by
      rcases hform with ⟨h1, _, _⟩ | ⟨g', h1, _⟩
      · rw [h1] at hb; cases hb
      · subst h1
        injection hb with hb; injection hb with hb _; subst hb
        exact hNw g' (by rw [hv]; rfl)
    have y1 := x1.cell 0 rfl
    have y1' : W.cell? ⟨be, 0, none⟩ = some (.slice Ao N co) := by rw [← hv]; exact y1
    have HR := Lib.hid (And.intro hR (And.intro hAo BD))
    clear x1 O hNw sD O2 BD hR hform hAo y1 hv h
    go_wp2
    refine ⟨by simp, .inl ⟨_, _, rfl, run_takeDeferred hK, ?_⟩⟩
    exact ⟨_, results_tmp rfl _ _ _, Ao, N, co, hml, rfl, HR.out.1, HR.out.2.1, HR.out.2.2⟩
end
end Go.Proofs.Ytgkokglngpbamaa

/- The program's tables (Misra-Gries) keep all their contracts. Conditions: none beyond those typed. -/
namespace Go.Proofs.Ytgkokglngpbamaa
open Go.ChangeShapes Go.WideShapes Go.ChangeAt Go.RowKit
set_option linter.unusedVariables false
set_option linter.unusedSimpArgs false
set_option maxRecDepth 100000

theorem progF : ProgF PTf where
  keep := PTf.keep
  good := PTf.good
  new := fun ht hk n hn => fNew_any ht hk n hn
  add := fun h ht s x hs hx => by
    obtain ⟨hk, c2, F, t2, S⟩ := h
    exact (fAdd_any S t2 hs hx).mono fun e w' h => ⟨h.1, h.2.out F hk ht⟩
  get := fun h ht s hs => by
    obtain ⟨hk, c2, F, t2, gm, m, S, L⟩ := h
    exact fGet_any S L t2 hs
  take := fun h ht s hs => by
    obtain ⟨hk, c2, F, t2, S⟩ := h
    exact (fTake_any S t2 hs).mono fun e w' h => ⟨h.1, h.2.out F hk ht⟩
  untr := fun h ht => by
    obtain ⟨hk, c2, F, t2, gm, m, S, L⟩ := h
    refine (fUntr_any S).mono ?_
    rintro e w' ⟨he, rfl⟩
    exact ⟨he, Below.refl _ _⟩
  total := fun h ht => by
    obtain ⟨hk, c2, F, t2, gm, m, S, L⟩ := h
    exact fTotal_any S
  swap := fun h ht s e hs he h1 h2 => by
    obtain ⟨hk, c2, F, t2, S⟩ := h
    exact (fSwap_any S t2 hs he h1 h2).mono fun e w' h => ⟨h.1, h.2.out F hk ht⟩
  len := fun h ht => by
    obtain ⟨hk, c2, F, t2, gm, m, S, L⟩ := h
    have := fLen_any S
    rw [L.len] at this
    exact this
  entries := fun h ht => by
    obtain ⟨hk, c2, F, t2, S⟩ := h
    exact fEntries_any S t2
theorem fUntr_same {col : Col} {w : World} {k g : Nat} {t : TSt} (h : PTf col k w g t) : Calls Try.prog 14 #[.pointer (some ⟨g, 0, none⟩)] w fun e w' => e = .returned (.int .u64 t.base) ∧ w' = w := by
  obtain ⟨hk, c2, F, t2, gm, m, S, L⟩ := h
  exact fUntr_any S
end Go.Proofs.Ytgkokglngpbamaa

/- Slices of numbers of 16 bits that came in. Conditions: none beyond those typed. -/
namespace Go.Proofs.Ytgkokglngpbamaa
open Go.ChangeShapes Go.WideShapes Go.ChangeAt Go.RowKit
set_option linter.unusedVariables false
set_option linter.unusedSimpArgs false
set_option maxRecDepth 100000

/-- The slice reads as these numbers of 16 bits. -/
def Rd16 (w : World) (A : Option Addr) (n c : Nat) (l : List Int) : Prop :=
  l.length = n ∧ n ≤ c ∧ c ≤ maxLen ∧ (∀ z ∈ l, 0 ≤ z ∧ z ≤ 65535) ∧ ∀ j z, l[j]? = some z → ∃ b o, A = some ⟨b, o, none⟩ ∧ w.cell? ⟨b, o + j, none⟩ = some (.int .u16 z)
section
variable {w w' : World} {A : Option Addr} {n c j : Nat} {l : List Int}
theorem Rd16.len (h : Rd16 w A n c l) : l.length = n := h.1
theorem Rd16.cap (h : Rd16 w A n c l) : n ≤ c := h.2.1
theorem Rd16.max (h : Rd16 w A n c l) : c ≤ 9223372036854775807 := h.2.2.1
theorem Rd16.at_ (h : Rd16 w A n c l) (hj : j < n) : ∃ b o z, A = some ⟨b, o, none⟩ ∧ l[j]? = some z ∧ 0 ≤ z ∧ z ≤ 65535 ∧ w.cell? ⟨b, o + j, none⟩ = some (.int .u16 z) := by
  have hl : j < l.length := by rw [h.1]; exact hj
  have hg := List.getElem?_eq_getElem hl
  obtain ⟨b, o, hA, hc⟩ := h.2.2.2.2 j _ hg
  obtain ⟨h0, h1⟩ := h.2.2.2.1 _ (List.getElem_mem hl)
  exact ⟨b, o, _, hA, hg, h0, h1, hc⟩
theorem Rd16.below (h : Rd16 w A n c l) (hb : Below w.heap.size w w') : Rd16 w' A n c l := by
  refine ⟨h.1, h.2.1, h.2.2.1, h.2.2.2.1, fun j z hz => ?_⟩
  obtain ⟨b, o, hA, hc⟩ := h.2.2.2.2 j z hz
  exact ⟨b, o, hA, (hb.cell (World.block_lt_of_cell? _ _ hc)).trans hc⟩
end
/-- What a law is told of such a slice. -/
def Arg16 (W : World) (A : Option Addr) (n c : Nat) : Prop := ∃ l, Rd16 W A n c l
theorem Arg16.none (W : World) : Arg16 W none 0 0 := ⟨[], rfl, Nat.le_refl _, by simp [maxLen], fun z hz => by simp at hz, fun j z h => by simp at h⟩
theorem Arg16.some {W : World} {x : Addr} {len cap : Nat} {zs : List Int} (hl : len ≤ cap) (hm : cap ≤ maxLen) (hz : zs.length = cap)
    (hcell : ∀ i, i < zs.length → W.cell? (x.add i) = Option.some (.int .u16 (zs.getD i 0))) (hw : ∀ n ∈ zs, (Lit.int .u16 n).wf = true) : Arg16 W (Option.some x) len cap := by
  refine ⟨zs.take len, by rw [List.length_take]; omega, hl, hm, fun z h => bounds_u16 (hw z (List.mem_of_mem_take h)), fun j z h => ?_⟩
  rw [List.getElem?_take] at h
  split at h
  · rename_i hj
    have hjl : j < zs.length := (List.getElem?_eq_some_iff.1 h).1
    obtain ⟨b, off, rfl, hc⟩ := ints_at hcell (by omega)
    refine ⟨b, off, rfl, ?_⟩
    rw [hc j hjl, List.getD_eq_getElem?_getD, h]
    rfl
  · cases h
end Go.Proofs.Ytgkokglngpbamaa
