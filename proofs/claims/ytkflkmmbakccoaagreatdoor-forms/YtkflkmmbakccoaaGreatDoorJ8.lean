/- PARTS: W15, Hp2, W18, W15b, W19, Mod5. -/
import Derived.Test.YtkflkmmbakccoaaGreatDoorJ6
import Derived.Test.YtkflkmmbakccoaaGreatDoorJ2
import Derived.Test.YtkflkmmbakccoaaGreatDoorJ7

/- WALKS: package parse: named. -/
namespace Go.Proofs.YtkflkmmbakccoaaGreatDoor
open Go.RowKit Go.Maps

theorem PInv.anchor {E : Env} {t : PS} {nv : Value} {rows : List Row} {w : World} (h : PInv E t nv rows w) (ha : t.anchors < 100) :
    PInv E { t with anchors := t.anchors + 1 } nv rows (w.setCell ⟨E.g, 1, none⟩ (.int .i64 ((t.anchors : Int) + 1))) := by
  have hb : But [E.g] w (w.setCell ⟨E.g, 1, none⟩ (.int .i64 ((t.anchors : Int) + 1))) := (But.refl _ _).setCell (by simp) _
  have hn : ∀ x ∈ E.p :: E.m :: (own nv ++ pub rows), x ∉ [E.g] := fun x hx hs => h.g_not (by have := List.mem_singleton.1 hs; exact this ▸ hx)
  refine ⟨hb.blk h.par (hn _ (by simp)), by have := h.gr.set 1 (.int .i64 ((t.anchors : Int) + 1)); simpa using this, ownsRow_but h.nodes hb (fun x hx => hn x (by simp [hx])), h.same, fun r hr => (h.rows r hr).but hb (fun x hx => hn x ?_), ?_,
    ⟨h.wf.k, h.wf.nodes, by simp; omega, by have := h.wf.names; simp; omega, h.wf.named, h.wf.heavy, h.wf.high⟩, Nat.le_trans h.base hb.size⟩
  · simp only [List.mem_cons, List.mem_append, pub, List.mem_flatMap]
    exact .inr (.inr (.inr ⟨r, hr, hx⟩))
  · obtain ⟨D, h1, h2⟩ := h.map
    exact ⟨D, ownsMap_but h1 hb (hn _ (by simp)), h2⟩

/-- Blocks that are none of the reading's stay so, and as they are. -/
theorem spect {E : Env} {nv nv1 : Value} {rows rows1 : List Row} {w w1 : World} (hb : But (E.p :: E.g :: E.m :: own nv) w w1) (ho : ∀ x ∈ own nv1, x ∈ own nv ∨ w.heap.size ≤ x) (hp : ∀ x ∈ pub rows1, x ∈ pub rows ∨ w.heap.size ≤ x) {x : Nat} (hx : x < w.heap.size) (hf : x ∉ foot E nv rows) :
    x ∉ foot E nv1 rows1 ∧ w1.heap[x]? = w.heap[x]? := by
  simp only [foot, List.mem_cons, List.mem_append, not_or] at hf
  obtain ⟨a, b, c, d, e⟩ := hf
  refine ⟨fun hy => ?_, hb.block x hx (by simp [a, b, c, d])⟩
  simp only [foot, List.mem_cons, List.mem_append] at hy
  rcases hy with hy | hy | hy | hy | hy
  · exact a hy
  · exact b hy
  · exact c hy
  · rcases ho x hy with h1 | h1
    · exact d h1
    · omega
  · rcases hp x hy with h1 | h1
    · exact e h1
    · omega

set_option maxHeartbeats 1000000 in
theorem named_flow (E : Env) (hE : EnvOk E) (t : PS) (nv : Value) (rows : List Row) (w : World) (h : PInv E t nv rows w) (hk : t.k < E.s.size) (lv : Int) (h0 : 0 ≤ lv) (c1 c2 : Nat) (rest : Nat → PS → Res Unit) (C : List Nat)
    (hC : ∀ x ∈ C, x < w.heap.size ∧ x ∉ foot E nv rows) (hval : ∀ id, ValOk E.s E.B id lv (rest id))
    (hrest : ∀ (id : Nat) t' nv' rows' w', PInv E t' nv' rows' w' → id < rows'.length → lv ≤ E.B.depth → (∀ x ∈ C, x ∉ foot E nv' rows' ∧ w'.heap[x]? = w.heap[x]?) → Calls Tryz.prog 117 #[.int .i64 (id : Int), bp c1, bp c2] w' fun e w'' => PostB E nv' rows' w' (rest id t') e w'') :
    Calls Tryz.prog 116 #[pp E, .int .i64 lv, .func (.func 117) #[] #[bp c1, bp c2]] w fun e w' => PostN E nv rows w (namedM E.s E.B lv rest t) e w' := by
  have hs := hE.s
  have hA := hE.a
  go_enter Tryz.func116, Tryz.ntmps116
  go_wp2_with fail
  refine (begin_any E hE t nv rows w h lv).mono ?_
  rintro e w1 ⟨z, hp⟩
  cases hm : beginM E.B lv t with
  | bad er pl =>
    rw [hm] at hp
    obtain ⟨rfl, hbad⟩ := hp
    have HM : Hid (namedM E.s E.B lv rest t = .bad er pl) := by unfold Hid namedM; rw [hm]; rfl
    clear hm
    go_wp2_with fail
    go_ret2
    rw [HM.out]
    exact ⟨0, rfl, hbad⟩
  | ok id t1 =>
    rw [hm] at hp
    obtain ⟨rfl, nv1, rows1, hI1, hb1, ho1, hq1⟩ := hp
    obtain ⟨hlv, hide, hte, hz, hid, s1⟩ := beginM_ok hE.n h.wf hm
    have hk1 : t1.k = t.k := by rw [hte]
    have HK1 : Hid _ := hk1
    have hM1 : namedM E.s E.B lv rest t = if E.B.anchors ≤ (t1.anchors : Int) then .bad 6 t1.k else (wordM E.s { t1 with anchors := t1.anchors + 1, k := t1.k + 1 }).bind fun x t2 => (rest id t2).bind fun _ t3 => .ok id { t3 with names := (x, id) :: t3.names } := by unfold namedM; rw [hm]; rfl
    have HM1 : Hid _ := hM1
    have hanb := hI1.wf.anchors
    clear hM1 hm hk1 hide hte
    have c6 : w1.cell? ⟨E.p, 6, none⟩ = some (.pointer (some ⟨E.g, 0, none⟩)) := hI1.par.cell rfl
    have c4 : w1.cell? ⟨E.p, 4, none⟩ = some (.int .i64 E.B.anchors) := hI1.par.cell rfl
    have g1 : w1.cell? ⟨E.g, 1, none⟩ = some (.int .i64 (t1.anchors : Int)) := hI1.gr.cell rfl
    have fg1 : w1.frozen? ⟨E.g, 1, none⟩ = false := hI1.gr.free 1
    by_cases han : E.B.anchors ≤ (t1.anchors : Int)
    · have HM : Hid _ := HM1.out.trans (if_pos han)
      go_wp2_with fail
      go_quiet (fail)
      go_wp2_with fail
      refine (pplace_any E t1 _ rows1 _ (hI1.frame ((But.refl [] _).drewN _) (by simp))).mono ?_
      rintro e w2 ⟨rfl, rfl⟩
      go_wp2_with fail
      refine (fail_any E t1 _ rows1 _ (hI1.frame ((But.refl [] _).drewN _) (by simp)) 6 t1.k).mono ?_
      rintro e w3 ⟨rfl, hb3⟩
      go_wp2_with fail
      go_ret2
      rw [HM.out]
      exact ⟨0, rfl, Bad.trans (hb1.drewN _) ho1 hb3⟩
    · have HM2 : Hid _ := HM1.out.trans (if_neg han)
      clear HM1
      go_wp2_with fail
      go_quiet (fail)
      go_wp2_with fail
      have hI2 := (hI1.anchor (by omega)).frame ((But.refl [] _).drewN nq) (by simp)
      have hb2 : But (E.p :: E.g :: E.m :: own nv) w ((w1.setCell ⟨E.g, 1, none⟩ (.int .i64 ((t1.anchors : Int) + 1))).drewN nq) := (hb1.setCell (by simp) _).drewN nq
      refine (pskip_any E hE _ nv1 rows1 _ hI2 (by simp only; rw [HK1.out]; exact hk)).mono ?_
      rintro e w3 ⟨rfl, hI3, hb3⟩
      have hb3' : But (E.p :: E.g :: E.m :: own nv) w w3 := hb2.trans hb3 (by simp)
      clear c6 c4 g1 fg1 hb1 hb2 hb3 hI1 hI2
      go_wp2_with fail
      refine (pword_any E hE _ nv1 rows1 w3 hI3).mono ?_
      intro e w4 hp4
      cases hm : wordM E.s { t1 with anchors := t1.anchors + 1, k := t1.k + 1 } with
      | bad er pl =>
        rw [hm] at hp4
        obtain ⟨rfl, hbad⟩ := hp4
        have HM : Hid (namedM E.s E.B lv rest t = .bad er pl) := by unfold Hid; rw [HM2.out, hm]; rfl
        clear hm
        go_wp2_with fail
        go_ret2
        rw [HM.out]
        exact ⟨0, rfl, Bad.trans hb3' ho1 hbad⟩
      | ok x t2 =>
        rw [hm] at hp4
        obtain ⟨rfl, nv4, rows4, hI4, hb4, ho4, hq4⟩ := hp4
        have hxs := wordM_size hm (rdAny_size E.s)
        have s2 := wordM_ok hI3.wf hm
        have HM3 : Hid (namedM E.s E.B lv rest t = (rest id t2).bind fun _ t3 => .ok id { t3 with names := (x, id) :: t3.names }) := by unfold Hid; rw [HM2.out, hm]; rfl
        clear hm HM2
        have hid4 : id < t2.nodes.length := Nat.lt_of_lt_of_le hid s2.len
        have hb4' : But (E.p :: E.g :: E.m :: own nv) w w4 := hb3'.trans hb4 (fun y hy => by
          simp only [List.mem_cons] at hy ⊢
          rcases hy with hy | hy | hy | hy
          · exact .inl (.inl hy)
          · exact .inl (.inr (.inl hy))
          · exact .inl (.inr (.inr (.inl hy)))
          · rcases ho1 y hy with h1 | h1
            · exact .inl (.inr (.inr (.inr h1)))
            · exact .inr h1)
        have ho4' : ∀ y ∈ own nv4, y ∈ own nv ∨ w.heap.size ≤ y := fun y hy => by
          rcases ho4 y hy with h1 | h1
          · exact ho1 y h1
          · exact .inr (Nat.le_trans hb3'.size h1)
        have hq4' : ∀ y ∈ pub rows4, y ∈ pub rows ∨ w.heap.size ≤ y := fun y hy => by
          rcases hq4 y hy with h1 | h1
          · exact hq1 y h1
          · exact .inr (Nat.le_trans hb3'.size h1)
        go_wp2_with fail
        refine (hrest id t2 nv4 rows4 w4 hI4 (by rw [← hI4.len]; exact hid4) hlv (fun y hy => spect hb4' ho4' hq4' (hC y hy).1 (hC y hy).2)).mono ?_
        intro e w5 hp5
        cases hr : rest id t2 with
        | bad er pl =>
          rw [hr] at hp5
          obtain ⟨rfl, hbad⟩ := hp5
          have HM : Hid (namedM E.s E.B lv rest t = .bad er pl) := by unfold Hid; rw [HM3.out, hr]; rfl
          clear hr
          go_wp2_with fail
          go_ret2
          rw [HM.out]
          exact ⟨0, rfl, Bad.trans hb4' ho4' hbad⟩
        | ok u t3 =>
          rw [hr] at hp5
          obtain ⟨rfl, hg5⟩ := hp5
          obtain ⟨s3, n3, b3⟩ := hval id t2 t3 u hI4.wf hid4 h0 hlv hr
          have HM : Hid (namedM E.s E.B lv rest t = .ok id { t3 with names := (x, id) :: t3.names }) := by unfold Hid; rw [HM3.out, hr]; rfl
          obtain ⟨nv5, rows5, hI5, hb5, ho5, hq5⟩ := Good.trans hb4' ho4' hq4' hg5
          have hnm : t3.names.length < t3.anchors := by
            have a1 := s2.nm
            have a2 := s3.nm
            have a3 := s1.nm
            have a4 := h.wf.names
            have a5 := s1.wf.names
            simp at a1 a2 a3 a4 a5
            omega
          clear hr HM3 hg5
          go_wp2_with fail
          refine (takeOver_any E t3 nv5 rows5 w5 hI5 x (by omega) id n3 hnm).mono ?_
          rintro e w6 ⟨rfl, hg6⟩
          go_wp2_with fail
          go_ret2
          rw [HM.out]
          exact ⟨0, rfl, Good.trans hb5 ho5 hq5 hg6⟩

end Go.Proofs.YtkflkmmbakccoaaGreatDoor

/- THE HEAP: a new block. -/
namespace Go.Proofs.YtkflkmmbakccoaaGreatDoor
open Go.RowKit

theorem blk_new (w : World) (cs : Array Value) (T : TypeId) : Blk (w.alloc (.cells cs T)) w.heap.size cs T := heap_alloc_new w _

end Go.Proofs.YtkflkmmbakccoaaGreatDoor

/- WALKS: package parse: flow, by induction on the levels to come. -/
namespace Go.Proofs.YtkflkmmbakccoaaGreatDoor
open Go.RowKit Go.Maps

/-- A way to read a value of a level, as a call. -/
def ValueSaid (E : Env) (lv : Int) (val : Nat → PS → Res Unit) : Prop :=
  ∀ t nv rows w (id : Nat), PInv E t nv rows w → id < rows.length → lv ≤ E.B.depth → Calls Tryz.prog 118 #[pp E, .int .i64 (id : Int), .int .i64 lv] w fun e w' => PostB E nv rows w (val id t) e w'

set_option maxHeartbeats 400000 in
theorem flow1_any (E : Env) (lv : Int) (val : Nat → PS → Res Unit) (hv : ValueSaid E lv val) (t : PS) (nv : Value) (rows : List Row) (w : World) (h : PInv E t nv rows w) (id : Nat) (hid : id < rows.length) (hlv : lv ≤ E.B.depth) (c1 c2 : Nat)
    (hc1 : w.cell? ⟨c1, 0, none⟩ = some (pp E)) (hc2 : w.cell? ⟨c2, 0, none⟩ = some (.int .i64 lv)) :
    Calls Tryz.prog 117 #[.int .i64 (id : Int), bp c1, bp c2] w fun e w' => PostB E nv rows w (val id t) e w' := by
  go_enter Tryz.func117, Tryz.ntmps117
  go_wp2_with fail
  refine (hv t nv rows w id h hid hlv).mono ?_
  intro e w1 hp
  cases hm : val id t with
  | ok u t1 =>
    rw [hm] at hp
    obtain ⟨rfl, hg⟩ := hp
    have HM : Hid _ := hm
    clear hm
    go_wp2_with fail
    go_ret
    rw [HM.out]
    exact ⟨rfl, hg⟩
  | bad er pl =>
    rw [hm] at hp
    obtain ⟨rfl, hg⟩ := hp
    have HM : Hid _ := hm
    clear hm
    go_wp2_with fail
    go_ret
    rw [HM.out]
    exact ⟨rfl, hg⟩

set_option maxHeartbeats 1000000 in
theorem flowS_any (E : Env) (hE : EnvOk E) (lv : Int) (h0 : 0 ≤ lv) (h1 : lv ≤ 100) (val : Nat → Int → PS → Res Unit) (hv : lv ≤ E.B.depth → ValueSaid E lv (fun id => val id lv)) (hvo : ∀ id, ValOk E.s E.B id lv (val id lv)) : FlowSaid E lv (flowS E.s E.B val lv) := by
  intro t nv rows w h
  go_enter Tryz.func91, Tryz.ntmps91
  go_wp2_with fail
  have hb0 : But [] w ((w.alloc (.cells #[pp E] 84)).alloc (.cells #[.int .i64 lv] 3)) := ((But.refl _ _).alloc _).alloc _
  have hI0 := h.frame hb0 (by simp)
  have hB1 : Blk ((w.alloc (.cells #[pp E] 84)).alloc (.cells #[.int .i64 lv] 3)) w.heap.size #[pp E] 84 := (alloc_but _ _).blk (blk_new w _ _) (by simp)
  have hB2 : Blk ((w.alloc (.cells #[pp E] 84)).alloc (.cells #[.int .i64 lv] 3)) (w.heap.size + 1) #[.int .i64 lv] 3 := by
    have := blk_new (w.alloc (.cells #[pp E] 84)) #[.int .i64 lv] 3
    rwa [show (w.alloc (.cells #[pp E] 84)).heap.size = w.heap.size + 1 from by simp] at this
  refine (ppeek_any E hE t nv rows _ hI0).mono ?_
  rintro e w1 ⟨rfl, hI1, hb1⟩
  have hpl := h.par.lt
  have hC1 : Blk w1 w.heap.size #[pp E] 84 := hb1.blk hB1 (by simp; omega)
  have hC2 : Blk w1 (w.heap.size + 1) #[.int .i64 lv] 3 := hb1.blk hB2 (by simp; omega)
  have k1 : w1.cell? ⟨w.heap.size, 0, none⟩ = some (pp E) := hC1.cell rfl
  have k2 : w1.cell? ⟨w.heap.size + 1, 0, none⟩ = some (.int .i64 lv) := hC2.cell rfl
  have hb1' : But (E.p :: E.g :: E.m :: own nv) w w1 := (hb0.mono (by simp)).trans (hb1.mono (S' := E.p :: E.g :: E.m :: own nv) (by simp)) (fun x hx => .inl hx)
  have hf1 : w.heap.size ∉ foot E nv rows := fun hx => by have := h.foot_lt hx; omega
  have hf2 : w.heap.size + 1 ∉ foot E nv rows := fun hx => by have := h.foot_lt hx; omega
  clear hI0 hB1 hB2 hb0 hb1
  by_cases h7 : kindAt E.s (skipBl E.s t.k) = 7
  · have HM0 : Hid (flowS E.s E.B val lv t = aliasM E.s E.B lv { t with k := skipBl E.s t.k }) := by unfold Hid flowS; simp only; rw [if_pos h7]
    have hlt : skipBl E.s t.k < E.s.size := kindAt_lt (by omega)
    have b7 : (kindAt E.s (skipBl E.s t.k) == 7) = true := by simp [h7]
    generalize kindAt E.s (skipBl E.s t.k) = kq at *
    clear h7
    go_wp2_with fail
    refine (alias_any E hE _ nv rows w1 hI1 hlt lv h0 h1).mono ?_
    rintro e w2 ⟨z, hp⟩
    rw [← HM0.out] at hp
    have hp' := Post.trans hb1' (fun _ hx => .inl hx) (fun _ hx => .inl hx) hp
    clear hp HM0
    cases hm : flowS E.s E.B val lv t with
    | ok x t1 =>
      rw [hm] at hp'
      obtain ⟨rfl, hg⟩ := hp'
      have HM : Hid _ := hm
      clear hm
      go_wp2_with fail
      go_ret2
      rw [HM.out]
      exact ⟨0, rfl, hg⟩
    | bad er pl =>
      rw [hm] at hp'
      obtain ⟨rfl, hg⟩ := hp'
      have HM : Hid _ := hm
      clear hm
      go_wp2_with fail
      go_ret2
      rw [HM.out]
      exact ⟨z, rfl, hg⟩
  · have b7 : (kindAt E.s (skipBl E.s t.k) == 7) = false := by simp [h7]
    by_cases h8 : kindAt E.s (skipBl E.s t.k) = 8
    · have HM0 : Hid (flowS E.s E.B val lv t = namedM E.s E.B lv (fun id v => val id lv v) { t with k := skipBl E.s t.k }) := by unfold Hid flowS; simp only; rw [if_neg h7, if_pos h8]
      have hlt : skipBl E.s t.k < E.s.size := kindAt_lt (by omega)
      have b8 : (kindAt E.s (skipBl E.s t.k) == 8) = true := by simp [h8]
      generalize kindAt E.s (skipBl E.s t.k) = kq at *
      clear h7 h8
      go_wp2_with fail
      refine (named_flow E hE _ nv rows w1 hI1 hlt lv h0 w.heap.size (w.heap.size + 1) (fun id v => val id lv v) [w.heap.size, w.heap.size + 1] ?hC hvo ?hR).mono ?_
      case hC =>
        intro x hx
        simp only [List.mem_cons, List.not_mem_nil, or_false] at hx
        rcases hx with rfl | rfl
        · exact ⟨hC1.lt, hf1⟩
        · exact ⟨hC2.lt, hf2⟩
      case hR =>
        intro id t' nv' rows' w' hI' hid hlv hcap
        have a1 : Blk w' w.heap.size #[pp E] 84 := by unfold Blk; rw [(hcap w.heap.size (by simp)).2]; exact hC1
        have a2 : Blk w' (w.heap.size + 1) #[.int .i64 lv] 3 := by unfold Blk; rw [(hcap (w.heap.size + 1) (by simp)).2]; exact hC2
        exact flow1_any E lv (fun id => val id lv) (hv hlv) t' nv' rows' w' hI' id hid hlv _ _ (a1.cell rfl) (a2.cell rfl)
      rintro e w2 ⟨z, hp⟩
      rw [← HM0.out] at hp
      have hp' := Post.trans hb1' (fun _ hx => .inl hx) (fun _ hx => .inl hx) hp
      clear hp HM0
      cases hm : flowS E.s E.B val lv t with
      | ok x t1 =>
        rw [hm] at hp'
        obtain ⟨rfl, hg⟩ := hp'
        have HM : Hid _ := hm
        clear hm
        go_wp2_with fail
        go_ret2
        rw [HM.out]
        exact ⟨0, rfl, hg⟩
      | bad er pl =>
        rw [hm] at hp'
        obtain ⟨rfl, hg⟩ := hp'
        have HM : Hid _ := hm
        clear hm
        go_wp2_with fail
        go_ret2
        rw [HM.out]
        exact ⟨z, rfl, hg⟩
    · have b8 : (kindAt E.s (skipBl E.s t.k) == 8) = false := by simp [h8]
      by_cases hbv : kindAt E.s (skipBl E.s t.k) = 2 ∨ kindAt E.s (skipBl E.s t.k) = 3 ∨ kindAt E.s (skipBl E.s t.k) = 9 ∨ kindAt E.s (skipBl E.s t.k) = 11
      · have HM0 : Hid (flowS E.s E.B val lv t = (beginM E.B lv { t with k := skipBl E.s t.k }).bind fun id t1 => (val id lv t1).bind fun _ t2 => .ok id t2) := by unfold Hid flowS; simp only; rw [if_neg h7, if_neg h8, if_pos hbv]
        have hbb : begV (kindAt E.s (skipBl E.s t.k)) = true := by unfold begV; simp; omega
        generalize kindAt E.s (skipBl E.s t.k) = kq at *
        clear h7 h8 hbv
        go_wp2_with (go_at_call 119; refine (beginsValue_any _ _).mono ?_; rintro e w' ⟨rfl, rfl⟩)
        refine (begin_any E hE _ nv rows _ hI1 lv).mono ?_
        rintro e w2 ⟨z, hp⟩
        cases hm : beginM E.B lv { t with k := skipBl E.s t.k } with
        | bad er pl =>
          rw [hm] at hp
          obtain ⟨rfl, hbad⟩ := hp
          have HM : Hid (flowS E.s E.B val lv t = .bad er pl) := by unfold Hid; rw [HM0.out, hm]; rfl
          clear hm
          go_wp2_with fail
          go_ret2
          rw [HM.out]
          exact ⟨z, rfl, Bad.trans hb1' (fun _ hx => .inl hx) hbad⟩
        | ok id t1 =>
          rw [hm] at hp
          obtain ⟨rfl, nv2, rows2, hI2, hb2, ho2, hq2⟩ := hp
          obtain ⟨hlv, hide, hte, hz, hid, s1⟩ := beginM_ok hE.n hI1.wf hm
          have HM1 : Hid (flowS E.s E.B val lv t = (val id lv t1).bind fun _ t2 => .ok id t2) := by unfold Hid; rw [HM0.out, hm]; rfl
          have hD1 : Blk w2 w.heap.size #[pp E] 84 := by unfold Blk; rw [(spect hb2 ho2 hq2 hC1.lt hf1).2]; exact hC1
          have hD2 : Blk w2 (w.heap.size + 1) #[.int .i64 lv] 3 := by unfold Blk; rw [(spect hb2 ho2 hq2 hC2.lt hf2).2]; exact hC2
          have m1 : w2.cell? ⟨w.heap.size, 0, none⟩ = some (pp E) := hD1.cell rfl
          have m2 : w2.cell? ⟨w.heap.size + 1, 0, none⟩ = some (.int .i64 lv) := hD2.cell rfl
          have hb2' : But (E.p :: E.g :: E.m :: own nv) w w2 := hb1'.trans hb2 (fun x hx => .inl hx)
          have ho2' : ∀ y ∈ own nv2, y ∈ own nv ∨ w.heap.size ≤ y := fun y hy => (ho2 y hy).imp (fun h => h) (fun h1 => Nat.le_trans hb1'.size h1)
          have hq2' : ∀ y ∈ pub rows2, y ∈ pub rows ∨ w.heap.size ≤ y := fun y hy => (hq2 y hy).imp (fun h => h) (fun h1 => Nat.le_trans hb1'.size h1)
          have hid2 : id < rows2.length := by rw [← hI2.len]; exact hid
          clear hm HM0 hide hte hz hD1 hD2 hC1 hC2 k1 k2
          go_wp2_with fail
          refine (hv hlv t1 nv2 rows2 w2 id hI2 hid2 hlv).mono ?_
          intro e w3 hp3
          have hp3' := Post.trans hb2' ho2' hq2' hp3
          clear hp3
          cases hm : val id lv t1 with
          | ok u t2 =>
            simp only [hm] at hp3'
            obtain ⟨rfl, hg⟩ := hp3'
            have HM : Hid (flowS E.s E.B val lv t = .ok id t2) := by unfold Hid; rw [HM1.out, hm]; rfl
            clear hm
            go_wp2_with fail
            go_ret2
            rw [HM.out]
            exact ⟨0, rfl, hg⟩
          | bad er pl =>
            simp only [hm] at hp3'
            obtain ⟨rfl, hg⟩ := hp3'
            have HM : Hid (flowS E.s E.B val lv t = .bad er pl) := by unfold Hid; rw [HM1.out, hm]; rfl
            clear hm
            go_wp2_with fail
            go_ret2
            rw [HM.out]
            exact ⟨(id : Int), rfl, hg⟩
      · have HM : Hid (flowS E.s E.B val lv t = .bad 3 (skipBl E.s t.k)) := by unfold Hid flowS; simp only; rw [if_neg h7, if_neg h8, if_neg hbv]
        have hbb : begV (kindAt E.s (skipBl E.s t.k)) = false := by unfold begV; simp; omega
        generalize kindAt E.s (skipBl E.s t.k) = kq at *
        clear h7 h8 hbv
        go_wp2_with (go_at_call 119; refine (beginsValue_any _ _).mono ?_; rintro e w' ⟨rfl, rfl⟩)
        refine (wrongByte_any E _ nv rows _ hI1).mono ?_
        rintro e w2 ⟨rfl, hb2⟩
        go_wp2_with fail
        go_ret2
        rw [HM.out]
        exact ⟨0, rfl, Bad.trans hb1' (fun _ hx => .inl hx) hb2⟩

/-- A flow, with as many levels to come as there may be. -/
theorem flow_any (E : Env) (hE : EnvOk E) (f : Nat) : ∀ lv : Int, 0 ≤ lv → lv ≤ 50 → E.B.depth < lv + f → FlowSaid E lv (flowM E.s E.B f lv) := by
  have hD := hE.d
  induction f with
  | zero =>
    intro lv h0 h1 hf
    exact flowS_any E hE lv h0 (by omega) _ (fun hlv => absurd hlv (by omega)) (fun id t t' u _ _ _ hlv _ => absurd hlv (by omega))
  | succ f ih =>
    intro lv h0 h1 hf
    refine flowS_any E hE lv h0 (by omega) _ (fun hlv => ?_) (fun id => valueS_ok hD (flowM_ok hD hE.n hE.a f))
    intro t nv rows w id h hid _
    exact value_any E hE t nv rows w h id hid lv h0 hlv (flowM E.s E.B f) (ih (lv + 1) (by omega) (by omega) (by push_cast at hf; omega)) (flowM_ok hD hE.n hE.a f (lv + 1))

theorem valueM_any (E : Env) (hE : EnvOk E) (lv : Int) (h0 : 0 ≤ lv) (h1 : lv ≤ 50) : ValueSaid E lv (fun id => valueM E.s E.B 21 id lv) := by
  have hD := hE.d
  intro t nv rows w id h hid hlv
  exact value_any E hE t nv rows w h id hid lv h0 hlv (flowM E.s E.B 21) (flow_any E hE 21 (lv + 1) (by omega) (by omega) (by omega)) (flowM_ok hD hE.n hE.a 21 (lv + 1))

end Go.Proofs.YtkflkmmbakccoaaGreatDoor

/- WALKS: package parse: named, as a block's line calls it. -/
namespace Go.Proofs.YtkflkmmbakccoaaGreatDoor
open Go.RowKit Go.Maps

set_option maxHeartbeats 1000000 in
theorem named_item (E : Env) (hE : EnvOk E) (t : PS) (nv : Value) (rows : List Row) (w : World) (h : PInv E t nv rows w) (hk : t.k < E.s.size) (lv : Int) (h0 : 0 ≤ lv) (c1 c2 : Nat) (rest : Nat → PS → Res Unit) (C : List Nat)
    (hC : ∀ x ∈ C, x < w.heap.size ∧ x ∉ foot E nv rows) (hval : ∀ id, ValOk E.s E.B id lv (rest id))
    (hrest : ∀ (id : Nat) t' nv' rows' w', PInv E t' nv' rows' w' → id < rows'.length → lv ≤ E.B.depth → (∀ x ∈ C, x ∉ foot E nv' rows' ∧ w'.heap[x]? = w.heap[x]?) → Calls Tryz.prog 146 #[.int .i64 (id : Int), bp c1, bp c2] w' fun e w'' => PostB E nv' rows' w' (rest id t') e w'') :
    Calls Tryz.prog 116 #[pp E, .int .i64 lv, .func (.func 146) #[] #[bp c1, bp c2]] w fun e w' => PostN E nv rows w (namedM E.s E.B lv rest t) e w' := by
  have hs := hE.s
  have hA := hE.a
  go_enter Tryz.func116, Tryz.ntmps116
  go_wp2_with fail
  refine (begin_any E hE t nv rows w h lv).mono ?_
  rintro e w1 ⟨z, hp⟩
  cases hm : beginM E.B lv t with
  | bad er pl =>
    rw [hm] at hp
    obtain ⟨rfl, hbad⟩ := hp
    have HM : Hid (namedM E.s E.B lv rest t = .bad er pl) := by unfold Hid namedM; rw [hm]; rfl
    clear hm
    go_wp2_with fail
    go_ret2
    rw [HM.out]
    exact ⟨0, rfl, hbad⟩
  | ok id t1 =>
    rw [hm] at hp
    obtain ⟨rfl, nv1, rows1, hI1, hb1, ho1, hq1⟩ := hp
    obtain ⟨hlv, hide, hte, hz, hid, s1⟩ := beginM_ok hE.n h.wf hm
    have hk1 : t1.k = t.k := by rw [hte]
    have HK1 : Hid _ := hk1
    have hM1 : namedM E.s E.B lv rest t = if E.B.anchors ≤ (t1.anchors : Int) then .bad 6 t1.k else (wordM E.s { t1 with anchors := t1.anchors + 1, k := t1.k + 1 }).bind fun x t2 => (rest id t2).bind fun _ t3 => .ok id { t3 with names := (x, id) :: t3.names } := by unfold namedM; rw [hm]; rfl
    have HM1 : Hid _ := hM1
    have hanb := hI1.wf.anchors
    clear hM1 hm hk1 hide hte
    have c6 : w1.cell? ⟨E.p, 6, none⟩ = some (.pointer (some ⟨E.g, 0, none⟩)) := hI1.par.cell rfl
    have c4 : w1.cell? ⟨E.p, 4, none⟩ = some (.int .i64 E.B.anchors) := hI1.par.cell rfl
    have g1 : w1.cell? ⟨E.g, 1, none⟩ = some (.int .i64 (t1.anchors : Int)) := hI1.gr.cell rfl
    have fg1 : w1.frozen? ⟨E.g, 1, none⟩ = false := hI1.gr.free 1
    by_cases han : E.B.anchors ≤ (t1.anchors : Int)
    · have HM : Hid _ := HM1.out.trans (if_pos han)
      go_wp2_with fail
      go_quiet (fail)
      go_wp2_with fail
      refine (pplace_any E t1 _ rows1 _ (hI1.frame ((But.refl [] _).drewN _) (by simp))).mono ?_
      rintro e w2 ⟨rfl, rfl⟩
      go_wp2_with fail
      refine (fail_any E t1 _ rows1 _ (hI1.frame ((But.refl [] _).drewN _) (by simp)) 6 t1.k).mono ?_
      rintro e w3 ⟨rfl, hb3⟩
      go_wp2_with fail
      go_ret2
      rw [HM.out]
      exact ⟨0, rfl, Bad.trans (hb1.drewN _) ho1 hb3⟩
    · have HM2 : Hid _ := HM1.out.trans (if_neg han)
      clear HM1
      go_wp2_with fail
      go_quiet (fail)
      go_wp2_with fail
      have hI2 := (hI1.anchor (by omega)).frame ((But.refl [] _).drewN nq) (by simp)
      have hb2 : But (E.p :: E.g :: E.m :: own nv) w ((w1.setCell ⟨E.g, 1, none⟩ (.int .i64 ((t1.anchors : Int) + 1))).drewN nq) := (hb1.setCell (by simp) _).drewN nq
      refine (pskip_any E hE _ nv1 rows1 _ hI2 (by simp only; rw [HK1.out]; exact hk)).mono ?_
      rintro e w3 ⟨rfl, hI3, hb3⟩
      have hb3' : But (E.p :: E.g :: E.m :: own nv) w w3 := hb2.trans hb3 (by simp)
      clear c6 c4 g1 fg1 hb1 hb2 hb3 hI1 hI2
      go_wp2_with fail
      refine (pword_any E hE _ nv1 rows1 w3 hI3).mono ?_
      intro e w4 hp4
      cases hm : wordM E.s { t1 with anchors := t1.anchors + 1, k := t1.k + 1 } with
      | bad er pl =>
        rw [hm] at hp4
        obtain ⟨rfl, hbad⟩ := hp4
        have HM : Hid (namedM E.s E.B lv rest t = .bad er pl) := by unfold Hid; rw [HM2.out, hm]; rfl
        clear hm
        go_wp2_with fail
        go_ret2
        rw [HM.out]
        exact ⟨0, rfl, Bad.trans hb3' ho1 hbad⟩
      | ok x t2 =>
        rw [hm] at hp4
        obtain ⟨rfl, nv4, rows4, hI4, hb4, ho4, hq4⟩ := hp4
        have hxs := wordM_size hm (rdAny_size E.s)
        have s2 := wordM_ok hI3.wf hm
        have HM3 : Hid (namedM E.s E.B lv rest t = (rest id t2).bind fun _ t3 => .ok id { t3 with names := (x, id) :: t3.names }) := by unfold Hid; rw [HM2.out, hm]; rfl
        clear hm HM2
        have hid4 : id < t2.nodes.length := Nat.lt_of_lt_of_le hid s2.len
        have hb4' : But (E.p :: E.g :: E.m :: own nv) w w4 := hb3'.trans hb4 (fun y hy => by
          simp only [List.mem_cons] at hy ⊢
          rcases hy with hy | hy | hy | hy
          · exact .inl (.inl hy)
          · exact .inl (.inr (.inl hy))
          · exact .inl (.inr (.inr (.inl hy)))
          · rcases ho1 y hy with h1 | h1
            · exact .inl (.inr (.inr (.inr h1)))
            · exact .inr h1)
        have ho4' : ∀ y ∈ own nv4, y ∈ own nv ∨ w.heap.size ≤ y := fun y hy => by
          rcases ho4 y hy with h1 | h1
          · exact ho1 y h1
          · exact .inr (Nat.le_trans hb3'.size h1)
        have hq4' : ∀ y ∈ pub rows4, y ∈ pub rows ∨ w.heap.size ≤ y := fun y hy => by
          rcases hq4 y hy with h1 | h1
          · exact hq1 y h1
          · exact .inr (Nat.le_trans hb3'.size h1)
        go_wp2_with fail
        refine (hrest id t2 nv4 rows4 w4 hI4 (by rw [← hI4.len]; exact hid4) hlv (fun y hy => spect hb4' ho4' hq4' (hC y hy).1 (hC y hy).2)).mono ?_
        intro e w5 hp5
        cases hr : rest id t2 with
        | bad er pl =>
          rw [hr] at hp5
          obtain ⟨rfl, hbad⟩ := hp5
          have HM : Hid (namedM E.s E.B lv rest t = .bad er pl) := by unfold Hid; rw [HM3.out, hr]; rfl
          clear hr
          go_wp2_with fail
          go_ret2
          rw [HM.out]
          exact ⟨0, rfl, Bad.trans hb4' ho4' hbad⟩
        | ok u t3 =>
          rw [hr] at hp5
          obtain ⟨rfl, hg5⟩ := hp5
          obtain ⟨s3, n3, b3⟩ := hval id t2 t3 u hI4.wf hid4 h0 hlv hr
          have HM : Hid (namedM E.s E.B lv rest t = .ok id { t3 with names := (x, id) :: t3.names }) := by unfold Hid; rw [HM3.out, hr]; rfl
          obtain ⟨nv5, rows5, hI5, hb5, ho5, hq5⟩ := Good.trans hb4' ho4' hq4' hg5
          have hnm : t3.names.length < t3.anchors := by
            have a1 := s2.nm
            have a2 := s3.nm
            have a3 := s1.nm
            have a4 := h.wf.names
            have a5 := s1.wf.names
            simp at a1 a2 a3 a4 a5
            omega
          clear hr HM3 hg5
          go_wp2_with fail
          refine (takeOver_any E t3 nv5 rows5 w5 hI5 x (by omega) id n3 hnm).mono ?_
          rintro e w6 ⟨rfl, hg6⟩
          go_wp2_with fail
          go_ret2
          rw [HM.out]
          exact ⟨0, rfl, Good.trans hb5 ho5 hq5 hg6⟩

end Go.Proofs.YtkflkmmbakccoaaGreatDoor

/- WALKS: package parse: lead, blockBelow, namedItem, item. -/
namespace Go.Proofs.YtkflkmmbakccoaaGreatDoor
open Go.RowKit Go.Maps

def leadM (s : ByteArray) (isMap : Bool) (keys : List ByteArray) (t : PS) : Res (List ByteArray) :=
  if isMap then keyM s keys t else (expectM s 4 t).bind fun _ t1 => .ok keys t1

set_option maxHeartbeats 400000 in
theorem lead_any (E : Env) (hE : EnvOk E) (t : PS) (nv : Value) (rows : List Row) (b : Nat) (r : Row) (w : World) (h : PInv E t nv rows w) (hL : LInv E b r nv rows w) (hkl : r.n.keys.length ≤ t.k) (isMap : Bool) (hkind : r.n.kind = if isMap then 2 else 1) :
    Calls Tryz.prog 112 #[pp E, bp b] w fun e w' => PostL E nv rows b r w (fun ks => { r.n with keys := ks }) (leadM E.s isMap r.n.keys t) e w' := by
  have c0 : w.cell? ⟨b, 0, none⟩ = some (.int .i64 (r.n.kind : Int)) := hL.blk.cell rfl
  rw [hkind] at c0
  cases isMap with
  | true =>
    go_enter Tryz.func112, Tryz.ntmps112
    go_wp2_with fail
    refine (key_any E hE t nv rows b r w h hL hkl).mono ?_
    intro e w1 hp
    have HM0 : Hid (leadM E.s true r.n.keys t = keyM E.s r.n.keys t) := rfl
    cases hm : keyM E.s r.n.keys t with
    | ok ks t1 =>
      rw [hm] at hp
      obtain ⟨rfl, hg⟩ := hp
      have HM : Hid (leadM E.s true r.n.keys t = .ok ks t1) := by unfold Hid; rw [HM0.out, hm]
      clear hm
      go_wp2_with fail
      go_ret
      rw [HM.out]
      exact ⟨rfl, hg⟩
    | bad er pl =>
      rw [hm] at hp
      obtain ⟨rfl, hg⟩ := hp
      have HM : Hid (leadM E.s true r.n.keys t = .bad er pl) := by unfold Hid; rw [HM0.out, hm]
      clear hm
      go_wp2_with fail
      go_ret
      rw [HM.out]
      exact ⟨rfl, hg⟩
  | false =>
    go_enter Tryz.func112, Tryz.ntmps112
    go_wp2_with fail
    refine (expect_any E hE t nv rows w h 4 (by omega)).mono ?_
    intro e w1 hp
    have HM0 : Hid (leadM E.s false r.n.keys t = (expectM E.s 4 t).bind fun _ t1 => .ok r.n.keys t1) := rfl
    cases hm : expectM E.s 4 t with
    | ok u t1 =>
      rw [hm] at hp
      obtain ⟨rfl, nv1, rows1, hI1, hb1, ho1, hq1⟩ := hp
      have HM : Hid (leadM E.s false r.n.keys t = .ok r.n.keys t1) := by unfold Hid; rw [HM0.out, hm]; rfl
      have hL1 := hL.stays h hb1 ho1 hq1
      clear hm
      go_wp2_with fail
      go_ret
      rw [HM.out]
      exact ⟨rfl, nv1, rows1, r.kv, r.pv, hI1, hL1, hb1.toL, ho1, hq1, fun _ hx => .inl hx⟩
    | bad er pl =>
      rw [hm] at hp
      obtain ⟨rfl, hg⟩ := hp
      have HM : Hid (leadM E.s false r.n.keys t = .bad er pl) := by unfold Hid; rw [HM0.out, hm]; rfl
      clear hm
      go_wp2_with fail
      go_ret
      rw [HM.out]
      exact ⟨rfl, hg.toL⟩

/-- A way to read a block that has begun, as a call. -/
def BlockSaid (E : Env) (d : Nat) (blk : Nat → PS → Res Unit) : Prop :=
  ∀ t nv rows w (id : Nat) (di : Int), di = (d : Int) → PInv E t nv rows w → id < rows.length → (d : Int) + 1 ≤ E.B.depth → Calls Tryz.prog 90 #[pp E, .int .i64 (id : Int), .int .i64 di] w fun e w' => PostB E nv rows w (blk id t) e w'

theorem goBelow_at (E : Env) (hE : EnvOk E) (t : PS) (nv : Value) (rows : List Row) (w : World) (h : PInv E t nv rows w) (d : Nat) (hd : d ≤ 100) (di : Int) (hdi : di = (d : Int)) :
    Calls Tryz.prog 178 #[pp E, .int .i64 di] w fun e w' => PostB E nv rows w (goBelowM E.s d t) e w' := by
  subst hdi
  exact goBelow_any E hE t nv rows w h d hd

def belowM (s : ByteArray) (B : Bud) (blk : Nat → PS → Res Unit) (d : Nat) (t : PS) : Res Nat :=
  (goBelowM s d t).bind fun _ t1 => (beginM B ((d : Int) + 1) t1).bind fun id t2 => (blk id t2).bind fun _ t3 => .ok id t3

set_option maxRecDepth 100000 in
set_option maxHeartbeats 400000 in
theorem blockBelow_any (E : Env) (hE : EnvOk E) (t : PS) (nv : Value) (rows : List Row) (w : World) (h : PInv E t nv rows w) (d : Nat) (hd : d ≤ 50) (blk : Nat → PS → Res Unit) (hb : (d : Int) + 1 ≤ E.B.depth → BlockSaid E d blk) :
    Calls Tryz.prog 145 #[pp E, .int .i64 (d : Int)] w fun e w' => PostN E nv rows w (belowM E.s E.B blk d t) e w' := by
  go_enter Tryz.func145, Tryz.ntmps145
  go_wp2_with fail
  refine (goBelow_any E hE t nv rows w h d (by omega)).mono ?_
  intro e w1 hp
  cases hm : goBelowM E.s d t with
  | bad er pl =>
    rw [hm] at hp
    obtain ⟨rfl, hg⟩ := hp
    have HM : Hid (belowM E.s E.B blk d t = .bad er pl) := by unfold Hid belowM; rw [hm]; rfl
    clear hm
    go_wp2_with fail
    go_ret2
    rw [HM.out]
    exact ⟨0, rfl, hg⟩
  | ok u t1 =>
    rw [hm] at hp
    obtain ⟨rfl, nv1, rows1, hI1, hb1, ho1, hq1⟩ := hp
    have HM1 : Hid (belowM E.s E.B blk d t = (beginM E.B ((d : Int) + 1) t1).bind fun id t2 => (blk id t2).bind fun _ t3 => .ok id t3) := by unfold Hid belowM; rw [hm]; rfl
    clear hm
    go_wp2_with fail
    refine (begin_any E hE t1 nv1 rows1 w1 hI1 ((d : Int) + 1)).mono ?_
    rintro e w2 ⟨z, hp2⟩
    have hp2' := Post.trans hb1 ho1 hq1 hp2
    cases hm : beginM E.B ((d : Int) + 1) t1 with
    | bad er pl =>
      rw [hm] at hp2'
      obtain ⟨rfl, hg⟩ := hp2'
      have HM : Hid (belowM E.s E.B blk d t = .bad er pl) := by unfold Hid; rw [HM1.out, hm]; rfl
      clear hm hp2
      go_wp2_with fail
      go_ret2
      rw [HM.out]
      exact ⟨z, rfl, hg⟩
    | ok id t2 =>
      rw [hm] at hp2'
      obtain ⟨rfl, nv2, rows2, hI2, hb2, ho2, hq2⟩ := hp2'
      obtain ⟨hlv, hide, hte, hz, hid, s1⟩ := beginM_ok hE.n hI1.wf hm
      clear hide hte hz
      have HM2 : Hid (belowM E.s E.B blk d t = (blk id t2).bind fun _ t3 => .ok id t3) := by unfold Hid; rw [HM1.out, hm]; rfl
      clear hm hp2
      go_wp2_with fail
      refine (hb hlv t2 nv2 rows2 w2 id (d : Int) rfl hI2 (by rw [← hI2.len]; exact hid) hlv).mono ?_
      intro e w3 hp3
      have hp3' := Post.trans hb2 ho2 hq2 hp3
      cases hm : blk id t2 with
      | bad er pl =>
        rw [hm] at hp3'
        obtain ⟨rfl, hg⟩ := hp3'
        have HM : Hid (belowM E.s E.B blk d t = .bad er pl) := by unfold Hid; rw [HM2.out, hm]; rfl
        clear hm hp3
        go_wp2_with fail
        go_ret2
        rw [HM.out]
        exact ⟨(id : Int), rfl, hg⟩
      | ok u t3 =>
        rw [hm] at hp3'
        obtain ⟨rfl, hg⟩ := hp3'
        have HM : Hid (belowM E.s E.B blk d t = .ok id t3) := by unfold Hid; rw [HM2.out, hm]; rfl
        clear hm hp3
        go_wp2_with fail
        go_ret2
        rw [HM.out]
        exact ⟨0, rfl, hg⟩

set_option maxRecDepth 100000 in
set_option maxHeartbeats 400000 in
theorem namedItem_any (E : Env) (hE : EnvOk E) (t : PS) (nv : Value) (rows : List Row) (w : World) (h : PInv E t nv rows w) (id : Nat) (hid : id < rows.length) (d : Nat) (hd : d ≤ 30) (hlv : (d : Int) + 2 ≤ E.B.depth) (blk : Nat → Nat → PS → Res Unit) (hb : BlockSaid E (d + 1) (fun id => blk id (d + 1))) :
    Calls Tryz.prog 147 #[pp E, .int .i64 (id : Int), .int .i64 (d : Int)] w fun e w' => PostB E nv rows w (namedItemS E.s E.B blk d id t) e w' := by
  go_enter Tryz.func147, Tryz.ntmps147
  go_wp2_with fail
  refine (lineIsOver_any E hE t nv rows w h).mono ?_
  rintro e w1 ⟨rfl, hI1, hb1⟩
  by_cases hk : lineOver E.s (skipBl E.s t.k) = true
  · have HM0 : Hid (namedItemS E.s E.B blk d id t = (goBelowM E.s (d + 1) { t with k := skipBl E.s t.k }).bind fun _ t1 => blk id (d + 1) t1) := by unfold Hid namedItemS; simp only; rw [if_pos hk]
    go_wp2_with fail
    refine (goBelow_at E hE _ nv rows w1 hI1 (d + 1) (by omega) _ (by push_cast; rfl)).mono ?_
    intro e w2 hp
    have hp' := Post.moved hb1 hp
    cases hm : goBelowM E.s (d + 1) { t with k := skipBl E.s t.k } with
    | bad er pl =>
      rw [hm] at hp'
      obtain ⟨rfl, hg⟩ := hp'
      have HM : Hid (namedItemS E.s E.B blk d id t = .bad er pl) := by unfold Hid; rw [HM0.out, hm]; rfl
      clear hm hp
      go_wp2_with fail
      go_ret
      rw [HM.out]
      exact ⟨rfl, hg⟩
    | ok u t1 =>
      rw [hm] at hp'
      obtain ⟨rfl, nv2, rows2, hI2, hb2, ho2, hq2⟩ := hp'
      have s1 := goBelowM_ok hI1.wf hm
      have HM1 : Hid (namedItemS E.s E.B blk d id t = blk id (d + 1) t1) := by unfold Hid; rw [HM0.out, hm]; rfl
      have hid2 : id < rows2.length := by have := s1.len; simp only at this; rw [← hI2.len]; rw [← h.len] at hid; omega
      clear hm hp
      go_wp2_with fail
      refine (hb t1 nv2 rows2 w2 id _ (by push_cast; rfl) hI2 hid2 (by push_cast; omega)).mono ?_
      intro e w3 hp3
      have hp3' := Post.trans hb2 ho2 hq2 hp3
      cases hm : blk id (d + 1) t1 with
      | bad er pl =>
        simp only [hm] at hp3'
        obtain ⟨rfl, hg⟩ := hp3'
        have HM : Hid (namedItemS E.s E.B blk d id t = .bad er pl) := by unfold Hid; rw [HM1.out, hm]
        clear hm hp3
        go_wp2_with fail
        go_ret
        rw [HM.out]
        exact ⟨rfl, hg⟩
      | ok u t3 =>
        simp only [hm] at hp3'
        obtain ⟨rfl, hg⟩ := hp3'
        have HM : Hid (namedItemS E.s E.B blk d id t = .ok u t3) := by unfold Hid; rw [HM1.out, hm]
        clear hm hp3
        go_wp2_with fail
        go_ret
        rw [HM.out]
        exact ⟨rfl, hg⟩
  · have hk' : lineOver E.s (skipBl E.s t.k) = false := by simpa using hk
    have HM0 : Hid (namedItemS E.s E.B blk d id t = (valueM E.s E.B 21 id (d + 2) { t with k := skipBl E.s t.k }).bind fun _ t1 => endLineM E.s t1) := by unfold Hid namedItemS; simp only; rw [if_neg hk]
    clear hk
    go_wp2_with fail
    refine (valueM_any E hE ((d : Int) + 2) (by omega) (by omega) _ nv rows w1 id hI1 hid hlv).mono ?_
    intro e w2 hp
    have hp' := Post.moved hb1 hp
    cases hm : valueM E.s E.B 21 id (d + 2) { t with k := skipBl E.s t.k } with
    | bad er pl =>
      simp only [hm] at hp'
      obtain ⟨rfl, hg⟩ := hp'
      have HM : Hid (namedItemS E.s E.B blk d id t = .bad er pl) := by unfold Hid; rw [HM0.out, hm]; rfl
      clear hm hp
      go_wp2_with fail
      go_ret
      rw [HM.out]
      exact ⟨rfl, hg⟩
    | ok u t1 =>
      simp only [hm] at hp'
      obtain ⟨rfl, nv2, rows2, hI2, hb2, ho2, hq2⟩ := hp'
      have HM1 : Hid (namedItemS E.s E.B blk d id t = endLineM E.s t1) := by unfold Hid; rw [HM0.out, hm]; rfl
      clear hm hp
      go_wp2_with fail
      refine (endLine_any E hE t1 nv2 rows2 w2 hI2).mono ?_
      intro e w3 hp3
      have hp3' := Post.trans hb2 ho2 hq2 hp3
      cases hm : endLineM E.s t1 with
      | bad er pl =>
        rw [hm] at hp3'
        obtain ⟨rfl, hg⟩ := hp3'
        have HM : Hid (namedItemS E.s E.B blk d id t = .bad er pl) := by unfold Hid; rw [HM1.out, hm]
        clear hm hp3
        go_wp2_with fail
        go_ret
        rw [HM.out]
        exact ⟨rfl, hg⟩
      | ok u t3 =>
        rw [hm] at hp3'
        obtain ⟨rfl, hg⟩ := hp3'
        have HM : Hid (namedItemS E.s E.B blk d id t = .ok u t3) := by unfold Hid; rw [HM1.out, hm]
        clear hm hp3
        go_wp2_with fail
        go_ret
        rw [HM.out]
        exact ⟨rfl, hg⟩

end Go.Proofs.YtkflkmmbakccoaaGreatDoor

/- THE PLAIN FUNCTIONS: blanks are passed once. No program is named here. -/
namespace Go.Proofs.YtkflkmmbakccoaaGreatDoor

theorem skipBl_idem (s : ByteArray) (k : Nat) : skipBl s (skipBl s k) = skipBl s k := by
  by_cases h : k < s.size
  · by_cases hb : byteAt s k = 32
    · rw [skipBl_blank s k h hb]
      exact skipBl_idem s (k + 1)
    · rw [skipBl_stop s k h hb, skipBl_stop s k h hb]
  · rw [skipBl_end s k h, skipBl_end s k h]
termination_by s.size - k

end Go.Proofs.YtkflkmmbakccoaaGreatDoor
