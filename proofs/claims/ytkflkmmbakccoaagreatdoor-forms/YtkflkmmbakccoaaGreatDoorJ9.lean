/- PARTS: W20. -/
import Derived.Test.YtkflkmmbakccoaaGreatDoorJ8

/- WALKS: package parse: item. -/
namespace Go.Proofs.YtkflkmmbakccoaaGreatDoor
open Go.RowKit Go.Maps

set_option maxHeartbeats 400000 in
theorem item1_any (E : Env) (d : Nat) (val : Nat → PS → Res Unit) (c1 c2 : Nat) (t : PS) (nv : Value) (rows : List Row) (w : World) (id : Nat)
    (hv : Calls Tryz.prog 147 #[pp E, .int .i64 (id : Int), .int .i64 (d : Int)] w fun e w' => PostB E nv rows w (val id t) e w')
    (hc1 : w.cell? ⟨c1, 0, none⟩ = some (pp E)) (hc2 : w.cell? ⟨c2, 0, none⟩ = some (.int .i64 (d : Int))) :
    Calls Tryz.prog 146 #[.int .i64 (id : Int), bp c1, bp c2] w fun e w' => PostB E nv rows w (val id t) e w' := by
  go_enter Tryz.func146, Tryz.ntmps146
  go_wp2_with fail
  refine hv.mono ?_
  intro e w1 hp
  cases hm : val id t with
  | ok u t1 =>
    rw [hm] at hp
    obtain ⟨rfl, hg⟩ := hp
    have HM : Hid _ := hm
    clear hm
    go_wp2_with fail
    go_ret
    rw [HM.out]
    exact ⟨rfl, hg⟩
  | bad er pl =>
    rw [hm] at hp
    obtain ⟨rfl, hg⟩ := hp
    have HM : Hid _ := hm
    clear hm
    go_wp2_with fail
    go_ret
    rw [HM.out]
    exact ⟨rfl, hg⟩

theorem blockBelow_at (E : Env) (hE : EnvOk E) (t : PS) (nv : Value) (rows : List Row) (w : World) (h : PInv E t nv rows w) (d : Nat) (hd : d ≤ 50) (blk : Nat → PS → Res Unit) (hb : (d : Int) + 1 ≤ E.B.depth → BlockSaid E d blk) (di : Int) (hdi : di = (d : Int)) :
    Calls Tryz.prog 145 #[pp E, .int .i64 di] w fun e w' => PostN E nv rows w (belowM E.s E.B blk d t) e w' := by
  subst hdi
  exact blockBelow_any E hE t nv rows w h d hd blk hb

set_option maxHeartbeats 1000000 in
theorem item_any (E : Env) (hE : EnvOk E) (t : PS) (nv : Value) (rows : List Row) (w : World) (h : PInv E t nv rows w) (d : Nat) (hd : d ≤ 25) (blk : Nat → Nat → PS → Res Unit) (hbs : (d : Int) + 2 ≤ E.B.depth → BlockSaid E (d + 1) (fun id => blk id (d + 1)))
    (hbo : ∀ (id d : Nat), ValOk E.s E.B id ((d : Int) + 1) (blk id d)) :
    Calls Tryz.prog 113 #[pp E, .int .i64 (d : Int)] w fun e w' => PostN E nv rows w (itemS E.s E.B blk d t) e w' := by
  have hD := hE.d
  go_enter Tryz.func113, Tryz.ntmps113
  go_wp2_with fail
  have hb0 : But [] w ((w.alloc (.cells #[pp E] 84)).alloc (.cells #[.int .i64 (d : Int)] 3)) := ((But.refl _ _).alloc _).alloc _
  have hI0 := h.frame hb0 (by simp)
  have hB1 : Blk ((w.alloc (.cells #[pp E] 84)).alloc (.cells #[.int .i64 (d : Int)] 3)) w.heap.size #[pp E] 84 := (alloc_but _ _).blk (blk_new w _ _) (by simp)
  have hB2 : Blk ((w.alloc (.cells #[pp E] 84)).alloc (.cells #[.int .i64 (d : Int)] 3)) (w.heap.size + 1) #[.int .i64 (d : Int)] 3 := by
    have := blk_new (w.alloc (.cells #[pp E] 84)) #[.int .i64 (d : Int)] 3
    rwa [show (w.alloc (.cells #[pp E] 84)).heap.size = w.heap.size + 1 from by simp] at this
  refine (lineIsOver_any E hE t nv rows _ hI0).mono ?_
  rintro e w1 ⟨rfl, hI1, hb1⟩
  have hpl := h.par.lt
  have hC1 : Blk w1 w.heap.size #[pp E] 84 := hb1.blk hB1 (by simp; omega)
  have hC2 : Blk w1 (w.heap.size + 1) #[.int .i64 (d : Int)] 3 := hb1.blk hB2 (by simp; omega)
  have k1 : w1.cell? ⟨w.heap.size, 0, none⟩ = some (pp E) := hC1.cell rfl
  have k2 : w1.cell? ⟨w.heap.size + 1, 0, none⟩ = some (.int .i64 (d : Int)) := hC2.cell rfl
  have hb1' : But (E.p :: E.g :: E.m :: own nv) w w1 := (hb0.mono (by simp)).trans (hb1.mono (S' := E.p :: E.g :: E.m :: own nv) (by simp)) (fun x hx => .inl hx)
  have hf1 : w.heap.size ∉ foot E nv rows := fun hx => by have := h.foot_lt hx; omega
  have hf2 : w.heap.size + 1 ∉ foot E nv rows := fun hx => by have := h.foot_lt hx; omega
  clear hI0 hB1 hB2 hb0 hb1
  by_cases hlo : lineOver E.s (skipBl E.s t.k) = true
  · have HM0 : Hid (itemS E.s E.B blk d t = belowM E.s E.B (fun id => blk id (d + 1)) (d + 1) { t with k := skipBl E.s t.k }) := by
      unfold Hid itemS belowM; simp only; rw [if_pos hlo, show (((d + 1 : Nat) : Int) + 1) = (d : Int) + 2 from by push_cast; omega]
    go_wp2_with fail
    refine (blockBelow_at E hE _ nv rows w1 hI1 (d + 1) (by omega) (fun id => blk id (d + 1)) (fun hq => hbs (by push_cast at hq; omega)) _ (by push_cast; rfl)).mono ?_
    rintro e w2 ⟨z, hp⟩
    rw [← HM0.out] at hp
    have hp' := Post.trans hb1' (fun _ hx => .inl hx) (fun _ hx => .inl hx) hp
    clear hp HM0
    cases hm : itemS E.s E.B blk d t with
    | ok x t1 =>
      rw [hm] at hp'
      obtain ⟨rfl, hg⟩ := hp'
      have HM : Hid _ := hm
      clear hm
      go_wp2_with fail
      go_ret2
      rw [HM.out]
      exact ⟨0, rfl, hg⟩
    | bad er pl =>
      rw [hm] at hp'
      obtain ⟨rfl, hg⟩ := hp'
      have HM : Hid _ := hm
      clear hm
      go_wp2_with fail
      go_ret2
      rw [HM.out]
      exact ⟨z, rfl, hg⟩
  · have hlo' : lineOver E.s (skipBl E.s t.k) = false := by simpa using hlo
    have HL : Hid _ := hlo
    go_wp2_with fail
    refine (ppeek_any E hE _ nv rows w1 hI1).mono ?_
    rintro e w2 ⟨rfl, hI2, hb2⟩
    have hss : skipBl E.s (skipBl E.s t.k) = skipBl E.s t.k := skipBl_idem E.s t.k
    simp only [hss] at hI2 ⊢
    have hE1 : Blk w2 w.heap.size #[pp E] 84 := hb2.blk hC1 (by simp; omega)
    have hE2 : Blk w2 (w.heap.size + 1) #[.int .i64 (d : Int)] 3 := hb2.blk hC2 (by simp; omega)
    have m1 : w2.cell? ⟨w.heap.size, 0, none⟩ = some (pp E) := hE1.cell rfl
    have m2 : w2.cell? ⟨w.heap.size + 1, 0, none⟩ = some (.int .i64 (d : Int)) := hE2.cell rfl
    have hb2' : But (E.p :: E.g :: E.m :: own nv) w w2 := hb1'.trans (hb2.mono (S' := E.p :: E.g :: E.m :: own nv) (by simp)) (fun x hx => .inl hx)
    clear hss hlo hlo' hC1 hC2 k1 k2 hI1 hb2
    by_cases h8 : kindAt E.s (skipBl E.s t.k) = 8
    · have HM0 : Hid (itemS E.s E.B blk d t = namedM E.s E.B (d + 2) (fun id v => namedItemS E.s E.B blk d id v) { t with k := skipBl E.s t.k }) := by unfold Hid itemS; simp only; rw [if_neg HL.out, if_pos h8]
      have hlt : skipBl E.s t.k < E.s.size := kindAt_lt (by omega)
      have b8 : (kindAt E.s (skipBl E.s t.k) == 8) = true := by simp [h8]
      generalize kindAt E.s (skipBl E.s t.k) = kq at *
      clear h8
      go_wp2_with fail
      refine (named_item E hE _ nv rows w2 hI2 hlt ((d : Int) + 2) (by omega) w.heap.size (w.heap.size + 1) (fun id v => namedItemS E.s E.B blk d id v) [w.heap.size, w.heap.size + 1] ?hC (fun id => namedItemS_ok hD hE.n hE.a hbo) ?hR).mono ?_
      case hC =>
        intro x hx
        simp only [List.mem_cons, List.not_mem_nil, or_false] at hx
        rcases hx with rfl | rfl
        · exact ⟨hE1.lt, hf1⟩
        · exact ⟨hE2.lt, hf2⟩
      case hR =>
        intro id t' nv' rows' w' hI' hid hlv hcap
        have a1 : Blk w' w.heap.size #[pp E] 84 := by unfold Blk; rw [(hcap w.heap.size (by simp)).2]; exact hE1
        have a2 : Blk w' (w.heap.size + 1) #[.int .i64 (d : Int)] 3 := by unfold Blk; rw [(hcap (w.heap.size + 1) (by simp)).2]; exact hE2
        exact item1_any E d (fun id v => namedItemS E.s E.B blk d id v) _ _ t' nv' rows' w' id (namedItem_any E hE t' nv' rows' w' hI' id hid d (by omega) hlv blk (hbs hlv)) (a1.cell rfl) (a2.cell rfl)
      rintro e w3 ⟨z, hp⟩
      rw [← HM0.out] at hp
      have hp' := Post.trans hb2' (fun _ hx => .inl hx) (fun _ hx => .inl hx) hp
      clear hp HM0
      cases hm : itemS E.s E.B blk d t with
      | ok x t1 =>
        rw [hm] at hp'
        obtain ⟨rfl, hg⟩ := hp'
        have HM : Hid _ := hm
        clear hm HL
        go_wp2_with fail
        go_ret2
        rw [HM.out]
        exact ⟨0, rfl, hg⟩
      | bad er pl =>
        rw [hm] at hp'
        obtain ⟨rfl, hg⟩ := hp'
        have HM : Hid _ := hm
        clear hm HL
        go_wp2_with fail
        go_ret2
        rw [HM.out]
        exact ⟨z, rfl, hg⟩
    · have HM0 : Hid (itemS E.s E.B blk d t = (flowM E.s E.B 21 (d + 2) { t with k := skipBl E.s t.k }).bind fun id t1 => (endLineM E.s t1).bind fun _ t2 => .ok id t2) := by unfold Hid itemS; simp only; rw [if_neg HL.out, if_neg h8]
      have b8 : (kindAt E.s (skipBl E.s t.k) == 8) = false := by simp [h8]
      generalize kindAt E.s (skipBl E.s t.k) = kq at *
      clear h8
      go_wp2_with fail
      refine (flow_any E hE 21 ((d : Int) + 2) (by omega) (by omega) (by omega) _ nv rows w2 hI2).mono ?_
      rintro e w3 ⟨z, hp⟩
      cases hm : flowM E.s E.B 21 (d + 2) { t with k := skipBl E.s t.k } with
      | bad er pl =>
        rw [hm] at hp
        obtain ⟨rfl, hbad⟩ := hp
        have HM : Hid (itemS E.s E.B blk d t = .bad er pl) := by unfold Hid; rw [HM0.out, hm]; rfl
        clear hm HL
        go_wp2_with fail
        go_ret2
        rw [HM.out]
        exact ⟨z, rfl, Bad.trans hb2' (fun _ hx => .inl hx) hbad⟩
      | ok x t1 =>
        rw [hm] at hp
        obtain ⟨rfl, nv3, rows3, hI3, hb3, ho3, hq3⟩ := hp
        have HM1 : Hid (itemS E.s E.B blk d t = (endLineM E.s t1).bind fun _ t2 => .ok x t2) := by unfold Hid; rw [HM0.out, hm]; rfl
        have hD1 : Blk w3 w.heap.size #[pp E] 84 := by unfold Blk; rw [(spect hb3 ho3 hq3 hE1.lt hf1).2]; exact hE1
        have n1 : w3.cell? ⟨w.heap.size, 0, none⟩ = some (pp E) := hD1.cell rfl
        have hb3' : But (E.p :: E.g :: E.m :: own nv) w w3 := hb2'.trans hb3 (fun x hx => .inl hx)
        have ho3' : ∀ y ∈ own nv3, y ∈ own nv ∨ w.heap.size ≤ y := fun y hy => (ho3 y hy).imp (fun h => h) (fun h1 => Nat.le_trans hb2'.size h1)
        have hq3' : ∀ y ∈ pub rows3, y ∈ pub rows ∨ w.heap.size ≤ y := fun y hy => (hq3 y hy).imp (fun h => h) (fun h1 => Nat.le_trans hb2'.size h1)
        clear hm HM0 hD1 hE1 hE2 m1 m2 HL
        go_wp2_with fail
        refine (endLine_any E hE t1 nv3 rows3 w3 hI3).mono ?_
        intro e w4 hp4
        have hp4' := Post.trans hb3' ho3' hq3' hp4
        clear hp4
        cases hm : endLineM E.s t1 with
        | ok u t2 =>
          rw [hm] at hp4'
          obtain ⟨rfl, hg⟩ := hp4'
          have HM : Hid (itemS E.s E.B blk d t = .ok x t2) := by unfold Hid; rw [HM1.out, hm]; rfl
          clear hm
          go_wp2_with fail
          go_ret2
          rw [HM.out]
          exact ⟨0, rfl, hg⟩
        | bad er pl =>
          rw [hm] at hp4'
          obtain ⟨rfl, hg⟩ := hp4'
          have HM : Hid (itemS E.s E.B blk d t = .bad er pl) := by unfold Hid; rw [HM1.out, hm]; rfl
          clear hm
          go_wp2_with fail
          go_ret2
          rw [HM.out]
          exact ⟨(x : Int), rfl, hg⟩

end Go.Proofs.YtkflkmmbakccoaaGreatDoor
