/- PARTS: C3. -/
import Derived.Test.YtkflkmmbakccoaaGreatDoorH44

/- WALKS: package grafterref: count. The graph of grafterref in memory, as it is told. -/
namespace Go.Proofs.YtkflkmmbakccoaaGreatDoor
open Go.RowKit Go.Maps

/-- The Reader's nodes, as they are told: all of it lies below N. -/
structure RG (N b : Nat) (nv : Value) (rows : List RRow) (base : Nat) (w : World) : Prop where
  rd : ∃ cs, Blk w b cs 114 ∧ cs[8]? = some nv
  nodes : w.ownsRow base 109 6 nv rows.length (rows.flatMap RRow.cells)
  each : ∀ r ∈ rows, RRowOk w base r
  lt : ∀ x ∈ b :: (own nv ++ rpub rows), x < N
  N : N ≤ w.heap.size

theorem RG.below {N b : Nat} {nv : Value} {rows : List RRow} {base : Nat} {w w' : World} (h : RG N b nv rows base w) (hb : Below N w w') : RG N b nv rows base w' := by
  have hB : ∀ x, x < N → w'.heap[x]? = w.heap[x]? := fun x hx => hb.block x hx
  have hrow : ∀ {e sz n : Nat} {v : Value} {xs : List Value}, w.ownsRow base e sz v n xs → (∀ x ∈ own v, x < N) → w'.ownsRow base e sz v n xs := fun {e sz n v xs} h1 h2 => by
    refine ⟨h1.1, ?_⟩
    rcases h1.2 with h3 | ⟨g, cap, cur, rfl, hB', hg, r⟩
    · exact .inl h3
    · exact .inr ⟨g, cap, cur, rfl, hB', by rw [hB g (h2 g (by simp [own]))]; exact hg, r⟩
  obtain ⟨cs, hc, h8⟩ := h.rd
  refine ⟨⟨cs, ?_, h8⟩, hrow h.nodes (fun x hx => h.lt x (by simp [hx])), fun r hr => ?_, h.lt, Nat.le_trans h.N hb.size⟩
  · unfold Blk at *
    rw [hB b (h.lt _ (List.mem_cons_self ..))]
    exact hc
  · have hp : ∀ x ∈ r.pub, x < N := fun x hx => h.lt x (by
      simp only [List.mem_cons, List.mem_append, rpub, List.mem_flatMap]
      exact .inr (.inr ⟨r, hr, hx⟩))
    exact ⟨hrow (h.each r hr).1 (fun x hx => hp x (by simp [RRow.pub, hx])), hrow (h.each r hr).2 (fun x hx => hp x (by simp [RRow.pub, hx]))⟩

theorem RG.node {N b : Nat} {nv : Value} {rows : List RRow} {base : Nat} {w : World} (h : RG N b nv rows base w) (i : Nat) (hi : i < rows.length) :
    ∃ nb cap, nv = .slice (some ⟨nb, 0, none⟩) rows.length cap ∧ rows.length ≤ cap ∧ ∀ j, j < 6 → w.cell? ⟨nb, i * 6 + j, none⟩ = (rows[i]).cells[j]? := by
  rcases h.nodes.2 with ⟨_, h0⟩ | ⟨g, cap, cur, e, hb, hg, hc, hm, hs, ht⟩
  · omega
  · refine ⟨g, cap, e, hc, fun j hj => ?_⟩
    have h1 := rflat_at rows i j hi hj
    rw [← ht, List.getElem?_take, if_pos (by omega)] at h1
    rw [← h1]
    simp only [World.cell?, hg]
    simp

/-- The rows say what the plain nodes say. -/
structure RSame (nodes : List NodeV) (rows : List RRow) : Prop where
  same : nodes = rows.map RRow.n
  kb : ∀ r ∈ rows, r.kb = kbyte r.n.kind

theorem rnodeAt {nodes : List NodeV} {rows : List RRow} (h : RSame nodes rows) (i : Nat) (hi : i < rows.length) : nodeAt nodes i = (rows[i]).n := by rw [h.same]; simp [nodeAt, List.getD, hi]

theorem rsame_of {s : ByteArray} {t : PS} {rows : List RRow} {names : List (ByteArray × Nat)} {an : Nat} (h : RSt s ov0 t rows names an) (hW : Whole t.nodes) : RSame t.nodes rows := by
  refine ⟨?_, fun r hr => ?_⟩
  · apply List.ext_getElem?
    intro i
    by_cases hi : i < rows.length
    · rw [(h.shut i hi rfl).1]
      simp [hi]
    · rw [List.getElem?_eq_none (by rw [← h.len]; omega), List.getElem?_eq_none (by simp; omega)]
  · obtain ⟨i, hi, rfl⟩ := List.mem_iff_getElem.1 hr
    obtain ⟨h1, h2⟩ := h.shut i hi rfl
    refine h2 ?_
    have := hW.all i (by rw [← h.len]; exact hi)
    simpa [highOf, List.getD, h1] using this

theorem RMem.toRG {R : REnv} {K k an er pl : Nat} {nv mv : Value} {rows : List RRow} {names : List (ByteArray × Nat)} {w : World} (h : RMem R K k an er pl nv mv rows names w) : RG w.heap.size R.b nv rows R.base w := by
  refine ⟨⟨_, h.rd, rfl⟩, h.nodes, h.ok, fun x hx => ?_, Nat.le_refl _⟩
  simp only [List.mem_cons, List.mem_append] at hx
  rcases hx with rfl | hx | hx
  · exact h.rd.lt
  · obtain ⟨_, cs, hc⟩ := ownsRow_lt h.nodes hx
    exact hc.lt
  · obtain ⟨cs, T, hc, _⟩ := h.pub_block hx
    exact hc.lt

/-- How often each node has been come to. -/
def oftenL (n : Nat) (met ag : List Nat) : List Nat := (List.range n).map (fun i => (if i ∈ met then 1 else 0) + ag.count i)

theorem oftenL_at (n : Nat) (met ag : List Nat) (i : Nat) (hi : i < n) : (oftenL n met ag)[i]? = some ((if i ∈ met then 1 else 0) + ag.count i) := by simp [oftenL, hi]

theorem oftenL_set (n : Nat) (met ag met' ag' : List Nat) (k v : Nat) (hv : v = (if k ∈ met' then 1 else 0) + ag'.count k) (ho : ∀ i, i ≠ k → (if i ∈ met' then 1 else 0) + ag'.count i = (if i ∈ met then 1 else 0) + ag.count i) : (oftenL n met ag).set k v = oftenL n met' ag' := by
  apply List.ext_getElem?
  intro i
  by_cases hi : i < n
  · rw [oftenL_at n met' ag' i hi, List.getElem?_set]
    by_cases e : k = i
    · subst e
      simp [oftenL, hi, hv]
    · rw [if_neg e, oftenL_at n met ag i hi, ho i (fun h => e h.symm)]
  · rw [List.getElem?_eq_none (by simp [oftenL]; omega), List.getElem?_eq_none (by simp [oftenL]; omega)]

/-- A row of whole numbers of one's own: the block, where it is written. -/
theorem row1_set {w : World} {base n g cap : Nat} {e : TypeId} {xs : List Value} (h : w.ownsRow base e 1 (.slice (some ⟨g, 0, none⟩) n cap) n xs) (i : Nat) (v : Value) :
    (w.setCell ⟨g, i, none⟩ v).ownsRow base e 1 (.slice (some ⟨g, 0, none⟩) n cap) n (xs.set i v) ∧ w.frozen? ⟨g, i, none⟩ = false := by
  rcases h.2 with ⟨hv, _⟩ | ⟨g', cap', cur, hv, hb, hg, hc, hm, hs, ht⟩
  · cases hv
  · injection hv with ha _ hcap
    injection ha with ha
    injection ha with hgg _ _
    subst hgg hcap
    have hB : Blk w g cur e := hg
    refine ⟨⟨by simpa using h.1, .inr ⟨g, cap, cur.setIfInBounds i v, rfl, hb, hB.set i v, hc, hm, by simpa using hs, ?_⟩⟩, hB.free i⟩
    rw [Array.toList_setIfInBounds, List.take_set, ht]

abbrev natsV (l : List Nat) : List Value := l.map (fun (i : Nat) => Value.int .i64 (i : Int))

theorem agM_len {nodes : List NodeV} (hW : Whole nodes) (f : Nat) : ∀ id met, id < nodes.length → met.Nodup → (∀ x ∈ met, x < nodes.length) →
    (agM nodes f id met).2.length + 1000 * met.length ≤ 1 + 1000 * (agM nodes f id met).1.length := by
  induction f with
  | zero => intro id met _ _ _; simp [agM]
  | succ f ih =>
    intro id met hid h1 h2
    unfold agM
    by_cases hm : id ∈ met
    · simp [hm]
    · simp only [hm, if_false]
      have key : ∀ ps m l, (∀ p ∈ ps, p < nodes.length) → m.Nodup → (∀ x ∈ m, x < nodes.length) → (agP (agM nodes f) ps (m, l)).2.length + 1000 * m.length ≤ l.length + ps.length + 1000 * (agP (agM nodes f) ps (m, l)).1.length := by
        intro ps
        induction ps with
        | nil => intro m l _ _ _; simp [agP]
        | cons p ps ihp =>
          intro m l hp a b
          simp only [agP]
          have hp0 := hp p (List.mem_cons_self ..)
          obtain ⟨a1, b1, _⟩ := agM_met hW f p m hp0 a b
          have t1 := ih p m hp0 a b
          have t3 := ihp (agM nodes f p m).1 ((agM nodes f p m).2 ++ l) (fun q hq => hp q (List.mem_cons_of_mem _ hq)) a1 b1
          simp only [List.length_append, List.length_cons] at t3 ⊢
          omega
      have k := key (nodeAt nodes id).parts (id :: met) [] (fun p hp => (hW.part hid hp).1) (List.nodup_cons.2 ⟨hm, h1⟩) (fun x hx => by
        rcases List.mem_cons.1 hx with rfl | hx
        · exact hid
        · exact h2 x hx)
      have k1 := (hW.node hid).len
      simp only [List.length_cons, List.length_nil] at k
      omega

/-- What is come to again has been met. -/
theorem agM_sub {nodes : List NodeV} (f : Nat) : ∀ id met, (∀ x ∈ met, x ∈ (agM nodes f id met).1) ∧ ∀ x ∈ (agM nodes f id met).2, x ∈ (agM nodes f id met).1 := by
  induction f with
  | zero => intro id met; exact ⟨fun x hx => hx, fun x hx => by cases hx⟩
  | succ f ih =>
    intro id met
    unfold agM
    by_cases hm : id ∈ met
    · simp only [hm, if_true]
      exact ⟨fun x hx => hx, fun x hx => by rw [List.mem_singleton.1 hx]; exact hm⟩
    · simp only [hm, if_false]
      have key : ∀ ps m l, (∀ x ∈ l, x ∈ m) → (∀ x ∈ m, x ∈ (agP (agM nodes f) ps (m, l)).1) ∧ ∀ x ∈ (agP (agM nodes f) ps (m, l)).2, x ∈ (agP (agM nodes f) ps (m, l)).1 := by
        intro ps
        induction ps with
        | nil => intro m l h; exact ⟨fun x hx => hx, h⟩
        | cons p ps ihp =>
          intro m l h
          simp only [agP]
          obtain ⟨a, b⟩ := ih p m
          obtain ⟨c, d⟩ := ihp (agM nodes f p m).1 ((agM nodes f p m).2 ++ l) (fun x hx => by
            rcases List.mem_append.1 hx with hx | hx
            · exact b x hx
            · exact a x (h x hx))
          exact ⟨fun x hx => c x (a x hx), d⟩
      obtain ⟨a, b⟩ := key (nodeAt nodes id).parts (id :: met) [] (fun x hx => by cases hx)
      exact ⟨fun x hx => a x (List.mem_cons_of_mem _ hx), b⟩

theorem agP_cons (go : Nat → List Nat → List Nat × List Nat) (ps : List Nat) (k : Nat) (hk : k < ps.length) (st : List Nat × List Nat) : agP go (ps.drop k) st = agP go (ps.drop (k + 1)) ((go ps[k] st.1).1, (go ps[k] st.1).2 ++ st.2) := by
  rw [List.drop_eq_getElem_cons hk]; rfl

set_option maxRecDepth 20000 in
set_option maxHeartbeats 2000000 in
theorem count_any {N b : Nat} {nv : Value} {rows : List RRow} {base : Nat} {nodes : List NodeV} (hR : RSame nodes rows) (hW : Whole nodes) (g cap : Nat) (hNg : N ≤ g) (f : Nat) : ∀ (id : Nat) (met ag : List Nat) (w : World), id < rows.length → highOf nodes id < f → met.Nodup → (∀ x ∈ met, x < rows.length) → (∀ x ∈ ag, x ∈ met) → ag.length + (agM nodes f id met).2.length ≤ 1000000000 → RG N b nv rows base w →
    w.ownsRow N 3 1 (.slice (some ⟨g, 0, none⟩) rows.length cap) rows.length (natsV (oftenL rows.length met ag)) →
    Calls Tryz.prog 83 #[.pointer (some ⟨b, 0, none⟩), .int .i64 (id : Int), .slice (some ⟨g, 0, none⟩) rows.length cap] w fun e w' => e = .returned (.tuple #[]) ∧
      w'.ownsRow N 3 1 (.slice (some ⟨g, 0, none⟩) rows.length cap) rows.length (natsV (oftenL rows.length (agM nodes f id met).1 ((agM nodes f id met).2 ++ ag))) ∧ But [g] w w' := by
  have hnl : nodes.length = rows.length := by rw [hR.same]; simp
  induction f with
  | zero => intro id met ag w _ h; omega
  | succ f ih =>
    intro id met ag w hid hf hnd hlt hsub hbd hG hrow
    have IH : Hid _ := ih
    have hrl : rows.length ≤ 500 := by have := hW.len; omega
    obtain ⟨g2, cap2, e2, hcapn, _, hcell⟩ := row1_cell hrow (by omega)
    obtain ⟨rfl, rfl⟩ : g = g2 ∧ cap = cap2 := by simpa using e2
    have hcnt : ag.count id ≤ ag.length := List.count_le_length
    clear ih e2
    by_cases hm : id ∈ met
    · have hag : agM nodes (f + 1) id met = (met, [id]) := by unfold agM; simp [hm]
      have HAG : Hid _ := hag
      have c0 : w.cell? ⟨g, id, none⟩ = some (.int .i64 (1 + (ag.count id : Int))) := by
        have := hcell id _ (by rw [natsV, List.getElem?_map, oftenL_at _ _ _ _ hid]; rfl)
        rw [if_pos hm] at this
        simpa using this
      have hset := row1_set hrow id (.int .i64 (1 + (ag.count id : Int) + 1))
      have f0 := hset.2
      have hc1 : (w.setCell ⟨g, id, none⟩ (.int .i64 (1 + (ag.count id : Int) + 1))).cell? ⟨g, id, none⟩ = some (.int .i64 (1 + (ag.count id : Int) + 1)) := by
        obtain ⟨g3, cap3, e3, _, _, h3⟩ := row1_cell hset.1 (by omega)
        obtain ⟨rfl, rfl⟩ : g = g3 ∧ cap = cap3 := by simpa using e3
        exact h3 id _ (by simp [natsV, oftenL, hid])
      have hfin : (natsV (oftenL rows.length met ag)).set id (.int .i64 (1 + (ag.count id : Int) + 1)) = natsV (oftenL rows.length met ([id] ++ ag)) := by
        rw [← oftenL_set rows.length met ag met ([id] ++ ag) id (1 + ag.count id + 1) (by simp [hm]; omega) (fun i hi => by simp [Ne.symm hi])]
        simp [natsV, List.map_set]
      have HS : Hid (_ ∧ _) := ⟨hset.1, hfin⟩
      clear hag hset hrow hcell hfin
      generalize (ag.count id) = c at *
      go_enter Tryz.func83, Tryz.ntmps83
      go_wp2_with fail
      refine bodyPost_ret (v := .tuple #[]) (by simp [results, Tryz.results83, go_sem]) rfl ⟨rfl, ?_, (But.refl _ _).setCell (by simp) _⟩
      rw [HAG.out]
      have := HS.out.1
      rw [HS.out.2] at this
      exact this
    · have hc00 : ag.count id = 0 := List.count_eq_zero.2 (fun h => hm (hsub id h))
      have hag : agM nodes (f + 1) id met = agP (agM nodes f) (nodeAt nodes id).parts (id :: met, []) := by unfold agM; simp [hm]
      have hnode := hW.node (i := id) (by omega)
      have hpt : ∀ p ∈ (nodeAt nodes id).parts, p < nodes.length ∧ highOf nodes p < highOf nodes id := fun p hp => hW.part (by omega) hp
      rw [hag] at hbd
      rw [rnodeAt hR id hid] at hag hnode hpt hbd
      have HAG : Hid _ := hag
      have hpl5 := hnode.len
      have c0 : w.cell? ⟨g, id, none⟩ = some (.int .i64 0) := by
        have := hcell id _ (by rw [natsV, List.getElem?_map, oftenL_at _ _ _ _ hid]; rfl)
        rw [if_neg hm, hc00] at this
        simpa using this
      have hset := row1_set hrow id (.int .i64 1)
      have f0 := hset.2
      have hc1 : (w.setCell ⟨g, id, none⟩ (.int .i64 1)).cell? ⟨g, id, none⟩ = some (.int .i64 1) := by
        obtain ⟨g3, cap3, e3, _, _, h3⟩ := row1_cell hset.1 (by omega)
        obtain ⟨rfl, rfl⟩ : g = g3 ∧ cap = cap3 := by simpa using e3
        exact h3 id _ (by simp [natsV, oftenL, hid])
      have hfin : (natsV (oftenL rows.length met ag)).set id (.int .i64 1) = natsV (oftenL rows.length (id :: met) ag) := by
        rw [← oftenL_set rows.length met ag (id :: met) ag id 1 (by simp [hc00]) (fun i hi => by simp [hi])]
        simp [natsV, List.map_set]
      rw [hfin] at hset
      have hb1 : But [g] w (w.setCell ⟨g, id, none⟩ (.int .i64 1)) := (But.refl _ _).setCell (by simp) _
      have hG1 := hG.below (hb1.below hG.N (fun x hx => by rw [List.mem_singleton.1 hx]; exact hNg))
      obtain ⟨W, HWe⟩ : ∃ W, Hid (W = w.setCell ⟨g, id, none⟩ (.int .i64 1)) := ⟨_, (rfl : w.setCell ⟨g, id, none⟩ (.int .i64 1) = w.setCell ⟨g, id, none⟩ (.int .i64 1))⟩
      have HS : Hid (W.ownsRow N 3 1 (.slice (some ⟨g, 0, none⟩) rows.length cap) rows.length (natsV (oftenL rows.length (id :: met) ag))) := by rw [HWe.out]; exact hset.1
      have HG1 : Hid (RG N b nv rows base W) := by rw [HWe.out]; exact hG1
      have HB1 : Hid (But [g] w W) := by rw [HWe.out]; exact hb1
      have HPT : Hid _ := hpt
      have HBD : Hid _ := hbd
      have HND : Hid ((id :: met).Nodup ∧ (∀ x ∈ id :: met, x < rows.length) ∧ ∀ x ∈ ([] : List Nat) ++ ag, x ∈ id :: met) := ⟨List.nodup_cons.2 ⟨hm, hnd⟩, fun x hx => by
        rcases List.mem_cons.1 hx with rfl | hx
        · exact hid
        · exact hlt x hx, fun x hx => List.mem_cons_of_mem _ (hsub x (by simpa using hx))⟩
      clear hag hset hrow hcell hfin hG hb1 hG1 hpt hbd hnd hlt hsub
      go_enter Tryz.func83, Tryz.ntmps83
      go_upto_region 3 with fail
      rw [← HWe.out]
      go_loopw [6] (fun i wr => ∃ (k : Nat) (mk lk : List Nat), k ≤ (rows[id]).n.parts.length ∧ i = .int .i64 (k : Int) ∧ mk.Nodup ∧ (∀ x ∈ mk, x < rows.length) ∧ (∀ x ∈ lk ++ ag, x ∈ mk) ∧ agP (agM nodes f) ((rows[id]).n.parts.drop k) (mk, lk) = agP (agM nodes f) (rows[id]).n.parts (id :: met, []) ∧ wr.ownsRow N 3 1 (.slice (some ⟨g, 0, none⟩) rows.length cap) rows.length (natsV (oftenL rows.length mk (lk ++ ag))) ∧ RG N b nv rows base wr ∧ But [g] w wr) (fun i _ => (rows[id]).n.parts.length - (intOf i).toNat)
      case atStart => exact ⟨0, _, _, Nat.zero_le _, rfl, HND.out.1, HND.out.2.1, HND.out.2.2, rfl, by simpa using HS.out, HG1.out, HB1.out⟩
      case round =>
        obtain ⟨k, mk, lk, hk, rfl, hmn, hmlt, hms, hap, hrw, hGr, hbr⟩ := hrel
        have HAP : Hid _ := hap
        have HRW : Hid _ := hrw
        obtain ⟨cs, hcs, h8⟩ := hGr.rd
        have d8 : wr.cell? ⟨b, 8, none⟩ = some nv := hcs.cell h8
        obtain ⟨nb, ncap, hnv, hncap, hcn⟩ := hGr.node id hid
        have d3 := hcn 3 (by omega)
        simp only [RRow.cells, List.getElem?_cons_succ, List.getElem?_cons_zero] at d3
        rw [hnv] at d8
        obtain ⟨pad, pcap, hpvv, hpc⟩ := own_shape (hGr.each rows[id] (List.getElem_mem hid)).2
        rw [hpvv] at d3
        clear hcs hap hrw
        by_cases hkl : k < (rows[id]).n.parts.length
        · obtain ⟨pbk, cap', e4, _, _, hpcell⟩ := ownsInt_cell (n := (rows[id]).n.parts.length) (l := (rows[id]).n.parts) (hGr.each rows[id] (List.getElem_mem hid)).2 (by omega)
          rw [hpvv] at e4
          obtain ⟨rfl, rfl⟩ : pad = some ⟨pbk, 0, none⟩ ∧ pcap = cap' := by simpa using e4
          have hck := hpcell k hkl
          have hx := HPT.out _ (List.getElem_mem hkl)
          have hx' : (rows[id]).n.parts[k] < rows.length := by omega
          have hstep := agP_cons (agM nodes f) (rows[id]).n.parts k hkl (mk, lk)
          have HST : Hid _ := HAP.out.symm.trans hstep
          have hlen2 : ((agM nodes f (rows[id]).n.parts[k] mk).2 ++ lk).length ≤ (agP (agM nodes f) (rows[id]).n.parts (id :: met, [])).2.length := by
            rw [HST.out, agP_app]
            simp only [List.length_append]
            omega
          have hbdd := HBD.out
          have HC : Hid _ := IH.out (rows[id]).n.parts[k] mk (lk ++ ag) wr hx' (by omega) hmn hmlt hms (by simp only [List.length_append] at hlen2 hbdd ⊢; omega) hGr HRW.out
          have HM : Hid _ := agM_met hW f (rows[id]).n.parts[k] mk (by omega) hmn (by rw [hnl]; exact hmlt)
          have HSUB : Hid _ := agM_sub (nodes := nodes) f (rows[id]).n.parts[k] mk
          generalize (rows[id]).n.parts[k] = x at *
          clear hpcell e4 hx hstep hlen2 hbdd hcn
          go_wp2_with fail
          refine Calls.mono HC.out ?_
          rintro e w3 ⟨rfl, hr3, hb3⟩
          go_wp2_with fail
          go_roundw
          case rel =>
            refine ⟨k + 1, (agM nodes f x mk).1, (agM nodes f x mk).2 ++ lk, by omega, by go_num, HM.out.1, by have := HM.out.2.1; rw [hnl] at this; exact this, fun y hy => ?_, HST.out.symm, by rw [List.append_assoc]; exact hr3, hGr.below (hb3.below hGr.N (fun x hx => by rw [List.mem_singleton.1 hx]; exact hNg)), hbr.trans hb3 (fun x hx => .inl hx)⟩
            rw [List.append_assoc] at hy
            rcases List.mem_append.1 hy with hy | hy
            · exact HSUB.out.2 y hy
            · exact HSUB.out.1 y (hms y hy)
          case measure => simp [intOf]; omega
        · have hfin := HAP.out
          rw [List.drop_eq_nil_of_le (by omega)] at hfin
          have HF : Hid ((mk, lk) = agP (agM nodes f) (rows[id]).n.parts (id :: met, [])) := hfin
          clear hfin hcn
          go_wp2_with fail
          go_end0
          refine ⟨rfl, ?_, hbr⟩
          rw [HAG.out, ← HF.out]
          exact HRW.out

end Go.Proofs.YtkflkmmbakccoaaGreatDoor
