/- PARTS: K13. -/
import Derived.Test.YtkflkmmbakccoaaGreatDoorZ3

/- WALKS: package grafterkeep: made: lists and maps. -/
namespace Go.Proofs.YtkflkmmbakccoaaGreatDoor
open Go.RowKit Go.Maps

/-- The items of a list or a map, so many of them. -/
def boxL (d : Nat) (c : Int) (raw : List Int) (i : Nat) : Q.Frst × Nat := Q.madeL (Q.madeM d) (c :: raw) (decide (Q.pk (c.tdiv 64) 3 ≠ 0)) i 0 1

theorem box_is {d : Nat} {c : Int} {raw : List Int} (h : ¬ pickM c 8 < 3) {n : Nat} (hn : 1 + pickM (c.tdiv 8) 3 = (n : Int)) : Q.madeM (d + 1) (c :: raw) = ⟨if 5 < pickM c 8 then 2 else 1, ByteArray.empty, (boxL d c raw n).1, (boxL d c raw n).2⟩ := by
  have h' : ¬ Q.pk c 8 < 3 := h
  have hn' : (1 + Q.pk (c.tdiv 8) 3).toNat = n := by rw [pk_eq, hn]; simp
  rw [Q.madeM, if_neg h', hn']
  rfl

theorem box_used {d : Nat} (hd : d ≤ 3) (c : Int) (raw : List Int) {i : Nat} (hi : i ≤ 3) : (boxL d c raw i).2 ≤ 200 := by
  have h := (Q.madeL_ok (Q.madeM_ok d) (c :: raw) (decide (Q.pk (c.tdiv 64) 3 ≠ 0)) i 0 1).2.2.2.2
  have h2 : 4 ^ d ≤ 4 ^ 3 := Nat.pow_le_pow_right (by omega) hd
  have h3 : i * 4 ^ d ≤ 3 * 4 ^ 3 := Nat.mul_le_mul hi h2
  unfold boxL
  omega
theorem box_txt {d : Nat} (hd : d ≤ 3) (c : Int) (raw : List Int) (m : Bool) (o : UInt8) {i : Nat} (hi : i ≤ 3) : (bK (o :: (boxL d c raw i).1.txt [44, 32] m true)).size ≤ 20000 := by
  have h := Q.madeL_txt_len (Q.flow_len d) (c :: raw) (decide (Q.pk (c.tdiv 64) 3 ≠ 0)) m i (by omega)
  have h2 : 4 ^ (d + 1) ≤ 4 ^ 4 := Nat.pow_le_pow_right (by omega) (by omega)
  have h3 : i * (10 * 4 ^ (d + 1) + 6) ≤ 3 * (10 * 4 ^ 4 + 6) := Nat.mul_le_mul hi (by omega)
  rw [bK_size]
  simp only [List.length_cons]
  unfold boxL
  omega
theorem box_lns {d e : Nat} (he : e + (d + 1) ≤ 4) (c : Int) (raw : List Int) (m : Bool) {i : Nat} (hi : i ≤ 3) : (bK ((boxL d c raw i).1.lns [44, 32] [10] e m)).size ≤ 100000 := by
  have h := Q.madeL_lns_len (d := e) (by omega) (Q.flow_len d) (fun r => Q.lines_len d r (e + 1) (by omega)) (c :: raw) (decide (Q.pk (c.tdiv 64) 3 ≠ 0)) m i (by omega)
  have h2 : 4 ^ (d + 1) ≤ 4 ^ 4 := Nat.pow_le_pow_right (by omega) (by omega)
  have h3 : i * (10 * 4 ^ (d + 1) + 100 * 4 ^ (d + 1) + 13) ≤ 3 * (10 * 4 ^ 4 + 100 * 4 ^ 4 + 13) := Nat.mul_le_mul hi (by omega)
  rw [bK_size]
  unfold boxL
  omega

theorem slice_run (pb off len cap lo : Nat) (h1 : lo ≤ len) (h2 : len ≤ cap) (h3 : cap ≤ 18000000000000) (w : World) : (Instr.slice 42 (.slice (some ⟨pb, off, none⟩) len cap) (some (.int .i64 (lo : Int))) none none).run Tryz.prog w = .ok (if lo = cap then .slice (some ⟨pb, off, none⟩) (len - lo) 0 else .slice (some ⟨pb, off + lo, none⟩) (len - lo) (cap - lo)) w := by
  by_cases h : lo = cap
  · rw [if_pos h]
    go_simp
    intro hh
    omega
  · rw [if_neg h]
    go_simp
    intro hh
    omega

theorem slice_ex (pb off len cap lo : Nat) (h1 : lo ≤ len) (h2 : len ≤ cap) (h3 : cap ≤ 18000000000000) : ∃ a' cap', (∀ w : World, (Instr.slice 42 (.slice (some ⟨pb, off, none⟩) len cap) (some (.int .i64 (lo : Int))) none none).run Tryz.prog w = .ok (.slice a' (len - lo) cap') w) ∧ len - lo ≤ cap' ∧ cap' ≤ 18000000000000 ∧ (lo < len → a' = some ⟨pb, off + lo, none⟩) := by
  by_cases h : lo = cap
  · exact ⟨some ⟨pb, off, none⟩, 0, fun w => by rw [slice_run pb off len cap lo h1 h2 h3 w, if_pos h], by omega, by omega, fun hl => by omega⟩
  · exact ⟨some ⟨pb, off + lo, none⟩, cap - lo, fun w => by rw [slice_run pb off len cap lo h1 h2 h3 w, if_neg h], by omega, by omega, fun _ => rfl⟩

theorem box_txt_succ {d : Nat} {c : Int} {raw : List Int} {i us : Nat} {mk : Q.Mk} (hu : (boxL d c raw i).2 = us) (hm : Q.madeM d ((c :: raw).drop us) = mk) (hi : i < 10) (m : Bool) :
    (boxL d c raw (i + 1)).1.txt [44, 32] m true = (boxL d c raw i).1.txt [44, 32] m true ++ ((if i = 0 then [] else [44, 32]) ++ ((if m then 107 :: ((dgB i).data.toList ++ [58, 32]) else []) ++ mk.flow)) := by
  unfold boxL at hu ⊢
  rw [Q.madeL_txt, hu, hm, Nat.zero_add, Q.keyK_txt hi]
  simp [dgB]
theorem box_lns_succ {d : Nat} {c : Int} {raw : List Int} {i us : Nat} {mk : Q.Mk} (hu : (boxL d c raw i).2 = us) (hm : Q.madeM d ((c :: raw).drop us) = mk) (hi : i < 10) (m : Bool) (e : Nat) :
    (boxL d c raw (i + 1)).1.lns [44, 32] [10] e m = (boxL d c raw i).1.lns [44, 32] [10] e m ++ (List.replicate (2 * e) 32 ++ ((if m then 107 :: ((dgB i).data.toList ++ [58]) else [45]) ++ (if (decide (Q.pk (c.tdiv 64) 3 ≠ 0) && mk.box) = true then [10] ++ mk.lines [10] (e + 1) else 32 :: (mk.flow ++ [10])))) := by
  unfold boxL at hu ⊢
  rw [Q.madeL_lns, hu, hm, Nat.zero_add, Q.keyK_txt hi]
  simp [dgB]
theorem box_used_succ {d : Nat} {c : Int} {raw : List Int} {i us : Nat} {mk : Q.Mk} (hu : (boxL d c raw i).2 = us) (hm : Q.madeM d ((c :: raw).drop us) = mk) : (boxL d c raw (i + 1)).2 = us + mk.used := by
  unfold boxL at hu ⊢
  rw [Q.madeL_used, hu, hm]

/-- What is left of the raw numbers. -/
theorem RawOk.rest {w : World} {pb off len cap : Nat} {raw : List Int} (h : RawOk w (.slice (some ⟨pb, off, none⟩) len cap) raw) (hl : len = raw.length) {lo us : Nat} (hlo : lo = min us len) (a : Option Addr) (cap' : Nat) (hc' : raw.length - lo ≤ cap' ∧ cap' ≤ 18000000000000) (ha : lo < raw.length → a = some ⟨pb, off + lo, none⟩) :
    RawOk w (.slice a (raw.length - lo) cap') (raw.drop us) := by
  have hdl : (raw.drop us).length = raw.length - lo := by rw [List.length_drop]; omega
  have hde : raw.drop us = raw.drop lo := by
    by_cases hu : us ≤ len
    · rw [hlo, Nat.min_eq_left hu]
    · rw [List.drop_eq_nil_of_le (by omega), List.drop_eq_nil_of_le (by omega)]
  obtain ⟨a0, cap0, e, h1, h2, h3⟩ := h.shape
  injection e with e1 e2 e3
  subst e1
  refine ⟨⟨a, cap', by rw [hdl], by rw [hdl]; exact hc'.1, hc'.2, fun hp => ?_⟩, fun x hx => h.num x (List.mem_of_mem_drop hx)⟩
  rw [hdl] at hp
  obtain ⟨pb', off', e4, hlt, hcell⟩ := h3 (by omega)
  cases e4
  refine ⟨pb, off + lo, ha (by omega), hlt, fun j hj => ?_⟩
  rw [hdl] at hj
  have := hcell (lo + j) (by omega)
  rw [Nat.add_assoc, this]
  congr 2
  have : (raw.drop us)[j]? = raw[lo + j]? := by rw [hde, List.getElem?_drop]
  rw [List.getElem?_eq_getElem (by rw [hdl]; omega), List.getElem?_eq_getElem (by omega)] at this
  exact (Option.some.inj this).symm

set_option maxRecDepth 20000 in
set_option maxHeartbeats 3000000 in
theorem kMade_box (d e : Nat) (w : World) (v : Value) (c : Int) (raw : List Int) (hv : RawOk w v (c :: raw)) (hk : ¬ pickM c 8 < 3) (he : e + (d + 1) ≤ 4)
    (ih : Hid (∀ (raw' : List Int) (e' : Nat) (w' : World) (v' : Value), RawOk w' v' raw' → e' + d ≤ 4 → Calls Tryz.prog 22 #[v', .int .i64 (e' : Int), .int .i64 (d : Int)] w' fun en w'' => MadePost d raw' e' w' en w'')) :
    Calls Tryz.prog 22 #[v, .int .i64 (e : Int), .int .i64 ((d : Int) + 1)] w fun en w' => MadePost (d + 1) (c :: raw) e w en w' := by
  obtain ⟨a, cap, rfl, hcap, hcap2, h3⟩ := hv.shape
  obtain ⟨pb, off, rfl, hlt, hc⟩ := h3 (by simp)
  have hcb := hv.num c (List.mem_cons_self ..)
  obtain ⟨n, hn, hn3⟩ : ∃ n : Nat, pickM (c.tdiv 8) 3 = (n : Int) ∧ n ≤ 2 := by
    have := pickM_bd (c := c.tdiv 8) (n := 3) (by omega)
    exact ⟨(pickM (c.tdiv 8) 3).toNat, by omega, by omega⟩
  have HBX : Hid _ := box_is (d := d) (raw := raw) (n := n + 1) hk (by push_cast; omega)
  have hk8 := pickM_bd (c := c) (n := 8) (by omega)
  have HPK : Hid (∀ W : World, Calls Tryz.prog 17 #[.int .i64 c, .int .i64 8] W fun e w' => e = .returned (.int .i64 (pickM c 8)) ∧ w' = W) := fun W => kPick_any c 8 hcb (by omega) W
  have HPN : Hid (∀ W : World, Calls Tryz.prog 17 #[.int .i64 (c.tdiv 8), .int .i64 3] W fun e w' => e = .returned (.int .i64 (n : Int)) ∧ w' = W) := fun W => by
    have := kPick_any (c.tdiv 8) 3 (tdiv_bd (by omega) hcb) (by omega) W
    rw [hn] at this
    exact this
  have hq := pickM_bd (c := c.tdiv 64) (n := 3) (by omega)
  have HPQ : Hid (∀ W : World, Calls Tryz.prog 17 #[.int .i64 (c.tdiv 64), .int .i64 3] W fun e w' => e = .returned (.int .i64 (pickM (c.tdiv 64) 3)) ∧ w' = W) := fun W => kPick_any (c.tdiv 64) 3 (tdiv_bd (by omega) hcb) (by omega) W
  have HBL : Hid (decide (Q.pk (c.tdiv 64) 3 ≠ 0) = !(decide (pickM (c.tdiv 64) 3 = 0))) := by unfold Hid; rw [pk_eq]; simp
  obtain ⟨W, hW⟩ : ∃ W, W = w.alloc (.cells #[.string ⟨#[]⟩, .string ⟨#[]⟩, .int .i64 0] 44) := ⟨_, rfl⟩
  have hbW : But [] w W := by rw [hW]; exact alloc_but _ _
  have hBW : Blk W w.heap.size #[.string ⟨#[]⟩, .string ⟨#[]⟩, .int .i64 0] 44 := by rw [hW]; exact blk_new _ _ _
  have hvW : RawOk W (.slice (some ⟨pb, off, none⟩) (c :: raw).length cap) (c :: raw) := hv.but hbW
  have hc0 : W.cell? ⟨pb, off, none⟩ = some (.int .i64 c) := by
    have h0 := hc 0 (by simp)
    simp only [List.getElem_cons_zero, Nat.add_zero] at h0
    rw [← h0]
    simp only [World.cell?]
    rw [hbW.block pb hlt (by simp)]
  have HW : Hid _ := hW
  have HV : Hid _ := hvW
  have HBB : Hid _ := hBW
  have HbW : Hid _ := hbW
  obtain ⟨len, hlen⟩ : ∃ n, n = (c :: raw).length := ⟨_, rfl⟩
  have hl1 : 1 ≤ len := by rw [hlen]; simp
  have hl2 : len ≤ cap := by rw [hlen]; exact hcap
  rw [← hlen] at HV ⊢
  have HLN : Hid _ := hlen
  clear hW hvW hBW hbW hc h3 hv hcap hn hlen hlt
  generalize hkk : pickM c 8 = kk at *
  have HKK : Hid _ := hkk
  clear hkk
  have hd1 : ((d : Int) + 1 == 0) = false := by
    rw [beq_eq_false_iff_ne]
    omega
  go_enter Tryz.func22, Tryz.ntmps22
  go_upto_region 1 with fail
  rw [← HW.out]
  go_wp2_with fail
  refine Calls.mono (HPK.out W) ?_
  rintro e0 w1 ⟨rfl, hw1⟩
  rw [hw1]
  clear hw1
  go_wp2_with fail
  refine Calls.mono (HPN.out W) ?_
  rintro e0 w1 ⟨rfl, hw1⟩
  rw [hw1]
  clear hw1 HPK HPN
  go_upto_region 9 with fail
  by_cases h5 : 5 < kk
  · have hmk : (if 5 < kk then 2 else 1) = 2 := if_pos h5
    go_wp2_with fail
    go_loop [15, 16] (fun bl iv => ∃ (q : Nat) (x : ByteArray), q ≤ e ∧ iv = .int .i64 (q : Int) ∧ bl = .string x ∧ Hid (x = bK (List.replicate (2 * q) 32)) ∧ x.size ≤ 2 * q) (fun _ iv => e + 1 - (intOf iv).toNat)
    case atStart => exact ⟨0, _, Nat.zero_le _, rfl, rfl, rfl, by decide⟩
    case round =>
      obtain ⟨q, bl, hq, rfl, rfl, HBK, hbs⟩ := hrel
      by_cases hqe : q < e
      · go_wp2_with fail
        go_round
        case rel =>
          refine ⟨q + 1, _, by omega, by go_num, rfl, ?_, ?_⟩
          · unfold Hid
            have hr : List.replicate (2 * (q + 1)) (32 : UInt8) = List.replicate (2 * q) 32 ++ [32, 32] := by
              rw [show 2 * (q + 1) = 2 * q + 2 by omega, ← List.replicate_append_replicate]
              rfl
            rw [HBK.out, hr]
            apply ByteArray.ext
            simp [ByteArray.data_append]
          · simp only [ByteArray.size_append]
            show bl.size + 2 ≤ _
            omega
        case measure => simp [intOf]; omega
      · have hqq : q = e := by omega
        subst hqq
        go_wp2_with fail
        go_loopg [12, 13, 14, 17, 18, 19, 20] (n + 2) (fun gk us fl ln iv _ _ _ wr => ∃ (i : Nat) (x y : ByteArray), gk = n + 2 - i ∧ i ≤ n + 1 ∧ us = .int .i64 (((boxL d c raw i).2 : Nat) : Int) ∧ fl = .string x ∧ ln = .string y ∧ iv = .int .i64 (i : Int) ∧ Hid (x = bK (123 :: (boxL d c raw i).1.txt [44, 32] true true)) ∧ Hid (y = bK ((boxL d c raw i).1.lns [44, 32] [10] q true)) ∧ But [] W wr)
        case atStart => exact ⟨0, _, _, rfl, Nat.zero_le _, rfl, rfl, rfl, rfl, rfl, rfl, But.refl _ _⟩
        case round =>
          obtain ⟨i, x, y, rfl, hi, rfl, rfl, rfl, rfl, HX, HY, hbr⟩ := hrel
          by_cases hin : i < n + 1
          · have hus := box_used (by omega) c raw (d := d) (i := i) (by omega)
            have hxs : x.size ≤ 20000 := by rw [HX.out]; exact box_txt (by omega) c raw _ _ (by omega)
            have hys : y.size ≤ 100000 := by rw [HY.out]; exact box_lns (by omega) c raw _ (by omega)
            generalize hu : (boxL d c raw i).2 = us at *
            have HU : Hid _ := hu
            clear hu
            obtain ⟨lo, hlo⟩ : ∃ lo, lo = min us len := ⟨_, rfl⟩
            have hmin : min (us : Int) (len : Int) = (lo : Int) := by omega
            have hll : lo ≤ len := by omega
            have HLO : Hid _ := hlo
            clear hlo
            obtain ⟨a', cap', hsl, hs1, hs2, hs3⟩ := slice_ex pb off len cap lo hll hl2 hcap2
            have HI : Hid (Calls Tryz.prog 22 #[.slice a' (len - lo) cap', .int .i64 ((q : Int) + 1), .int .i64 (d : Int)] wr fun en w'' => MadePost d ((c :: raw).drop us) (q + 1) wr en w'') := by
              have hR := (HV.out.but hbr).rest HLN.out HLO.out a' cap' ⟨by rw [← HLN.out]; exact hs1, hs2⟩ (by rw [← HLN.out]; exact hs3)
              rw [← HLN.out] at hR
              have h := ih.out _ (q + 1) wr _ hR (by omega)
              push_cast at h
              exact h
            clear hs3 hs1 hs2
            go_wp2_with fail
            refine Calls.mono HI.out ?_
            rintro en w2 ⟨f1, f2, rfl, hb2, hf1, hf2⟩
            have hf1s : f1.size ≤ 10240 := by rw [hf1]; exact made_flow_size (by omega) _
            have hf2s : f2.size ≤ 102400 := by rw [hf2]; exact made_lines_size (by omega) _ _ (by omega)
            have hOk := Q.madeM_ok d ((c :: raw).drop us)
            have hfu : (Q.madeM d ((c :: raw).drop us)).used ≤ 64 := by
              have h1 := hOk.used
              have h2 : 4 ^ d ≤ 4 ^ 3 := Nat.pow_le_pow_right (by omega) (by omega)
              omega
            generalize hmk2 : Q.madeM d ((c :: raw).drop us) = mk at *
            have HTX : Hid _ := box_txt_succ HU.out hmk2 (show i < 10 by omega) true
            have HLS : Hid _ := box_lns_succ HU.out hmk2 (show i < 10 by omega) true q
            have HUS : Hid _ := box_used_succ HU.out hmk2
            have HF1 : Hid _ := hf1
            have HF2 : Hid _ := hf2
            have hbxc : (mk.box = true ∧ ¬ f2.toList = []) ∨ (mk.box = false ∧ f2.toList = []) := by
              by_cases hb : mk.box = true
              · left
                refine ⟨hb, ?_⟩
                rw [Lib.toList_data, hf2]
                exact Q.lines_ne hOk [10] (q + 1) hb
              · right
                refine ⟨by simpa using hb, ?_⟩
                rw [Lib.toList_data, hf2]
                unfold Q.Mk.lines
                rw [if_neg hb]
            generalize hfuu : mk.used = fu at *
            have HBC : Hid _ := hbxc
            clear hf1 hf2 hOk HI hmk2 hbxc hfuu hsl
            obtain ⟨V, hV⟩ : ∃ V, V = w2.alloc (.cells #[.string f1, .string f2, .int .i64 (fu : Int)] 44) := ⟨_, rfl⟩
            have hbV : But [] W V := by rw [hV]; exact (hbr.trans hb2 (by simp)).alloc _
            have hBV : Blk V w2.heap.size #[.string f1, .string f2, .int .i64 (fu : Int)] 44 := by rw [hV]; exact blk_new _ _ _
            have HVV : Hid _ := hV
            have g0 := hBV.cell (i := 0) rfl
            have g1 := hBV.cell (i := 1) rfl
            have g2 := hBV.cell (i := 2) rfl
            have HTW : Hid _ := kTwo_any i (by omega) V
            have hdg : (dgB i).size ≤ 1 := by show (bK [_]).size ≤ 1; rw [bK_size]; simp
            have HPV : Hid _ := HPQ.out V
            clear hV hBV hb2 hbr
            go_upto_region 24 with fail
            rw [← HVV.out]
            go_wp2_with fail
            refine Calls.mono HTW.out ?_
            rintro e0 w1 ⟨rfl, hw1⟩
            rw [hw1]
            clear hw1 HTW
            generalize hdd : dgB i = dg at *
            have HDG : Hid _ := hdd
            clear hdd
            by_cases hi0 : 0 < i
            · rcases HBC.out with ⟨hb, hne⟩ | ⟨hb, hne⟩
              · by_cases hpq : pickM (c.tdiv 64) 3 = 0
                · have hblw : (decide (Q.pk (c.tdiv 64) 3 ≠ 0) && mk.box) = false := by rw [HBL.out, hpq]; rfl
                  have hpz : ((pickM (c.tdiv 64) 3) == 0) = true := by rw [hpq]; rfl
                  clear hpq HBC
                  go_wp2_with fail
                  refine Calls.mono HPV.out ?_
                  rintro e0 w1 ⟨rfl, hw1⟩
                  rw [hw1]
                  clear hw1 HPV
                  go_wp2_with fail
                  go_roundg (n + 2 - (i + 1))
                  case measure => omega
                  case rel =>
                    refine ⟨i + 1, _, _, rfl, by omega, by rw [HUS.out]; go_num, rfl, rfl, by go_num, ?_, ?_, hbV⟩
                    · unfold Hid
                      rw [HTX.out, HX.out, HF1.out, ← HDG.out]
                      apply ByteArray.ext
                      simp [ByteArray.data_append, Nat.pos_iff_ne_zero.1 hi0]
                    · unfold Hid
                      rw [HLS.out, hblw, HY.out, HBK.out, HF1.out, ← HDG.out]
                      apply ByteArray.ext
                      simp [ByteArray.data_append]
                · have hblw : (decide (Q.pk (c.tdiv 64) 3 ≠ 0) && mk.box) = true := by rw [HBL.out, hb]; simpa using hpq
                  have hpz : ((pickM (c.tdiv 64) 3) == 0) = false := by simpa using hpq
                  have hem : f2.toList.isEmpty = false := by simpa using hne
                  clear hpq HBC
                  go_wp2_with fail
                  refine Calls.mono HPV.out ?_
                  rintro e0 w1 ⟨rfl, hw1⟩
                  rw [hw1]
                  clear hw1 HPV
                  go_wp2_with fail
                  go_roundg (n + 2 - (i + 1))
                  case measure => omega
                  case rel =>
                    refine ⟨i + 1, _, _, rfl, by omega, by rw [HUS.out]; go_num, rfl, rfl, by go_num, ?_, ?_, hbV⟩
                    · unfold Hid
                      rw [HTX.out, HX.out, HF1.out, ← HDG.out]
                      apply ByteArray.ext
                      simp [ByteArray.data_append, Nat.pos_iff_ne_zero.1 hi0]
                    · unfold Hid
                      rw [HLS.out, hblw, HY.out, HBK.out, HF2.out, ← HDG.out]
                      apply ByteArray.ext
                      simp [ByteArray.data_append]
              · have hblw : (decide (Q.pk (c.tdiv 64) 3 ≠ 0) && mk.box) = false := by rw [hb]; simp
                clear HBC
                go_wp2_with fail
                go_roundg (n + 2 - (i + 1))
                case measure => omega
                case rel =>
                  refine ⟨i + 1, _, _, rfl, by omega, by rw [HUS.out]; go_num, rfl, rfl, by go_num, ?_, ?_, hbV⟩
                  · unfold Hid
                    rw [HTX.out, HX.out, HF1.out, ← HDG.out]
                    apply ByteArray.ext
                    simp [ByteArray.data_append, Nat.pos_iff_ne_zero.1 hi0]
                  · unfold Hid
                    rw [HLS.out, hblw, HY.out, HBK.out, HF1.out, ← HDG.out]
                    apply ByteArray.ext
                    simp [ByteArray.data_append]
            · rcases HBC.out with ⟨hb, hne⟩ | ⟨hb, hne⟩
              · by_cases hpq : pickM (c.tdiv 64) 3 = 0
                · have hblw : (decide (Q.pk (c.tdiv 64) 3 ≠ 0) && mk.box) = false := by rw [HBL.out, hpq]; rfl
                  have hpz : ((pickM (c.tdiv 64) 3) == 0) = true := by rw [hpq]; rfl
                  clear hpq HBC
                  go_wp2_with fail
                  refine Calls.mono HPV.out ?_
                  rintro e0 w1 ⟨rfl, hw1⟩
                  rw [hw1]
                  clear hw1 HPV
                  go_wp2_with fail
                  go_roundg (n + 2 - (i + 1))
                  case measure => omega
                  case rel =>
                    refine ⟨i + 1, _, _, rfl, by omega, by rw [HUS.out]; go_num, rfl, rfl, by go_num, ?_, ?_, hbV⟩
                    · unfold Hid
                      rw [HTX.out, HX.out, HF1.out, ← HDG.out]
                      apply ByteArray.ext
                      simp [ByteArray.data_append, Nat.eq_zero_of_not_pos hi0]
                    · unfold Hid
                      rw [HLS.out, hblw, HY.out, HBK.out, HF1.out, ← HDG.out]
                      apply ByteArray.ext
                      simp [ByteArray.data_append]
                · have hblw : (decide (Q.pk (c.tdiv 64) 3 ≠ 0) && mk.box) = true := by rw [HBL.out, hb]; simpa using hpq
                  have hpz : ((pickM (c.tdiv 64) 3) == 0) = false := by simpa using hpq
                  have hem : f2.toList.isEmpty = false := by simpa using hne
                  clear hpq HBC
                  go_wp2_with fail
                  refine Calls.mono HPV.out ?_
                  rintro e0 w1 ⟨rfl, hw1⟩
                  rw [hw1]
                  clear hw1 HPV
                  go_wp2_with fail
                  go_roundg (n + 2 - (i + 1))
                  case measure => omega
                  case rel =>
                    refine ⟨i + 1, _, _, rfl, by omega, by rw [HUS.out]; go_num, rfl, rfl, by go_num, ?_, ?_, hbV⟩
                    · unfold Hid
                      rw [HTX.out, HX.out, HF1.out, ← HDG.out]
                      apply ByteArray.ext
                      simp [ByteArray.data_append, Nat.eq_zero_of_not_pos hi0]
                    · unfold Hid
                      rw [HLS.out, hblw, HY.out, HBK.out, HF2.out, ← HDG.out]
                      apply ByteArray.ext
                      simp [ByteArray.data_append]
              · have hblw : (decide (Q.pk (c.tdiv 64) 3 ≠ 0) && mk.box) = false := by rw [hb]; simp
                clear HBC
                go_wp2_with fail
                go_roundg (n + 2 - (i + 1))
                case measure => omega
                case rel =>
                  refine ⟨i + 1, _, _, rfl, by omega, by rw [HUS.out]; go_num, rfl, rfl, by go_num, ?_, ?_, hbV⟩
                  · unfold Hid
                    rw [HTX.out, HX.out, HF1.out, ← HDG.out]
                    apply ByteArray.ext
                    simp [ByteArray.data_append, Nat.eq_zero_of_not_pos hi0]
                  · unfold Hid
                    rw [HLS.out, hblw, HY.out, HBK.out, HF1.out, ← HDG.out]
                    apply ByteArray.ext
                    simp [ByteArray.data_append]
          · have hie : i = n + 1 := by omega
            subst hie
            have hxs : x.size ≤ 20000 := by rw [HX.out]; exact box_txt (by omega) c raw _ _ (by omega)
            have hys : y.size ≤ 100000 := by rw [HY.out]; exact box_lns (by omega) c raw _ (by omega)
            have hBr := hbr.blk HBB.out (by simp)
            have hbwr : But [] w wr := HbW.out.trans hbr (by simp)
            have k0 := hBr.cell (i := 0) rfl
            have k1 := hBr.cell (i := 1) rfl
            have k2 := hBr.cell (i := 2) rfl
            have f0 := hBr.free 0
            have f1 := hBr.free 1
            have f2 := hBr.free 2
            generalize hu : (boxL d c raw (n + 1)).2 = us at *
            have HU : Hid _ := hu
            have hBF := ((hBr.set 0 (.string (x ++ ⟨#[125]⟩))).set 1 (.string y)).set 2 (.int .i64 (us : Int))
            have r0 := hBF.cell (i := 0) rfl
            have r1 := hBF.cell (i := 1) rfl
            have r2 := hBF.cell (i := 2) rfl
            have HBF : Hid (But [] w (((wr.setCell ⟨w.heap.size, 0, none⟩ (.string (x ++ ⟨#[125]⟩))).setCell ⟨w.heap.size, 1, none⟩ (.string y)).setCell ⟨w.heap.size, 2, none⟩ (.int .i64 (us : Int)))) := ((hbwr.setCell (.inr (Nat.le_refl _)) _).setCell (.inr (Nat.le_refl _)) _).setCell (.inr (Nat.le_refl _)) _
            clear hu hbr hBr hbwr
            go_wp2_with fail
            refine bodyPost_ret (v := .agg #[.string (x ++ ⟨#[125]⟩), .string y, .int .i64 (us : Int)]) (by simp [results, Tryz.results22, go_sem, r0, r1, r2]) rfl ?_
            unfold MadePost
            rw [HBX.out, hmk]
            refine ⟨_, _, (by first | rfl | rw [HU.out]), HBF.out, ?_, ?_⟩
            · rw [Q.flow_box rfl, HX.out]
              apply ByteArray.ext
              simp [ByteArray.data_append]
            · rw [HY.out]
              rfl
  · have hmk : (if 5 < kk then 2 else 1) = 1 := if_neg h5
    go_wp2_with fail
    go_loop [15, 16] (fun bl iv => ∃ (q : Nat) (x : ByteArray), q ≤ e ∧ iv = .int .i64 (q : Int) ∧ bl = .string x ∧ Hid (x = bK (List.replicate (2 * q) 32)) ∧ x.size ≤ 2 * q) (fun _ iv => e + 1 - (intOf iv).toNat)
    case atStart => exact ⟨0, _, Nat.zero_le _, rfl, rfl, rfl, by decide⟩
    case round =>
      obtain ⟨q, bl, hq, rfl, rfl, HBK, hbs⟩ := hrel
      by_cases hqe : q < e
      · go_wp2_with fail
        go_round
        case rel =>
          refine ⟨q + 1, _, by omega, by go_num, rfl, ?_, ?_⟩
          · unfold Hid
            have hr : List.replicate (2 * (q + 1)) (32 : UInt8) = List.replicate (2 * q) 32 ++ [32, 32] := by
              rw [show 2 * (q + 1) = 2 * q + 2 by omega, ← List.replicate_append_replicate]
              rfl
            rw [HBK.out, hr]
            apply ByteArray.ext
            simp [ByteArray.data_append]
          · simp only [ByteArray.size_append]
            show bl.size + 2 ≤ _
            omega
        case measure => simp [intOf]; omega
      · have hqq : q = e := by omega
        subst hqq
        go_wp2_with fail
        go_loopg [12, 13, 14, 17, 18, 19, 20] (n + 2) (fun gk us fl ln iv _ _ _ wr => ∃ (i : Nat) (x y : ByteArray), gk = n + 2 - i ∧ i ≤ n + 1 ∧ us = .int .i64 (((boxL d c raw i).2 : Nat) : Int) ∧ fl = .string x ∧ ln = .string y ∧ iv = .int .i64 (i : Int) ∧ Hid (x = bK (91 :: (boxL d c raw i).1.txt [44, 32] false true)) ∧ Hid (y = bK ((boxL d c raw i).1.lns [44, 32] [10] q false)) ∧ But [] W wr)
        case atStart => exact ⟨0, _, _, rfl, Nat.zero_le _, rfl, rfl, rfl, rfl, rfl, rfl, But.refl _ _⟩
        case round =>
          obtain ⟨i, x, y, rfl, hi, rfl, rfl, rfl, rfl, HX, HY, hbr⟩ := hrel
          by_cases hin : i < n + 1
          · have hus := box_used (by omega) c raw (d := d) (i := i) (by omega)
            have hxs : x.size ≤ 20000 := by rw [HX.out]; exact box_txt (by omega) c raw _ _ (by omega)
            have hys : y.size ≤ 100000 := by rw [HY.out]; exact box_lns (by omega) c raw _ (by omega)
            generalize hu : (boxL d c raw i).2 = us at *
            have HU : Hid _ := hu
            clear hu
            obtain ⟨lo, hlo⟩ : ∃ lo, lo = min us len := ⟨_, rfl⟩
            have hmin : min (us : Int) (len : Int) = (lo : Int) := by omega
            have hll : lo ≤ len := by omega
            have HLO : Hid _ := hlo
            clear hlo
            obtain ⟨a', cap', hsl, hs1, hs2, hs3⟩ := slice_ex pb off len cap lo hll hl2 hcap2
            have HI : Hid (Calls Tryz.prog 22 #[.slice a' (len - lo) cap', .int .i64 ((q : Int) + 1), .int .i64 (d : Int)] wr fun en w'' => MadePost d ((c :: raw).drop us) (q + 1) wr en w'') := by
              have hR := (HV.out.but hbr).rest HLN.out HLO.out a' cap' ⟨by rw [← HLN.out]; exact hs1, hs2⟩ (by rw [← HLN.out]; exact hs3)
              rw [← HLN.out] at hR
              have h := ih.out _ (q + 1) wr _ hR (by omega)
              push_cast at h
              exact h
            clear hs3 hs1 hs2
            go_wp2_with fail
            refine Calls.mono HI.out ?_
            rintro en w2 ⟨f1, f2, rfl, hb2, hf1, hf2⟩
            have hf1s : f1.size ≤ 10240 := by rw [hf1]; exact made_flow_size (by omega) _
            have hf2s : f2.size ≤ 102400 := by rw [hf2]; exact made_lines_size (by omega) _ _ (by omega)
            have hOk := Q.madeM_ok d ((c :: raw).drop us)
            have hfu : (Q.madeM d ((c :: raw).drop us)).used ≤ 64 := by
              have h1 := hOk.used
              have h2 : 4 ^ d ≤ 4 ^ 3 := Nat.pow_le_pow_right (by omega) (by omega)
              omega
            generalize hmk2 : Q.madeM d ((c :: raw).drop us) = mk at *
            have HTX : Hid _ := box_txt_succ HU.out hmk2 (show i < 10 by omega) false
            have HLS : Hid _ := box_lns_succ HU.out hmk2 (show i < 10 by omega) false q
            have HUS : Hid _ := box_used_succ HU.out hmk2
            have HF1 : Hid _ := hf1
            have HF2 : Hid _ := hf2
            have hbxc : (mk.box = true ∧ ¬ f2.toList = []) ∨ (mk.box = false ∧ f2.toList = []) := by
              by_cases hb : mk.box = true
              · left
                refine ⟨hb, ?_⟩
                rw [Lib.toList_data, hf2]
                exact Q.lines_ne hOk [10] (q + 1) hb
              · right
                refine ⟨by simpa using hb, ?_⟩
                rw [Lib.toList_data, hf2]
                unfold Q.Mk.lines
                rw [if_neg hb]
            generalize hfuu : mk.used = fu at *
            have HBC : Hid _ := hbxc
            clear hf1 hf2 hOk HI hmk2 hbxc hfuu hsl
            obtain ⟨V, hV⟩ : ∃ V, V = w2.alloc (.cells #[.string f1, .string f2, .int .i64 (fu : Int)] 44) := ⟨_, rfl⟩
            have hbV : But [] W V := by rw [hV]; exact (hbr.trans hb2 (by simp)).alloc _
            have hBV : Blk V w2.heap.size #[.string f1, .string f2, .int .i64 (fu : Int)] 44 := by rw [hV]; exact blk_new _ _ _
            have HVV : Hid _ := hV
            have g0 := hBV.cell (i := 0) rfl
            have g1 := hBV.cell (i := 1) rfl
            have g2 := hBV.cell (i := 2) rfl
            have HTW : Hid _ := kTwo_any i (by omega) V
            have hdg : (dgB i).size ≤ 1 := by show (bK [_]).size ≤ 1; rw [bK_size]; simp
            have HPV : Hid _ := HPQ.out V
            clear hV hBV hb2 hbr
            go_upto_region 24 with fail
            rw [← HVV.out]
            go_wp2_with fail
            refine Calls.mono HTW.out ?_
            rintro e0 w1 ⟨rfl, hw1⟩
            rw [hw1]
            clear hw1 HTW
            generalize hdd : dgB i = dg at *
            have HDG : Hid _ := hdd
            clear hdd
            by_cases hi0 : 0 < i
            · rcases HBC.out with ⟨hb, hne⟩ | ⟨hb, hne⟩
              · by_cases hpq : pickM (c.tdiv 64) 3 = 0
                · have hblw : (decide (Q.pk (c.tdiv 64) 3 ≠ 0) && mk.box) = false := by rw [HBL.out, hpq]; rfl
                  have hpz : ((pickM (c.tdiv 64) 3) == 0) = true := by rw [hpq]; rfl
                  clear hpq HBC
                  go_wp2_with fail
                  refine Calls.mono HPV.out ?_
                  rintro e0 w1 ⟨rfl, hw1⟩
                  rw [hw1]
                  clear hw1 HPV
                  go_wp2_with fail
                  go_roundg (n + 2 - (i + 1))
                  case measure => omega
                  case rel =>
                    refine ⟨i + 1, _, _, rfl, by omega, by rw [HUS.out]; go_num, rfl, rfl, by go_num, ?_, ?_, hbV⟩
                    · unfold Hid
                      rw [HTX.out, HX.out, HF1.out, ← HDG.out]
                      apply ByteArray.ext
                      simp [ByteArray.data_append, Nat.pos_iff_ne_zero.1 hi0]
                    · unfold Hid
                      rw [HLS.out, hblw, HY.out, HBK.out, HF1.out, ← HDG.out]
                      apply ByteArray.ext
                      simp [ByteArray.data_append]
                · have hblw : (decide (Q.pk (c.tdiv 64) 3 ≠ 0) && mk.box) = true := by rw [HBL.out, hb]; simpa using hpq
                  have hpz : ((pickM (c.tdiv 64) 3) == 0) = false := by simpa using hpq
                  have hem : f2.toList.isEmpty = false := by simpa using hne
                  clear hpq HBC
                  go_wp2_with fail
                  refine Calls.mono HPV.out ?_
                  rintro e0 w1 ⟨rfl, hw1⟩
                  rw [hw1]
                  clear hw1 HPV
                  go_wp2_with fail
                  go_roundg (n + 2 - (i + 1))
                  case measure => omega
                  case rel =>
                    refine ⟨i + 1, _, _, rfl, by omega, by rw [HUS.out]; go_num, rfl, rfl, by go_num, ?_, ?_, hbV⟩
                    · unfold Hid
                      rw [HTX.out, HX.out, HF1.out, ← HDG.out]
                      apply ByteArray.ext
                      simp [ByteArray.data_append, Nat.pos_iff_ne_zero.1 hi0]
                    · unfold Hid
                      rw [HLS.out, hblw, HY.out, HBK.out, HF2.out, ← HDG.out]
                      apply ByteArray.ext
                      simp [ByteArray.data_append]
              · have hblw : (decide (Q.pk (c.tdiv 64) 3 ≠ 0) && mk.box) = false := by rw [hb]; simp
                clear HBC
                go_wp2_with fail
                go_roundg (n + 2 - (i + 1))
                case measure => omega
                case rel =>
                  refine ⟨i + 1, _, _, rfl, by omega, by rw [HUS.out]; go_num, rfl, rfl, by go_num, ?_, ?_, hbV⟩
                  · unfold Hid
                    rw [HTX.out, HX.out, HF1.out, ← HDG.out]
                    apply ByteArray.ext
                    simp [ByteArray.data_append, Nat.pos_iff_ne_zero.1 hi0]
                  · unfold Hid
                    rw [HLS.out, hblw, HY.out, HBK.out, HF1.out, ← HDG.out]
                    apply ByteArray.ext
                    simp [ByteArray.data_append]
            · rcases HBC.out with ⟨hb, hne⟩ | ⟨hb, hne⟩
              · by_cases hpq : pickM (c.tdiv 64) 3 = 0
                · have hblw : (decide (Q.pk (c.tdiv 64) 3 ≠ 0) && mk.box) = false := by rw [HBL.out, hpq]; rfl
                  have hpz : ((pickM (c.tdiv 64) 3) == 0) = true := by rw [hpq]; rfl
                  clear hpq HBC
                  go_wp2_with fail
                  refine Calls.mono HPV.out ?_
                  rintro e0 w1 ⟨rfl, hw1⟩
                  rw [hw1]
                  clear hw1 HPV
                  go_wp2_with fail
                  go_roundg (n + 2 - (i + 1))
                  case measure => omega
                  case rel =>
                    refine ⟨i + 1, _, _, rfl, by omega, by rw [HUS.out]; go_num, rfl, rfl, by go_num, ?_, ?_, hbV⟩
                    · unfold Hid
                      rw [HTX.out, HX.out, HF1.out, ← HDG.out]
                      apply ByteArray.ext
                      simp [ByteArray.data_append, Nat.eq_zero_of_not_pos hi0]
                    · unfold Hid
                      rw [HLS.out, hblw, HY.out, HBK.out, HF1.out, ← HDG.out]
                      apply ByteArray.ext
                      simp [ByteArray.data_append]
                · have hblw : (decide (Q.pk (c.tdiv 64) 3 ≠ 0) && mk.box) = true := by rw [HBL.out, hb]; simpa using hpq
                  have hpz : ((pickM (c.tdiv 64) 3) == 0) = false := by simpa using hpq
                  have hem : f2.toList.isEmpty = false := by simpa using hne
                  clear hpq HBC
                  go_wp2_with fail
                  refine Calls.mono HPV.out ?_
                  rintro e0 w1 ⟨rfl, hw1⟩
                  rw [hw1]
                  clear hw1 HPV
                  go_wp2_with fail
                  go_roundg (n + 2 - (i + 1))
                  case measure => omega
                  case rel =>
                    refine ⟨i + 1, _, _, rfl, by omega, by rw [HUS.out]; go_num, rfl, rfl, by go_num, ?_, ?_, hbV⟩
                    · unfold Hid
                      rw [HTX.out, HX.out, HF1.out, ← HDG.out]
                      apply ByteArray.ext
                      simp [ByteArray.data_append, Nat.eq_zero_of_not_pos hi0]
                    · unfold Hid
                      rw [HLS.out, hblw, HY.out, HBK.out, HF2.out, ← HDG.out]
                      apply ByteArray.ext
                      simp [ByteArray.data_append]
              · have hblw : (decide (Q.pk (c.tdiv 64) 3 ≠ 0) && mk.box) = false := by rw [hb]; simp
                clear HBC
                go_wp2_with fail
                go_roundg (n + 2 - (i + 1))
                case measure => omega
                case rel =>
                  refine ⟨i + 1, _, _, rfl, by omega, by rw [HUS.out]; go_num, rfl, rfl, by go_num, ?_, ?_, hbV⟩
                  · unfold Hid
                    rw [HTX.out, HX.out, HF1.out, ← HDG.out]
                    apply ByteArray.ext
                    simp [ByteArray.data_append, Nat.eq_zero_of_not_pos hi0]
                  · unfold Hid
                    rw [HLS.out, hblw, HY.out, HBK.out, HF1.out, ← HDG.out]
                    apply ByteArray.ext
                    simp [ByteArray.data_append]
          · have hie : i = n + 1 := by omega
            subst hie
            have hxs : x.size ≤ 20000 := by rw [HX.out]; exact box_txt (by omega) c raw _ _ (by omega)
            have hys : y.size ≤ 100000 := by rw [HY.out]; exact box_lns (by omega) c raw _ (by omega)
            have hBr := hbr.blk HBB.out (by simp)
            have hbwr : But [] w wr := HbW.out.trans hbr (by simp)
            have k0 := hBr.cell (i := 0) rfl
            have k1 := hBr.cell (i := 1) rfl
            have k2 := hBr.cell (i := 2) rfl
            have f0 := hBr.free 0
            have f1 := hBr.free 1
            have f2 := hBr.free 2
            generalize hu : (boxL d c raw (n + 1)).2 = us at *
            have HU : Hid _ := hu
            have hBF := ((hBr.set 0 (.string (x ++ ⟨#[93]⟩))).set 1 (.string y)).set 2 (.int .i64 (us : Int))
            have r0 := hBF.cell (i := 0) rfl
            have r1 := hBF.cell (i := 1) rfl
            have r2 := hBF.cell (i := 2) rfl
            have HBF : Hid (But [] w (((wr.setCell ⟨w.heap.size, 0, none⟩ (.string (x ++ ⟨#[93]⟩))).setCell ⟨w.heap.size, 1, none⟩ (.string y)).setCell ⟨w.heap.size, 2, none⟩ (.int .i64 (us : Int)))) := ((hbwr.setCell (.inr (Nat.le_refl _)) _).setCell (.inr (Nat.le_refl _)) _).setCell (.inr (Nat.le_refl _)) _
            clear hu hbr hBr hbwr
            go_wp2_with fail
            refine bodyPost_ret (v := .agg #[.string (x ++ ⟨#[93]⟩), .string y, .int .i64 (us : Int)]) (by simp [results, Tryz.results22, go_sem, r0, r1, r2]) rfl ?_
            unfold MadePost
            rw [HBX.out, hmk]
            refine ⟨_, _, (by first | rfl | rw [HU.out]), HBF.out, ?_, ?_⟩
            · rw [Q.flow_box rfl, HX.out]
              apply ByteArray.ext
              simp [ByteArray.data_append]
            · rw [HY.out]
              rfl

end Go.Proofs.YtkflkmmbakccoaaGreatDoor
