/- PARTS: C7. -/
import Derived.Test.YtkflkmmbakccoaaGreatDoorI36
import Derived.Test.YtkflkmmbakccoaaGreatDoorI14

/- WALKS: package grafterref: Get. -/
namespace Go.Proofs.YtkflkmmbakccoaaGreatDoor
open Go.RowKit Go.Maps

abbrev nodeObj (r : RRow) (ka pa : Option Addr) (kc pc : Nat) : Array Value := #[.int .u8 (kbyte r.n.kind : Int), .string r.n.text, .slice ka r.n.keys.length kc, .slice pa r.n.parts.length pc, .int .i64 (r.n.high : Int), .int .i64 (r.n.heavy : Int)]

set_option maxRecDepth 20000 in
set_option maxHeartbeats 1000000 in
theorem rGet_any {N b : Nat} {nv : Value} {rows : List RRow} {base : Nat} {nodes : List NodeV} (hR : RSame nodes rows) (hW : Whole nodes) (hpos : 0 < rows.length) (w : World) (hG : RG N b nv rows base w) (v : Value) (path : List ByteArray) (hP : PathOk w v path) :
    Calls Tryz.prog 54 #[.pointer (some ⟨b, 0, none⟩), v] w fun e w' => e = .returned (getV nodes (getM nodes path 0)) ∧ But [] w w' := by
  have hnl : nodes.length = rows.length := by rw [hR.same]; simp
  have hrl : rows.length ≤ 500 := by have := hW.len; omega
  obtain ⟨va, vcap, hv, hvc, _⟩ := hP.shape
  subst hv
  have hlen := hP.len
  have HP : Hid (PathOk w (.slice va path.length vcap) path) := hP
  have HG : Hid (RG N b nv rows base w) := hG
  clear hP hG
  go_enter Tryz.func54, Tryz.ntmps54
  go_upto_region 3 with fail
  go_loopw [6, 7] (fun kv iv wr => ∃ (j id : Nat), j ≤ path.length ∧ iv = .int .i64 (j : Int) ∧ kv = .int .i64 (id : Int) ∧ id < rows.length ∧ getM nodes path 0 = getM nodes (path.drop j) id ∧ But [] w wr) (fun _ iv _ => path.length - (intOf iv).toNat)
  case atStart => exact ⟨0, 0, Nat.zero_le _, rfl, rfl, hpos, rfl, But.refl _ _⟩
  case round =>
    obtain ⟨j, id, hj, rfl, rfl, hid, hget, hb⟩ := hrel
    obtain ⟨wo, hwo⟩ : ∃ wo, wo = wr := ⟨wr, rfl⟩
    subst hwo
    have HGE : Hid (getM nodes path 0 = getM nodes (path.drop j) id) := hget
    have HB : Hid (But [] w wo) := hb
    clear hget
    by_cases hjl : j < path.length
    · obtain ⟨pb, off, cap', e2, _, hcell⟩ := HP.out.cell hjl
      obtain ⟨rfl, rfl⟩ : va = some ⟨pb, off, none⟩ ∧ vcap = cap' := by simpa using e2
      have hGr := HG.out.below (hb.below HG.out.N (by simp))
      obtain ⟨cs, hcs, h8⟩ := hGr.rd
      have d8 : wo.cell? ⟨b, 8, none⟩ = some nv := hcs.cell h8
      obtain ⟨nb, ncap, hnv, hncap, hcn⟩ := hGr.node id hid
      have n0 := hcn 0 (by omega)
      have n1 := hcn 1 (by omega)
      have n2 := hcn 2 (by omega)
      have n3 := hcn 3 (by omega)
      have n4 := hcn 4 (by omega)
      have n5 := hcn 5 (by omega)
      simp only [RRow.cells, List.getElem?_cons_succ, List.getElem?_cons_zero, Nat.add_zero] at n0 n1 n2 n3 n4 n5
      rw [hnv] at d8
      have hkb := hR.kb rows[id] (List.getElem_mem hid)
      have hnode := hW.node (i := id) (by omega)
      have hpt : ∀ p ∈ (nodeAt nodes id).parts, p < nodes.length ∧ highOf nodes p < highOf nodes id := fun p hp => hW.part (by omega) hp
      have hG2 : getM nodes path 0 = (findM (nodeAt nodes id) path[j]).bind fun q => getM nodes (path.drop (j + 1)) ((nodeAt nodes id).parts.getD q 0) := by
        rw [HGE.out, List.drop_eq_getElem_cons hjl]
        rfl
      have hlf := last_find hnode path[j]
      have hflt : ∀ q, findM (nodeAt nodes id) path[j] = some q → q < (nodeAt nodes id).parts.length := fun q hq => findM_lt hW (k := id) (j := q) (x := path[j]) (by omega) hq
      rw [rnodeAt hR id hid] at hnode hpt hG2 hlf hflt
      obtain ⟨ka, kc, hkv, hkc⟩ := own_shape (hGr.each rows[id] (List.getElem_mem hid)).1
      obtain ⟨pa, pc, hpv, hpc⟩ := own_shape (hGr.each rows[id] (List.getElem_mem hid)).2
      have hok := hGr.each rows[id] (List.getElem_mem hid)
      have hkw := hok.1
      have hpw := hok.2
      rw [hkv] at n2 hkw
      rw [hpv] at n3 hpw
      rw [hkb] at n0
      have hkl := hnode.keys
      have hpl := hnode.len
      have hkk : (rows[id]).n.kind = 0 ∨ (rows[id]).n.kind = 1 ∨ (rows[id]).n.kind = 2 := by have := hnode.kind; omega
      have hnone := hnode.none
      have hpb : ∀ p ∈ (rows[id]).n.parts, p < rows.length := fun p hp => by have := (hpt p hp).1; omega
      obtain ⟨W0, HW0⟩ : ∃ W0, Hid (W0 = wo.alloc (.cells (nodeObj rows[id] ka pa kc pc) 109)) := ⟨_, (rfl : wo.alloc (.cells (nodeObj rows[id] ka pa kc pc) 109) = wo.alloc (.cells (nodeObj rows[id] ka pa kc pc) 109))⟩
      have HB0 : Hid (But [] wo W0) := by rw [HW0.out]; exact alloc_but _ _
      have HL0 : Hid (Blk W0 wo.heap.size (nodeObj rows[id] ka pa kc pc) 109) := by rw [HW0.out]; exact blk_new _ _ _
      have HKW : Hid (W0.ownsRow base 9 1 (.slice ka (rows[id]).n.keys.length kc) (rows[id]).n.keys.length ((rows[id]).n.keys.map Value.string)) := ownsRow_but hkw HB0.out (by simp)
      have HPW : Hid (W0.ownsRow base 3 1 (.slice pa (rows[id]).n.parts.length pc) (rows[id]).n.parts.length ((rows[id]).n.parts.map fun (i : Nat) => Value.int .i64 (i : Int))) := ownsRow_but hpw HB0.out (by simp)
      have HCX : Hid (∀ W, But [] w W → W.cell? ⟨pb, off + j, none⟩ = some (.string path[j])) := hcell
      have HG2 : Hid (getM nodes path 0 = (findM (rows[id]).n path[j]).bind fun q => getM nodes (path.drop (j + 1)) ((rows[id]).n.parts.getD q 0)) := hG2
      have HLF : Hid (lastM (rows[id]).n path[j] (rows[id]).n.parts.length = findM (rows[id]).n path[j]) := hlf
      have HPB : Hid (∀ p ∈ (rows[id]).n.parts, p < rows.length) := hpb
      have HFL : Hid (∀ q, findM (rows[id]).n path[j] = some q → q < (rows[id]).n.parts.length) := hflt
      have HKL : Hid ((rows[id]).n.kind = 2 → (rows[id]).n.keys.length = (rows[id]).n.parts.length) := fun h => by rw [hkl, if_pos h]
      have HKK : Hid ((rows[id]).n.kind = 0 ∨ (rows[id]).n.kind = 1 ∨ (rows[id]).n.kind = 2) := hkk
      have HNO : Hid ((rows[id]).n.kind = 0 → (rows[id]).n.parts = []) := hnone
      have hwr0 : HB.out.size = HB.out.size := rfl
      generalize path[j] = y at *
      generalize rows[id] = r at *
      clear hcn hcs h8 hcell hkb hnode hpt hG2 hlf hflt hkv hpv hok hkw hpw hkl hkk hnone hpb hb hGr e2 hwr0
      go_upto_region 8 with fail
      rw [← HW0.out]
      clear n0 n1 n2 n3 n4 n5 d8
      go_loopw [9, 10] (fun nx iv wq => ∃ (m : Nat), m ≤ r.n.parts.length ∧ iv = .int .i64 (m : Int) ∧ nx = .int .i64 (nextI r.n (lastM r.n y m)) ∧ But [] W0 wq) (fun _ iv _ => r.n.parts.length - (intOf iv).toNat)
      case atStart => exact ⟨0, Nat.zero_le _, rfl, rfl, But.refl _ _⟩
      case round =>
        obtain ⟨m, hm, rfl, rfl, hbq⟩ := hrel
        have hLq := hbq.blk HL0.out (by simp)
        have l0 : wr.cell? ⟨wo.heap.size, 0, none⟩ = some (.int .u8 (kbyte r.n.kind : Int)) := hLq.cell rfl
        have l2 : wr.cell? ⟨wo.heap.size, 2, none⟩ = some (.slice ka r.n.keys.length kc) := hLq.cell rfl
        have l3 : wr.cell? ⟨wo.heap.size, 3, none⟩ = some (.slice pa r.n.parts.length pc) := hLq.cell rfl
        have hcx := HCX.out wr ((HB.out.trans HB0.out (by simp)).trans hbq (by simp))
        have HBQ : Hid (But [] W0 wr) := hbq
        by_cases hml : m < r.n.parts.length
        · obtain ⟨pbk, pcap', e4, hple, _, hpcell⟩ := ownsInt_cell (n := r.n.parts.length) (l := r.n.parts) (ownsRow_but HPW.out hbq (by simp)) (by omega)
          obtain ⟨rfl, rfl⟩ : pa = some ⟨pbk, 0, none⟩ ∧ pc = pcap' := by simpa using e4
          have hpm := hpcell m hml
          clear e4 hpcell
          rcases HKK.out with hk | hk | hk
          · have := HNO.out hk
            rw [this] at hml
            simp at hml
          · have hkb : (kbyte r.n.kind : Int) = 108 := by rw [hk]; rfl
            rw [hkb] at l0
            have HS1 : Hid (∀ d, d = bS (decL m) → d = y → lastM r.n y (m + 1) = some m) := fun d h1 h2 => by
              unfold lastM
              rw [if_pos]
              simp only [hitB, hk]
              rw [← h2, h1]
              simp
            have HS2 : Hid (∀ d, d = bS (decL m) → d ≠ y → lastM r.n y (m + 1) = lastM r.n y m) := fun d h1 h2 => by
              conv => lhs; unfold lastM
              rw [if_neg]
              simp only [hitB, hk]
              intro h3
              apply h2
              rw [h1]
              have h4 : decL m = y.data.toList := by simpa using h3
              rw [h4]
            clear hk hkb hLq hbq
            go_wp2_with (go_at_call 84; refine (decimal_any m _ (by omega)).mono ?_; rintro e w' ⟨d, rfl, hww, HD, hds⟩; have hww2 := hww.symm; clear hww; subst hww2)
            by_cases hdy : d = y
            · subst hdy
              have HL : Hid _ := HS1.out d HD.out rfl
              have hbb : (d.toList == d.toList) = true := by simp
              go_quiet (fail)
              have hq1 : (wr.drewN nq).cell? ⟨wo.heap.size, 3, none⟩ = some (.slice (some ⟨pbk, 0, none⟩) r.n.parts.length pc) := l3
              have hq2 : (wr.drewN nq).cell? ⟨pbk, m, none⟩ = some (.int .i64 (r.n.parts[m] : Int)) := hpm
              go_wp2_with fail
              go_roundw
              case rel =>
                refine ⟨m + 1, hml, by go_num, ?_, HBQ.out.drewN _⟩
                rw [HL.out]
                simp [nextI, List.getD, hml]
              case measure => simp [intOf]; omega
            · have HL : Hid _ := HS2.out d HD.out hdy
              have hb1 : (d.toList == y.toList) = false := beq_eq_false_iff_ne.2 (fun e => hdy (bytes_toList e))
              have hb2 : (y.toList == d.toList) = false := beq_eq_false_iff_ne.2 (fun e => hdy (bytes_toList e).symm)
              go_quiet (fail)
              go_wp2_with fail
              go_roundw
              case rel => exact ⟨m + 1, hml, by go_num, by rw [HL.out], HBQ.out.drewN _⟩
              case measure => simp [intOf]; omega
          · have hkb : (kbyte r.n.kind : Int) = 109 := by rw [hk]; rfl
            rw [hkb] at l0
            have hmk : m < r.n.keys.length := by have := HKL.out hk; omega
            have hmk1 : r.n.keys.length ≤ 1000 := by have := HKL.out hk; omega
            obtain ⟨kbk, kcap', e5, hkle, _, hkcell⟩ := ownsStr_cell (ownsRow_but HKW.out hbq (by simp)) (by omega)
            obtain ⟨rfl, rfl⟩ : ka = some ⟨kbk, 0, none⟩ ∧ kc = kcap' := by simpa using e5
            have hkm := hkcell m (by omega)
            have HS1 : Hid (r.n.keys[m]'(by omega) = y → lastM r.n y (m + 1) = some m) := fun h2 => by
              unfold lastM
              rw [if_pos]
              simp only [hitB, hk]
              rw [List.getElem?_eq_getElem (by omega), h2]
              simp
            have HS2 : Hid (r.n.keys[m]'(by omega) ≠ y → lastM r.n y (m + 1) = lastM r.n y m) := fun h2 => by
              conv => lhs; unfold lastM
              rw [if_neg]
              simp only [hitB, hk]
              rw [List.getElem?_eq_getElem (by omega)]
              simpa using h2
            generalize r.n.keys[m]'(by omega) = key at *
            clear hk hkb hLq hbq e5 hkcell
            go_wp2_with (go_at_call 84; refine (decimal_any m _ (by omega)).mono ?_; rintro e w' ⟨d, rfl, hww, HD, hds⟩; have hww2 := hww.symm; clear hww; subst hww2)
            by_cases hdy : key = y
            · subst hdy
              have HL : Hid _ := HS1.out rfl
              have hbb : (key.toList == key.toList) = true := by simp
              go_quiet (fail)
              have hq1 : (wr.drewN nq).cell? ⟨wo.heap.size, 3, none⟩ = some (.slice (some ⟨pbk, 0, none⟩) r.n.parts.length pc) := l3
              have hq2 : (wr.drewN nq).cell? ⟨pbk, m, none⟩ = some (.int .i64 (r.n.parts[m] : Int)) := hpm
              go_wp2_with fail
              go_roundw
              case rel =>
                refine ⟨m + 1, hml, by go_num, ?_, HBQ.out.drewN _⟩
                rw [HL.out]
                simp [nextI, List.getD, hml]
              case measure => simp [intOf]; omega
            · have HL : Hid _ := HS2.out hdy
              have hb1 : (key.toList == y.toList) = false := beq_eq_false_iff_ne.2 (fun e => hdy (bytes_toList e))
              have hb2 : (y.toList == key.toList) = false := beq_eq_false_iff_ne.2 (fun e => hdy (bytes_toList e).symm)
              go_quiet (fail)
              go_wp2_with fail
              go_roundw
              case rel => exact ⟨m + 1, hml, by go_num, by rw [HL.out], HBQ.out.drewN _⟩
              case measure => simp [intOf]; omega
        · have hmn : m = r.n.parts.length := by omega
          have hfin : lastM r.n y m = findM r.n y := by rw [hmn]; exact HLF.out
          rw [hfin]
          have HBW : Hid (But [] w wr) := (HB.out.trans HB0.out (by simp)).trans hbq (by simp)
          clear hfin hLq hbq
          cases hf : findM r.n y with
          | none =>
            have HR : Hid (getM nodes path 0 = none) := by unfold Hid; rw [HG2.out, hf]; rfl
            have hni : nextI r.n none = -1 := rfl
            rw [hni]
            clear hf hni
            go_wp2_with fail
            go_ret2
            exact ⟨by rw [HR.out]; rfl, HBW.out⟩
          | some q =>
            have hq := HFL.out q hf
            have HR : Hid (getM nodes path 0 = getM nodes (path.drop (j + 1)) (r.n.parts[q])) := by
              unfold Hid; rw [HG2.out, hf]
              simp [List.getD, hq]
            have hni : nextI r.n (some q) = ((r.n.parts[q] : Nat) : Int) := by simp [nextI, List.getD, hq]
            rw [hni]
            have hpq := HPB.out _ (List.getElem_mem hq)
            generalize r.n.parts[q] = z at *
            clear hf hni
            go_wp2_with fail
            go_roundw
            case rel => exact ⟨j + 1, z, by omega, by go_num, rfl, hpq, HR.out, HBW.out⟩
            case measure => simp [intOf]; omega
    · have hjn : j = path.length := by omega
      have HR : Hid (getM nodes path 0 = some id) := by
        unfold Hid; rw [HGE.out, List.drop_eq_nil_of_le (by omega)]; rfl
      have HPL : Hid _ := rplain_any hR hW id hid wo (HG.out.below (hb.below HG.out.N (by simp)))
      clear hb hjn
      go_wp2_with fail
      refine Calls.mono HPL.out ?_
      rintro e w3 ⟨x, rfl, hx, hb3⟩
      have HX : Hid (x = bS (plainM nodes id)) := hx
      clear hx
      go_wp2_with fail
      go_ret2
      refine ⟨?_, HB.out.trans hb3 (by simp)⟩
      rw [HR.out, HX.out]
      rfl

end Go.Proofs.YtkflkmmbakccoaaGreatDoor
