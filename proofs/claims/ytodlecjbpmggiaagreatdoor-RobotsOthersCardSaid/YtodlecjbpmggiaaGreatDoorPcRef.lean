/- Package pct: Norm and Decode; the document's own Norm and Decode. -/
import Derived.Test.YtodlecjbpmggiaaGreatDoorPcRwN
import Derived.Test.YtodlecjbpmggiaaGreatDoorPcRwD
import Derived.BigQuiet
import Derived.Test.YtodlecjbpmggiaaGreatDoorLast
import Derived.Test.YtodlecjbpmggiaaGreatDoorForget
namespace Go.Proofs.YtodlecjbpmggiaaGreatDoor
open Go.RowKit
set_option linter.unusedVariables false
set_option linter.unusedSimpArgs false

theorem norm_at (s : ByteArray) (r : Option (List Int)) (hr : nrmI (btL s) = r) (hs : s.size ≤ 10000) (w : World) (hT : Tabs w) :
    Calls Tryz.prog 47 #[.string s] w fun e w' => e = .returned (.tuple #[.string (strL (r.getD [])), .bool r.isSome]) ∧ Below w.heap.size w w' := by
  have HT := Lib.hid hT
  have HR := Lib.hid hr
  clear hT hr
  go_enter Tryz.func47, Tryz.ntmps47
  go_wp2_with fail
  refine (rewriteN_at s r HR.out hs _ HT.out).mono ?_
  rintro e w1 ⟨rfl, hb⟩
  have HB := Lib.hid hb
  clear hb
  go_wp2
  go_ret2
  exact ⟨rfl, HB.out⟩
structure Rf (M : List Int → Option (List Int)) (s : ByteArray) (w wr : World) (k : Nat) (a : Option Addr) (cap : Nat) (acc : List Int) : Prop where
  own : OwnB wr w.heap.size a cap acc
  bel : Below w.heap.size w wr
  eq : M (btL s) = (M ((btL s).drop k)).map (acc ++ ·)
  len : acc.length ≤ 3 * k
  byts : Byts acc
set_option maxHeartbeats 4000000 in
set_option maxRecDepth 100000 in
theorem rnorm_at (s : ByteArray) (r : Option (List Int)) (hr : nrmI (btL s) = r) (hs : s.size ≤ 10000) (w : World) :
    Calls Tryz.prog 54 #[.string s] w fun e w' => e = .returned (.tuple #[.string (strL (r.getD [])), .bool r.isSome]) ∧ Below w.heap.size w w' := by
  have HR := Lib.hid hr
  clear hr
  go_enter Tryz.func54, Tryz.ntmps54
  go_wp2
  go_loopw [4, 5, 6] (fun o i _ wr => ∃ (k : Nat) (a : Option Addr) (cap : Nat) (acc : List Int), k ≤ s.size ∧ i = .int .i64 k ∧ o = .slice a acc.length cap ∧ w.heap.size ≤ wr.heap.size ∧ Hid (Rf nrmI s w wr k a cap acc)) (fun _ i _ _ => s.size - (intOf i).toNat)
  case atStart =>
    exact ⟨0, _, 0, [], by omega, rfl, rfl, by simp, Lib.hid ⟨OwnB.lit [] (Nat.le_refl _) (by simp), (Below.refl _ _).alloc (Nat.le_refl _) _, by simp, by simp, Byts.nil⟩⟩
  case round =>
    obtain ⟨k, a, cap, acc, hk, rfl, rfl, hB, HL⟩ := hrel
    by_cases hlt : k < s.size
    · have hu := s[k].toNat_lt
      by_cases h37 : (s[k].toNat : Int) = 37
      · have H37 := Lib.hid h37
        have h37b : ((s[k].toNat : Int) == 37) = true := beq_iff_eq.2 h37
        have h37n : ((s[k].toNat : Int) != 37) = false := by rw [h37]; rfl
        clear h37
        by_cases hq : k + 2 < s.size
        · have hg : decide ((s.size : Int) ≤ (k : Int) + 2) = false := by simp; omega
          obtain ⟨x, hx⟩ : ∃ x : Int, (s[k + 1].toNat : Int) = x := ⟨_, rfl⟩
          obtain ⟨y, hy⟩ : ∃ y : Int, (s[k + 2].toNat : Int) = y := ⟨_, rfl⟩
          have HE2 : Hid (nrmI (btL s) = (nrmI (37 :: x :: y :: (btL s).drop (k + 3))).map (acc ++ ·)) := Lib.hid (by
            rw [HL.out.eq, btL_cons s k hlt, btL_cons s (k + 1) (by omega), btL_cons s (k + 2) hq, hx, hy, H37.out])
          have k1 : k + 1 < s.size := by omega
          have n1 : ((k : Int) + 1).toNat = k + 1 := by omega
          have n2 : ((k : Int) + 2).toNat = k + 2 := by omega
          by_cases hhx : 0 ≤ hexI x
          · by_cases hhy : 0 ≤ hexI y
            · have bx := (hexI_bd x).1
              have bY := (hexI_bd y).1
              obtain ⟨xx, hxx⟩ : ∃ v, hexI x = v := ⟨_, rfl⟩
              obtain ⟨yy, hyy⟩ : ∃ v, hexI y = v := ⟨_, rfl⟩
              rw [hxx] at hhx bx
              rw [hyy] at hhy bY
              have HXX := Lib.hid hxx
              have HYY := Lib.hid hyy
              clear hxx hyy
              go_wp2_with fail
              refine (rhex_yes x xx HXX.out hhx _).mono ?_
              rintro e w' ⟨rfl, rfl⟩
              go_wp2_with fail
              refine (rhex_yes y yy HYY.out hhy _).mono ?_
              rintro e w' ⟨rfl, rfl⟩
              go_wp2
              have hs1 : IntKind.i64.wrap ((k : Int) + 1) = (k : Int) + 1 := IntWalk.i64_in _ (by omega)
              have hs2 : IntKind.i64.wrap ((k : Int) + 2) = (k : Int) + 2 := IntWalk.i64_in _ (by omega)
              go_quiet (first | (with_reducible exact (rhex_yes x xx HXX.out hhx _).mono fun _ _ ⟨he, hw⟩ => ⟨he, _, hw.symm⟩) | (with_reducible exact (rhex_yes y yy HYY.out hhy _).mono fun _ _ ⟨he, hw⟩ => ⟨he, _, hw.symm⟩))
              clear hs1 hs2
              have v0 : 0 ≤ 16 * xx + yy := by omega
              have v1 : 16 * xx + yy < 256 := by omega
              have O0 : Hid (OwnB (wr.drewN nq) w.heap.size a cap acc) := Lib.hid HL.out.own
              have E0 : Hid (Below w.heap.size w (wr.drewN nq)) := Lib.hid (below_drewN HL.out.bel _)
              obtain ⟨f1, hf1⟩ : ∃ f1, freeI (16 * xx + yy) = f1 := ⟨_, rfl⟩
              have HF := Lib.hid hf1
              cases f1
              · have HP : Hid (nT (16 * xx + yy) = codeI (16 * xx + yy)) := Lib.hid (by unfold nT; rw [hf1]; rfl)
                clear hf1
                go_wp2_with fail
                refine (rfree_as (16 * xx + yy) false HF.out _).mono ?_
                rintro e w' ⟨rfl, rfl⟩
                go_wp2_with fail
                refine (rcode_as (16 * xx + yy) (by omega) (by omega) _).mono ?_
                rintro e w1 ⟨rfl, hb1⟩
                have O1 := Lib.hid (O0.out.later hb1)
                have E1 := Lib.hid (E0.out.trans (hb1.mono hB))
                have B1 : w.heap.size ≤ w1.heap.size := Nat.le_trans hB hb1.size
                clear hb1
                have hcl : (strL (codeI (16 * xx + yy))).size = 3 := by simp [codeI]
                have hcb : btL (strL (codeI (16 * xx + yy))) = codeI (16 * xx + yy) := btL_strL (codeI_byts (by omega) (by omega))
                have HCL := Lib.hid hcl
                have HCB := Lib.hid hcb
                clear hcl hcb
                go_wp2_with (at_builtin; refine wpList_apps rfl _ _ rfl w.heap.size a cap acc rfl O1.out (strL (codeI (16 * xx + yy))) rfl (by have := HL.out.len; rw [HCL.out]; omega) B1 ?_; rw [HCB.out]; intro a' cap' w2 ho hb)
                have B2 : w.heap.size ≤ w2.heap.size := by have := hb.size; (try simp at this); omega
                have H2 : Hid (Rf nrmI s w w2 (k + 3) a' cap' (acc ++ codeI (16 * xx + yy))) := Lib.hid ⟨ho, E1.out.trans hb, (by rw [HE2.out]; have := rwI_trip (T := nT) (P := nP) ((btL s).drop (k + 3)) (h := x) (l := y) (by rw [HXX.out]; exact hhx) (by rw [HYY.out]; exact hhy); rw [HXX.out, HYY.out] at this; show Option.map _ (rwI nT nP _) = _; rw [this, map_app]; rw [HP.out]; rfl), by have := HL.out.len; simp [codeI]; omega, HL.out.byts.append (codeI_byts (by omega) (by omega))⟩
                clear ho hb
                go_wp2
                go_roundw
                case rel => exact ⟨k + 3, a', cap', acc ++ codeI (16 * xx + yy), by omega, by go_num, by simp, B2, H2⟩
                case measure => simp [intOf]; omega
              · have HP : Hid (nT (16 * xx + yy) = [16 * xx + yy]) := Lib.hid (by unfold nT; rw [hf1]; rfl)
                clear hf1
                go_wp2_with fail
                refine (rfree_as (16 * xx + yy) true HF.out _).mono ?_
                rintro e w' ⟨rfl, rfl⟩
                go_wp2_with (at_builtin; refine wpList_app rfl _ _ rfl w.heap.size a cap acc rfl (O0.out.alloc _) _ 0 1 [16 * xx + yy] rfl (RdB.new _ [16 * xx + yy] _ _) (by have := HL.out.len; simp; omega) (by simp; omega) ?_; intro a' cap' w2 ho hb)
                have B2 : w.heap.size ≤ w2.heap.size := by have := hb.size; (try simp at this); omega
                have H2 : Hid (Rf nrmI s w w2 (k + 3) a' cap' (acc ++ [16 * xx + yy])) := Lib.hid ⟨ho, (E0.out.alloc hB _).trans hb, (by rw [HE2.out]; have := rwI_trip (T := nT) (P := nP) ((btL s).drop (k + 3)) (h := x) (l := y) (by rw [HXX.out]; exact hhx) (by rw [HYY.out]; exact hhy); rw [HXX.out, HYY.out] at this; show Option.map _ (rwI nT nP _) = _; rw [this, map_app]; rw [HP.out]; rfl), by have := HL.out.len; simp; omega, HL.out.byts.append (Byts.mk ⟨by omega, by omega⟩ Byts.nil)⟩
                clear ho hb
                go_wp2
                go_roundw
                case rel => exact ⟨k + 3, a', cap', acc ++ [16 * xx + yy], by omega, by go_num, by simp, B2, H2⟩
                case measure => simp [intOf]; omega
            · have HN : Hid (r = none) := Lib.hid (by
                rw [← HR.out, HE2.out]
                have : nrmI (37 :: x :: y :: (btL s).drop (k + 3)) = none := rwI_bad _ (fun h => hhy h.2)
                rw [this]
                rfl)
              obtain ⟨xx, hxx⟩ : ∃ v, hexI x = v := ⟨_, rfl⟩
              rw [hxx] at hhx
              have HXX := Lib.hid hxx
              have HHY := Lib.hid hhy
              clear hxx hhy
              go_wp2_with fail
              refine (rhex_yes x xx HXX.out hhx _).mono ?_
              rintro e w' ⟨rfl, rfl⟩
              go_wp2_with fail
              refine (rhex_no y (by have := HHY.out; omega) _).mono ?_
              rintro e w' ⟨rfl, rfl⟩
              go_wp2
              go_ret2
              rw [HN.out]
              exact ⟨rfl, HL.out.bel⟩
          · have HN : Hid (r = none) := Lib.hid (by
              rw [← HR.out, HE2.out]
              have : nrmI (37 :: x :: y :: (btL s).drop (k + 3)) = none := rwI_bad _ (fun h => hhx h.1)
              rw [this]
              rfl)
            have HHX := Lib.hid hhx
            clear hhx
            go_wp2_with fail
            refine (rhex_no x (by have := HHX.out; omega) _).mono ?_
            rintro e w' ⟨rfl, rfl⟩
            go_wp2
            go_ret2
            rw [HN.out]
            exact ⟨rfl, HL.out.bel⟩
        · have hg : decide ((s.size : Int) ≤ (k : Int) + 2) = true := by simp; omega
          have HN : Hid (r = none) := Lib.hid (by
            rw [← HR.out, HL.out.eq, btL_cons s k hlt, H37.out]
            have : nrmI (37 :: (btL s).drop (k + 1)) = none := rwI_short (by simp; omega)
            rw [this]
            rfl)
          clear hq
          go_wp2
          go_ret2
          rw [HN.out]
          exact ⟨rfl, HL.out.bel⟩
      · have HNE := Lib.hid h37
        have h37b : ((s[k].toNat : Int) == 37) = false := beq_eq_false_iff_ne.2 h37
        clear h37
        obtain ⟨c, hcc⟩ : ∃ c : Int, (s[k].toNat : Int) = c := ⟨_, rfl⟩
        rw [hcc] at h37b HNE
        have c0 : 0 ≤ c := by omega
        have c1 : c < 256 := by omega
        obtain ⟨f1, hf1⟩ : ∃ f1, freeI c = f1 := ⟨_, rfl⟩
        have HF := Lib.hid hf1
        cases f1
        · obtain ⟨f2, hf2⟩ : ∃ f2, resI c = f2 := ⟨_, rfl⟩
          have HF2 := Lib.hid hf2
          cases f2
          · have HP : Hid (nP c = codeI c) := Lib.hid (by unfold nP; rw [hf1, hf2]; rfl)
            clear hf1 hf2
            go_wp2_with fail
            refine (rfree_as c false HF.out _).mono ?_
            rintro e w' ⟨rfl, rfl⟩
            go_wp2_with fail
            refine (rres_as c false HF2.out _).mono ?_
            rintro e w' ⟨rfl, rfl⟩
            go_wp2_with fail
            refine (rcode_as c (by omega) (by omega) _).mono ?_
            rintro e w1 ⟨rfl, hb1⟩
            have O1 := Lib.hid (HL.out.own.later hb1)
            have E1 := Lib.hid (HL.out.bel.trans (hb1.mono hB))
            have B1 : w.heap.size ≤ w1.heap.size := Nat.le_trans hB hb1.size
            clear hb1
            have hcl : (strL (codeI c)).size = 3 := by simp [codeI]
            have hcb : btL (strL (codeI c)) = codeI c := btL_strL (codeI_byts (by omega) (by omega))
            have HCL := Lib.hid hcl
            have HCB := Lib.hid hcb
            clear hcl hcb
            go_wp2_with (at_builtin; refine wpList_apps rfl _ _ rfl w.heap.size a cap acc rfl O1.out (strL (codeI c)) rfl (by have := HL.out.len; rw [HCL.out]; omega) B1 ?_; rw [HCB.out]; intro a' cap' w2 ho hb)
            have B2 : w.heap.size ≤ w2.heap.size := by have := hb.size; (try simp at this); omega
            have H2 : Hid (Rf nrmI s w w2 (k + 1) a' cap' (acc ++ codeI c)) := Lib.hid ⟨ho, E1.out.trans hb, (by rw [HL.out.eq, btL_cons s k hlt, hcc]; have := rwI_plain (T := nT) (P := nP) ((btL s).drop (k + 1)) HNE.out; show Option.map _ (rwI nT nP _) = _; rw [this, map_app]; rw [HP.out]; rfl), by have := HL.out.len; simp [codeI]; omega, HL.out.byts.append (codeI_byts (by omega) (by omega))⟩
            clear ho hb
            go_wp2
            go_roundw
            case rel => exact ⟨k + 1, a', cap', acc ++ codeI c, by omega, by go_num, by simp, B2, H2⟩
            case measure => simp [intOf]; omega
          · have HP : Hid (nP c = [c]) := Lib.hid (by unfold nP; rw [hf1, hf2]; rfl)
            clear hf1 hf2
            go_wp2_with fail
            refine (rfree_as c false HF.out _).mono ?_
            rintro e w' ⟨rfl, rfl⟩
            go_wp2_with fail
            refine (rres_as c true HF2.out _).mono ?_
            rintro e w' ⟨rfl, rfl⟩
            go_wp2_with (at_builtin; refine wpList_app rfl _ _ rfl w.heap.size a cap acc rfl (HL.out.own.alloc _) _ 0 1 [c] rfl (RdB.new _ [c] _ _) (by have := HL.out.len; simp; omega) (by simp; omega) ?_; intro a' cap' w2 ho hb)
            have B2 : w.heap.size ≤ w2.heap.size := by have := hb.size; (try simp at this); omega
            have H2 : Hid (Rf nrmI s w w2 (k + 1) a' cap' (acc ++ [c])) := Lib.hid ⟨ho, (HL.out.bel.alloc hB _).trans hb, (by rw [HL.out.eq, btL_cons s k hlt, hcc]; have := rwI_plain (T := nT) (P := nP) ((btL s).drop (k + 1)) HNE.out; show Option.map _ (rwI nT nP _) = _; rw [this, map_app]; rw [HP.out]; rfl), by have := HL.out.len; simp; omega, HL.out.byts.append (Byts.mk ⟨by omega, by omega⟩ Byts.nil)⟩
            clear ho hb
            go_wp2
            go_roundw
            case rel => exact ⟨k + 1, a', cap', acc ++ [c], by omega, by go_num, by simp, B2, H2⟩
            case measure => simp [intOf]; omega
        · have HP : Hid (nP c = [c]) := Lib.hid (by unfold nP; rw [hf1]; rfl)
          clear hf1
          go_wp2_with fail
          refine (rfree_as c true HF.out _).mono ?_
          rintro e w' ⟨rfl, rfl⟩
          go_wp2_with (at_builtin; refine wpList_app rfl _ _ rfl w.heap.size a cap acc rfl (HL.out.own.alloc _) _ 0 1 [c] rfl (RdB.new _ [c] _ _) (by have := HL.out.len; simp; omega) (by simp; omega) ?_; intro a' cap' w2 ho hb)
          have B2 : w.heap.size ≤ w2.heap.size := by have := hb.size; (try simp at this); omega
          have H2 : Hid (Rf nrmI s w w2 (k + 1) a' cap' (acc ++ [c])) := Lib.hid ⟨ho, (HL.out.bel.alloc hB _).trans hb, (by rw [HL.out.eq, btL_cons s k hlt, hcc]; have := rwI_plain (T := nT) (P := nP) ((btL s).drop (k + 1)) HNE.out; show Option.map _ (rwI nT nP _) = _; rw [this, map_app]; rw [HP.out]; rfl), by have := HL.out.len; simp; omega, HL.out.byts.append (Byts.mk ⟨by omega, by omega⟩ Byts.nil)⟩
          clear ho hb
          go_wp2
          go_roundw
          case rel => exact ⟨k + 1, a', cap', acc ++ [c], by omega, by go_num, by simp, B2, H2⟩
          case measure => simp [intOf]; omega
    · have HE : Hid (r = some acc) := Lib.hid (by
        rw [← HR.out, HL.out.eq, List.drop_eq_nil_of_le (by simp; omega)]
        show Option.map _ (rwI nT nP []) = _
        rw [rwI_nil]
        simp)
      have hcv := fun (wx : World) (hw : wx = wr) => HL.out.own.rd.text (P := Tryz.prog) 74 5 9 Tryz.underlying74 Tryz.underlying5 Tryz.underlying9 (fun h => by rcases HL.out.own.form with ⟨h1, _⟩ | ⟨g, h1, _⟩; exact Or.inl h1; exact Or.inr ⟨g, 0, h1⟩) cap
      have hcv2 := hcv wr rfl
      clear hcv
      go_wp2
      go_ret2
      rw [HE.out]
      exact ⟨rfl, HL.out.bel⟩
end Go.Proofs.YtodlecjbpmggiaaGreatDoor
