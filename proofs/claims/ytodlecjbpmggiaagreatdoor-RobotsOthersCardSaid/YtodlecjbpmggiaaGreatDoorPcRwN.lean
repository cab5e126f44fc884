/- Package pct: Norm: what rewrite writes. -/
import Derived.Test.YtodlecjbpmggiaaGreatDoorPcPiece
import Derived.Laws.RangeAny
namespace Go.Proofs.YtodlecjbpmggiaaGreatDoor
open Go.RowKit
set_option linter.unusedVariables false
set_option linter.unusedSimpArgs false

/-- How far the loop has come. -/
structure RwN (s : ByteArray) (w wr : World) (pos q : Nat) (acc : List Int) : Prop where
  bld : IsB w.heap.size w.heap.size acc wr
  it : wr.heap[w.heap.size + 1]? = some (.stringIter s pos)
  bel : Below w.heap.size w wr
  tabs : Tabs wr
  ascii : ∀ j (hj : j < s.size), pos ≤ j → j < q → (s[j]'hj).toNat < 128
  eq : nrmI (btL s) = (nrmI ((btL s).drop (max pos q))).map (acc ++ ·)
  len : acc.length ≤ 3 * max pos q
  byts : Byts acc
set_option maxHeartbeats 4000000 in
set_option maxRecDepth 100000 in
theorem rewriteN_at (s : ByteArray) (r : Option (List Int)) (hr : nrmI (btL s) = r) (hs : s.size ≤ 10000) (w : World) (hT : Tabs w) :
    Calls Tryz.prog 68 #[.string s, .func (Fn.func 69) #[] #[], .func (Fn.func 70) #[] #[]] w fun e w' => e = .returned (.tuple #[.string (strL (r.getD [])), .bool r.isSome]) ∧ Below w.heap.size w w' := by
  have HT := Lib.hid hT
  have HR := Lib.hid hr
  clear hT hr
  go_enter Tryz.func68, Tryz.ntmps68
  go_wp2
  go_loopw [9] (fun bh wr => ∃ (pos q : Nat) (acc : List Int), pos ≤ s.size ∧ q ≤ s.size ∧ bh = .int .i64 q ∧ w.heap.size + 1 < wr.heap.size ∧ Hid (RwN s w wr pos q acc)) (fun _ wr => s.size - wr.iterPos (w.heap.size + 1))
  case atStart =>
    refine ⟨0, 0, [], by omega, by omega, rfl, by simp [World.iter], Lib.hid ⟨?_, ?_, ?_, ?_, fun j hj h1 h2 => by omega, by simp, by simp, Byts.nil⟩⟩
    · exact (Lib.IsBuilderF.of (Lib.fresh_isBuilder 109 5 w)).alloc _
    · have := World.iter_heap (w.alloc (.cells #[.pointer none, .slice none 0 0] 109)) s 0
      simpa using this
    · exact ((Below.refl _ w).alloc (Nat.le_refl _) _).alloc (by simp) _
    · exact HT.out.later (((Below.refl _ w).alloc (Nat.le_refl _) _).alloc (by simp) _)
  case round =>
    obtain ⟨pos, q, acc, hp, hq, rfl, hsz, HL⟩ := hrel
    have B0 : w.heap.size ≤ wr.heap.size := by omega
    by_cases hlt : pos < s.size
    · obtain ⟨rn, wd, hdec⟩ : ∃ rn wd, Utf8.decode s pos = (rn, wd) := ⟨_, _, rfl⟩
      have hpc : Piece s pos wd := by
        have := piece s pos hlt
        rwa [hdec] at this
      have hnx : ∀ ty, (Instr.next (.pointer (some ⟨w.heap.size + 1, 0, none⟩)) true ty).run Tryz.prog wr = .ok (.tuple #[.bool true, .int .i64 pos, .int .i32 rn]) (wr.iterAt (w.heap.size + 1) s (pos + wd)) := fun ty => by
        rw [Lib.run_next_any_at wr (w.heap.size + 1) s pos ty HL.out.it hlt, hdec]
      have hdl : (rn : Int) ≤ 2147483647 := by have := decode_le s pos; rw [hdec] at this; simp only at this; omega
      -- the world behind 'next'
      obtain ⟨wi, hwi⟩ : ∃ wi, wr.iterAt (w.heap.size + 1) s (pos + wd) = wi := ⟨_, rfl⟩
      have hsi : wi.heap.size = wr.heap.size := by rw [← hwi, Lib.iterAt_size]
      have I1 : IsB w.heap.size w.heap.size acc wi := by rw [← hwi]; exact HL.out.bld.iterAt HL.out.it _
      have it1 : wi.heap[w.heap.size + 1]? = some (.stringIter s (pos + wd)) := by rw [← hwi]; exact Lib.iterAt_heap wr (w.heap.size + 1) s pos (pos + wd) HL.out.it
      have bel1 : Below w.heap.size w wi := by rw [← hwi]; exact Lib.below_iterAt HL.out.bel (by omega) s _
      have tab1 : Tabs wi := HT.out.later bel1
      have B1 : w.heap.size ≤ wi.heap.size := by omega
      have s1 : w.heap.size + 1 < wi.heap.size := by omega
      rw [hwi] at hnx
      have hw1 := hpc.w1
      have hft := hpc.fits
      have HPC := Lib.hid hpc
      have HI1 := Lib.hid I1
      have HIT := Lib.hid it1
      have HB1 := Lib.hid bel1
      have HT1 := Lib.hid tab1
      have HSI := Lib.hid hsi
      have HDE := Lib.hid hdec
      clear hwi hsi I1 it1 bel1 tab1 hpc hdec
      have hrn : Hid ((rn : Int) = (s[pos].toNat : Int) ∧ s[pos].toNat < 128 ∨ 128 ≤ (rn : Int) ∧ 128 ≤ s[pos].toNat) := Lib.hid (by
        by_cases h : s[pos].toNat < 128
        · have := decode_ascii s pos hlt h
          rw [HDE.out] at this
          injection this with h1 h2
          exact Or.inl ⟨by omega, h⟩
        · have := decode_high s pos hlt (by omega)
          rw [HDE.out] at this
          exact Or.inr ⟨by have := this.1; simp only at this; omega, by omega⟩)
      by_cases hb : pos < q
      · -- inside a triple
        have hc : decide ((pos : Int) < (q : Int)) = true := by simp; omega
        have ha := HL.out.ascii pos hlt (Nat.le_refl _) hb
        have e1 : wd = 1 := HPC.out.low hlt ha
        go_wp2
        go_roundw
        case rel =>
          refine ⟨pos + wd, q, acc, by omega, hq, rfl, s1, Lib.hid ⟨HI1.out, HIT.out, HB1.out, HT1.out, fun j hj h1 h2 => HL.out.ascii j hj (by omega) h2, ?_, ?_, HL.out.byts⟩⟩
          · have := HL.out.eq
            rwa [show max (pos + wd) q = max pos q from by omega]
          · have := HL.out.len
            rwa [show max (pos + wd) q = max pos q from by omega]
        case measure =>
          simp only [World.iterPos, HIT.out, HL.out.it]
          omega
      · have hc : decide ((pos : Int) < (q : Int)) = false := by simp; omega
        have hmx : max pos q = pos := by omega
        have HEQ : Hid (nrmI (btL s) = (nrmI ((s[pos].toNat : Int) :: (btL s).drop (pos + 1))).map (acc ++ ·)) := Lib.hid (by
          have := HL.out.eq
          rwa [hmx, btL_cons s pos hlt] at this)
        have HLN : Hid (acc.length ≤ 3 * pos) := Lib.hid (by have := HL.out.len; rwa [hmx] at this)
        clear hmx
        by_cases h37 : s[pos].toNat = 37
        · -- a triple
          have hrb : ((rn : Int) == 37) = true := by
            rcases hrn.out with h | h
            · rw [beq_iff_eq]; omega
            · omega
          have H37 := Lib.hid h37
          clear h37
          have hp1 : pos + 1 ≤ s.size := by omega
          obtain ⟨x, hx⟩ : ∃ x, s.extract (pos + 1) s.size = x := ⟨_, rfl⟩
          have hxs : x.size = s.size - (pos + 1) := by rw [← hx]; simp [ByteArray.size_extract]
          by_cases hshort : x.size < 2
          · have HX := Lib.hid hx
            have HN : Hid (r = none) := Lib.hid (by
              rw [← HR.out, HEQ.out, H37.out]
              have : nrmI (((37 : Nat) : Int) :: (btL s).drop (pos + 1)) = none := rwI_short (by simp; omega)
              rw [this]
              rfl)
            clear hx hxs
            go_wp2_with fail
            rw [HX.out]
            refine (hexPair_short x hshort _).mono ?_
            rintro e w' ⟨rfl, rfl⟩
            go_wp2
            go_ret2
            rw [HN.out]
            exact ⟨rfl, HB1.out⟩
          · have hq2 : pos + 2 < s.size := by omega
            obtain ⟨a, ha⟩ : ∃ a : Int, (s[pos + 1].toNat : Int) = a := ⟨_, rfl⟩
            obtain ⟨b, hb2⟩ : ∃ b : Int, (s[pos + 2].toNat : Int) = b := ⟨_, rfl⟩
            have hx0 : 0 < x.size := by omega
            have hx1 : 1 < x.size := by omega
            have hxa : ((x[0]'hx0).toNat : Int) = a := by
              subst hx
              rw [get_extract s (pos + 1) s.size 0 hx0 (by omega)]
              exact ha
            have hxb : ((x[1]'hx1).toNat : Int) = b := by
              subst hx
              rw [get_extract s (pos + 1) s.size 1 hx1 (by omega)]
              exact hb2
            have HE2 : Hid (nrmI (btL s) = (nrmI (37 :: a :: b :: (btL s).drop (pos + 3))).map (acc ++ ·)) := Lib.hid (by
              rw [HEQ.out, H37.out, btL_cons s (pos + 1) (by omega), btL_cons s (pos + 2) hq2, ha, hb2]
              rfl)
            have HX := Lib.hid hx
            have HXA := Lib.hid hxa
            have HXB := Lib.hid hxb
            have HXS : Hid (2 ≤ x.size) := Lib.hid (by omega)
            have HA := Lib.hid ha
            have HBB := Lib.hid hb2
            clear hx hxs hxa hxb ha hb2 hshort
            by_cases hh : 0 ≤ hexI a ∧ 0 ≤ hexI b
            · obtain ⟨v, hv⟩ : ∃ v, 16 * hexI a + hexI b = v := ⟨_, rfl⟩
              have hv2 := trip_bd hh.1 hh.2
              rw [hv] at hv2
              obtain ⟨v0, v1⟩ := hv2
              have HV := Lib.hid hv
              have HH := Lib.hid hh
              clear hv hh
              go_wp2_with fail
              rw [HX.out]
              refine (hexPair_yes x HXS.out a b _ _ v HXA.out HXB.out rfl rfl HH.out.1 HH.out.2 HV.out _).mono ?_
              rintro e w' ⟨rfl, rfl⟩
              go_wp2_with fail
              refine (ntriple_at w.heap.size w.heap.size acc v v0 v1 _ HI1.out (by have := HLN.out; omega) B1).mono ?_
              rintro e w2 ⟨rfl, i2, k2⟩
              have it2 : w2.heap[w.heap.size + 1]? = some (.stringIter s (pos + wd)) := Lib.OthersKept.iter k2.2 HIT.out (by omega)
              have s2 : w.heap.size + 1 < w2.heap.size := (Array.getElem?_eq_some_iff.1 it2).1
              have HI2 := Lib.hid i2
              have HIT2 := Lib.hid it2
              have HB2 := Lib.hid (HB1.out.trans k2.1)
              clear i2 it2 k2
              go_wp2
              go_roundw
              case rel =>
                have e1 : wd = 1 := HPC.out.low hlt (by have := H37.out; omega)
                have hA := hexI_ascii HH.out.1
                have hB := hexI_ascii HH.out.2
                refine ⟨pos + wd, pos + 3, acc ++ nT v, by omega, by omega, by go_num, s2, Lib.hid ⟨HI2.out, HIT2.out, HB2.out, HT.out.later HB2.out, fun j hj h1 h2 => ?_, ?_, ?_, ?_⟩⟩
                · rcases (show j = pos + 1 ∨ j = pos + 2 by omega) with rfl | rfl
                  · have := HA.out; omega
                  · have := HBB.out; omega
                · rw [show max (pos + wd) (pos + 3) = pos + 3 from by omega, HE2.out]
                  have := rwI_trip (T := nT) (P := nP) ((btL s).drop (pos + 3)) HH.out.1 HH.out.2
                  rw [HV.out] at this
                  show Option.map _ (rwI nT nP _) = _
                  rw [this, map_app]
                  rfl
                · rw [show max (pos + wd) (pos + 3) = pos + 3 from by omega, List.length_append]
                  have := HLN.out
                  have := nT_len v
                  omega
                · exact HL.out.byts.append (nT_byts v0 v1)
              case measure =>
                simp only [World.iterPos, HIT2.out, HL.out.it]
                omega
            · have HH := Lib.hid hh
              clear hh
              have HN : Hid (r = none) := Lib.hid (by
                rw [← HR.out, HE2.out]
                have : nrmI (37 :: a :: b :: (btL s).drop (pos + 3)) = none := rwI_bad _ HH.out
                rw [this]
                rfl)
              go_wp2_with fail
              rw [HX.out]
              refine (hexPair_no x HXS.out a b HXA.out HXB.out HH.out _).mono ?_
              rintro e w' ⟨⟨v, rfl⟩, rfl⟩
              go_wp2
              go_ret2
              rw [HN.out]
              exact ⟨rfl, HB1.out⟩
        · -- a rune's bytes
          have hrb : ((rn : Int) == 37) = false := by
            rw [beq_eq_false_iff_ne]
            rcases hrn.out with h | h <;> omega
          obtain ⟨x, hx⟩ : ∃ x, s.extract pos s.size = x := ⟨_, rfl⟩
          have hdx : Lib.decodeGo x = (rn, wd) := by
            subst hx
            unfold Lib.decodeGo
            rw [if_neg (by simp [ByteArray.size_extract]; omega), Lib.tail_decode, Nat.add_zero, HDE.out]
          obtain ⟨y, hy⟩ : ∃ y, s.extract pos (pos + wd) = y := ⟨_, rfl⟩
          have hyt : PieceT s pos wd y := by rw [← hy]; exact pieceT hft
          have HX := Lib.hid hx
          have HDX := Lib.hid hdx
          have HY := Lib.hid hy
          have HYT := Lib.hid hyt
          have H37 := Lib.hid h37
          clear hx hdx hy hyt h37
          have hsm : IntKind.i64.wrap ((pos : Int) + (wd : Int)) = (pos : Int) + (wd : Int) := IntWalk.i64_in _ (by omega)
          go_wp2_with fail
          rw [HX.out]
          refine (width_at x _ HT1.out).mono ?_
          rw [HDX.out]
          rintro e w2 ⟨rfl, hb2⟩
          have HI2 := Lib.hid (HI1.out.later hb2)
          have hit2 : w2.heap[w.heap.size + 1]? = some (.stringIter s (pos + wd)) := (hb2.block _ s1).trans HIT.out
          have s2 : w.heap.size + 1 < w2.heap.size := (Array.getElem?_eq_some_iff.1 hit2).1
          have B2 : w.heap.size ≤ w2.heap.size := by omega
          have HIT2 := Lib.hid hit2
          have HB2 := Lib.hid (HB1.out.trans (hb2.mono B1))
          have HT2 := Lib.hid (HT.out.later HB2.out)
          clear hb2 hit2
          go_wp2_with fail
          rw [HY.out]
          refine (nplain_at w.heap.size w.heap.size acc s pos wd y HPC.out HYT.out HY.out.symm _ HI2.out HT2.out (by have := HLN.out; omega) B2).mono ?_
          rintro e w3 ⟨rfl, i3, k3⟩
          have it3 : w3.heap[w.heap.size + 1]? = some (.stringIter s (pos + wd)) := Lib.OthersKept.iter k3.2 HIT2.out (by omega)
          have s3 : w.heap.size + 1 < w3.heap.size := (Array.getElem?_eq_some_iff.1 it3).1
          have HI3 := Lib.hid i3
          have HIT3 := Lib.hid it3
          have HB3 := Lib.hid (HB2.out.trans k3.1)
          clear i3 it3 k3
          go_wp2
          go_roundw
          case rel =>
            have hne : ∀ c ∈ btL y, c ≠ 37 := by
              intro c hc
              obtain ⟨k, hk, rfl⟩ := (mem_bt y c).1 hc
              have hys := HYT.out.size
              have hyk : y[k]'hk = s[pos + k]'(by omega) := by
                have := HY.out
                subst this
                exact get_extract s pos (pos + wd) k hk (by omega)
              rw [hyk]
              by_cases hlo : s[pos].toNat < 128
              · have e1 := HPC.out.low hlt hlo
                have e0 : k = 0 := by omega
                subst e0
                have := H37.out
                simp only [Nat.add_zero]
                omega
              · have := HPC.out.high hlt (by omega) k (by omega) (by omega)
                omega
            refine ⟨pos + wd, q, acc ++ (btL y).flatMap nP, by omega, hq, rfl, s3, Lib.hid ⟨HI3.out, HIT3.out, HB3.out, HT.out.later HB3.out, fun j hj h1 h2 => by omega, ?_, ?_, ?_⟩⟩
            · rw [show max (pos + wd) q = pos + wd from by omega]
              have h1 := HL.out.eq
              rw [show max pos q = pos from by omega, HYT.out.split] at h1
              rw [h1]
              show Option.map _ (rwI nT nP _) = _
              rw [rwI_run _ _ hne, map_app]
              rfl
            · rw [show max (pos + wd) q = pos + wd from by omega, List.length_append]
              have h1 := HLN.out
              have h2 := flat_len nP_len (btL y)
              have h3 := HYT.out.size
              rw [btL_length, h3] at h2
              omega
            · exact HL.out.byts.append (flat_byts (fun c h0 h1 => nP_byts h0 h1) (btL_byts y))
          case measure =>
            simp only [World.iterPos, HIT3.out, HL.out.it]
            omega
    · have hnx : ∀ ty, (Instr.next (.pointer (some ⟨w.heap.size + 1, 0, none⟩)) true ty).run Tryz.prog wr = _ := fun ty => Lib.run_next_end_at wr (w.heap.size + 1) s pos ty HL.out.it hlt
      have HN : Hid (r = some acc) := Lib.hid (by
        rw [← HR.out, HL.out.eq, List.drop_eq_nil_of_le (by simp; omega)]
        show Option.map _ (rwI nT nP []) = _
        rw [rwI_nil]
        simp)
      go_wp2_with fail
      refine (bstr_at w.heap.size w.heap.size acc _ HL.out.bld HL.out.byts B0).mono ?_
      rintro e w2 ⟨rfl, k2⟩
      have HB2 := Lib.hid (HL.out.bel.trans k2.1)
      clear k2
      go_wp2
      go_ret2
      rw [HN.out]
      exact ⟨rfl, HB2.out⟩
end Go.Proofs.YtodlecjbpmggiaaGreatDoor
