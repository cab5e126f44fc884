/- Part of a chain: Texts, FnOrM, LastP, FnOrd. -/
import Derived.Test.YtimkgaokcldgkaaGreatDoorFd34
import Derived.Test.YtimkgaokcldgkaaGreatDoorFd33
import Derived.Test.YtimkgaokcldgkaaGreatDoorFd07
/- A slice of strings that came in. -/
namespace Go.Proofs.YtimkgaokcldgkaaGreatDoor
open Go.RowKit

/-- A slice of strings that came in: nil, or a row of 'cap' cells with the strings 'ss', the first 'len' of which are its elements. -/
def IsTexts (w : World) (a : Option Addr) (len cap : Nat) (ss : List ByteArray) : Prop :=
  (a = none ∧ len = 0 ∧ cap = 0 ∧ ss = []) ∨
  ∃ x, a = some x ∧ len ≤ cap ∧ cap ≤ maxLen ∧ ss.length = cap ∧ (∀ i, i < ss.length → w.cell? (x.add i) = some (.string (ss.getD i ByteArray.empty))) ∧ ∀ s ∈ ss, s.size ≤ maxLen
end Go.Proofs.YtimkgaokcldgkaaGreatDoor
/- FrontOrder: what its loops hold. -/
namespace Go.Proofs.YtimkgaokcldgkaaGreatDoor
open Go Go.RowKit Go.Maps
set_option linter.unusedVariables false
set_option linter.unusedSimpArgs false
set_option maxRecDepth 100000

theorem fn_bytes {w : World} {a : Option Addr} {len cap : Nat} {zs : List Int} (h : IsRow .u8 w a len cap zs) :
    ∃ b off, (0 < len → a = some ⟨b, off, none⟩) ∧ len ≤ maxLen ∧ ∀ k, k < len → w.cell? ⟨b, off + k, none⟩ = some (.int .u8 (zs.getD k 0)) ∧ 0 ≤ zs.getD k 0 ∧ zs.getD k 0 ≤ 255 := by
  rcases h with ⟨rfl, rfl, rfl, rfl⟩ | ⟨x, rfl, hlc, hcm, hz, hcell, hwf⟩
  · exact ⟨0, 0, fun h => absurd h (by decide), by decide, fun k h => absurd h (Nat.not_lt_zero k)⟩
  · by_cases hl : 0 < zs.length
    · obtain ⟨b, off, rfl, hc⟩ := ints_at hcell hl
      refine ⟨b, off, fun _ => rfl, by omega, fun k hk => ⟨hc k (by omega), ?_⟩⟩
      have h0 : k < zs.length := by omega
      have h1 := hwf zs[k] (List.getElem_mem h0)
      simp [Lit.wf, IntKind.min, IntKind.max, IntKind.signed, IntKind.bits] at h1
      rw [List.getD_eq_getElem?_getD, List.getElem?_eq_getElem h0, Option.getD_some]
      omega
    · exact ⟨0, 0, fun h => absurd h (by omega), by omega, fun k h => absurd h (by omega)⟩
theorem fn_texts {w : World} {a : Option Addr} {len cap : Nat} {ss : List ByteArray} (h : IsTexts w a len cap ss) :
    ∃ b off, (0 < len → a = some ⟨b, off, none⟩) ∧ len ≤ maxLen ∧ ∀ k, k < len → w.cell? ⟨b, off + k, none⟩ = some (.string (ss.getD k ByteArray.empty)) ∧ (ss.getD k ByteArray.empty).size ≤ maxLen := by
  rcases h with ⟨rfl, rfl, rfl, rfl⟩ | ⟨⟨b, off, spot⟩, rfl, hlc, hcm, hz, hcell, hwf⟩
  · exact ⟨0, 0, fun h => absurd h (by decide), by decide, fun k h => absurd h (Nat.not_lt_zero k)⟩
  · by_cases hl : 0 < ss.length
    · have hspot : spot = none := by simpa [Addr.add] using World.cell?_spot (hcell 0 hl)
      subst hspot
      refine ⟨b, off, fun _ => rfl, by omega, fun k hk => ⟨by rw [← Go.WideShapes.add_plain]; exact hcell k (by omega), ?_⟩⟩
      have h0 : k < ss.length := by omega
      rw [List.getD_eq_getElem?_getD, List.getElem?_eq_getElem h0, Option.getD_some]
      exact hwf _ (List.getElem_mem h0)
    · exact ⟨0, 0, fun h => absurd h (by omega), by omega, fun k h => absurd h (by omega)⟩
section
variable {w wr w' : World} {d L f N K : Nat} {g g2 : Lg} {RD RL RF RD2 RL2 RF2 : Nat → Prop} {F : Ft} {bs bs' : Bxs} {rs : Int → List Rq} {room : Int} {ss : List ByteArray} {zs : List Int} {i : Nat}
theorem FtB.sub (h : FtB w d L K g RD RL f N RF F bs wr) (hs : ∀ b ∈ bs', b ∈ bs) : FtB w d L K g RD RL f N RF F bs' wr := ⟨h.ft, fun b hm => h.bx b (hs b hm)⟩
theorem FtB.put (h : FtB w d L K g RD RL f N RF F bs wr) {b : Nat} {o o' : Obj} (hb : (b, o) ∈ bs) (ho : Only (fun k => k = b) wr w') (hw : w'.heap[b]? = some o') : FtB w d L K g RD RL f N RF F [(b, o')] w' := by
  obtain ⟨q1, q2, q3, q4⟩ := h.bx _ hb
  refine ⟨⟨h.ft.sp.only ho (fun k hk => by subst hk; exact ⟨q2, q4⟩), h.ft.fr.only ho (fun k hk e => q3 (by rw [← e]; exact hk)), h.ft.ap, h.ft.ge⟩, fun c hc => ?_⟩
  rw [List.mem_singleton] at hc
  subst hc
  exact ⟨hw, q2, q3, q4⟩
/-- While they come. -/
structure OrS (w wr : World) (d L i : Nat) (g : Lg) (RD RL : Nat → Prop) (f : Nat) (RF : Nat → Prop) (F : Ft) (rs : Int → List Rq) (room : Int) (ss : List ByteArray) (zs : List Int) (bs : Bxs) : Prop where
  fb : FtB w d L (32768 + i) g RD RL f i RF F bs wr
  fw : FtW F g rs
  cl : CLog 127 i g
  n7 : g.n = 7
  len : (rs 0).length = i
  hl : F.hs.length = i
  oth : ∀ k, k ≠ 0 → rs k = []
  mm : ∀ r ∈ rs 0, ∃ j : Nat, j < i ∧ r.id = (j : Int) + 1 ∧ r.path = ss.getD j ByteArray.empty ∧ r.prio = (zs.getD j 0).tmod 8
  per : F.per = 100
  mem : F.mem = room
theorem OrS.no (h : OrS w wr d L i g RD RL f RF F rs room ss zs bs) : gA F.hs ((i : Int) + 1) = none := by
  cases hg : gA F.hs ((i : Int) + 1) with
  | none => rfl
  | some k =>
    obtain ⟨x, hx, e⟩ := (h.fb.ft.fr.ok.ids _ k).1 hg
    rw [h.fw.R k] at hx
    obtain ⟨y, hy, rfl⟩ := List.mem_map.1 hx
    by_cases hk : k = 0
    · subst hk
      obtain ⟨j, h1, h2, _⟩ := h.mm y hy
      have e : y.id = (i : Int) + 1 := e
      omega
    · rw [h.oth k hk] at hy; cases hy
theorem OrS.next (h : OrS w wr d L i g RD RL f RF F rs room ss zs bs) {r : Rq} (hid : r.id = (i : Int) + 1) (hp : r.path = ss.getD i ByteArray.empty) (hpr : r.prio = (zs.getD i 0).tmod 8)
    (hb : FtB w d L (32768 + (i + 1)) g2 RD2 RL2 f (i + 1) RF2 (insF F 0 r) bs' w') (hw : FtW (insF F 0 r) g2 (setR rs 0 (insQ (rs 0) r))) (hc : CLog 127 (i + 1) g2) (hn : g2.n = 7) : OrS w w' d L (i + 1) g2 RD2 RL2 f RF2 (insF F 0 r) (setR rs 0 (insQ (rs 0) r)) room ss zs [] := by
  have h0 : setR rs 0 (insQ (rs 0) r) 0 = insQ (rs 0) r := if_pos rfl
  refine ⟨hb.sub (fun b hm => by cases hm), hw, hc, hn, by rw [h0, insQ_len, h.len], ?_, fun k hk => ?_, fun y hy => ?_, h.per, h.mem⟩
  · show (pA F.hs r.id 0).length = i + 1
    rw [len_pA_new _ (by rw [hid]; exact h.no), h.hl]
  · rw [show setR rs 0 (insQ (rs 0) r) k = rs k from if_neg hk]
    exact h.oth k hk
  · rw [h0] at hy
    rcases insQ_mem.1 hy with rfl | hy
    · exact ⟨i, by omega, hid, hp, hpr⟩
    · obtain ⟨j, h1, h2⟩ := h.mm y hy
      exact ⟨j, by omega, h2⟩
theorem OrS.few (h : OrS w wr d L i g RD RL f RF F rs room ss zs bs) (hi : i ≤ 40) : (g.D.S.length : Int) < g.n := by
  have := few_segs_ h.cl (by decide) hi
  rw [h.n7]
  omega
/-- While they go: n of them were there, i are gone. -/
structure OrT (w wr : World) (d L K n i : Nat) (g : Lg) (RD RL : Nat → Prop) (f lb : Nat) (RF : Nat → Prop) (F : Ft) (rs : Int → List Rq) (room : Int) (ss : List ByteArray) (zs : List Int) (l : Rq) : Prop where
  fb : FtB w d L K g RD RL f n RF F [(lb, .cells (rqA l) 35 (0, 0))] wr
  fw : FtW F g rs
  len : (rs 0).length + i = n
  hl : F.hs.length + i = n
  oth : ∀ k, k ≠ 0 → rs k = []
  mm : ∀ r ∈ rs 0, ∃ j : Nat, j < n ∧ r.id = (j : Int) + 1 ∧ r.path = ss.getD j ByteArray.empty ∧ r.prio = (zs.getD j 0).tmod 8
  mem : F.mem = room
  lst : ∀ r ∈ rs 0, befB l r = true
theorem OrT.kep {K n lb : Nat} {l : Rq} (h : OrT w wr d L K n i g RD RL f lb RF F rs room ss zs l) : Srt (rs 0) := srt_noP (by rw [← h.fw.R 0]; exact h.fb.ft.fr.ok.srt 0)
/-- The first has gone. -/
theorem OrT.next {K n lb : Nat} {l r : Rq} {t : List Rq} (h : OrT w wr d L K n i g RD RL f lb RF F rs room ss zs l) (hr : rs 0 = r :: t) {S' : List (Int × ByteArray)}
    (hb : FtB w d L K g RD RL f n RF2 (drpF ⟨F.per, F.mem, F.R, F.hs, S'⟩ 0 r.id) [(lb, .cells (rqA r) 35 (0, 0))] w') (hw : FtW (drpF ⟨F.per, F.mem, F.R, F.hs, S'⟩ 0 r.id) g (setR rs 0 ((rs 0).filter fun y => !decide (y.id = r.id)))) :
    OrT w w' d L K n (i + 1) g RD RL f lb RF2 (drpF ⟨F.per, F.mem, F.R, F.hs, S'⟩ 0 r.id) (setR rs 0 ((rs 0).filter fun y => !decide (y.id = r.id))) room ss zs r := by
  have hs := h.kep
  have h0 : setR rs 0 ((rs 0).filter fun y => !decide (y.id = r.id)) 0 = t := by
    have hd : (rs 0).Pairwise fun a b => a.id ≠ b.id := by
      have hj : ∀ a b : Rq, Bef a b → a.id = b.id → a.prio < b.prio := fun a b hab e => by unfold Bef at hab; omega
      rw [List.pairwise_iff_getElem]
      intro x y hx hy hxy e
      obtain ⟨j1, h1, h2, _, h4⟩ := h.mm _ (List.getElem_mem hx)
      obtain ⟨j2, h5, h6, _, h8⟩ := h.mm _ (List.getElem_mem hy)
      have e2 : j1 = j2 := by omega
      have h9 := hj _ _ ((List.pairwise_iff_getElem.1 hs) x y hx hy hxy) e
      rw [h4, h8, e2] at h9
      omega
    rw [show ∀ q, setR rs 0 q 0 = q from fun q => if_pos rfl, hr]
    rw [hr, List.pairwise_cons] at hd
    rw [List.filter_cons_of_neg (by simp)]
    exact List.filter_eq_self.2 (fun y hy => by have := hd.1 y hy; have h9 : ¬ y.id = r.id := fun e => this e.symm; simp [h9])
  have ht : ∀ y ∈ t, y ∈ rs 0 := fun y hy => by rw [hr]; exact List.mem_cons_of_mem _ hy
  have hin : (gA F.hs r.id).isSome = true := by
    rw [(h.fb.ft.fr.ok.ids r.id 0).2 ⟨noP r, by rw [h.fw.R 0, hr]; exact List.mem_cons_self, rfl⟩]; rfl
  have hl := h.len
  rw [hr, List.length_cons] at hl
  refine ⟨hb, hw, by rw [h0]; omega, ?_, fun k hk => ?_, fun y hy => ?_, h.mem, fun y hy => ?_⟩
  · show (dA F.hs r.id).length + (i + 1) = n
    have := len_dA_nd h.fb.ft.fr.ok.nd hin
    have := h.hl
    omega
  · rw [show setR rs 0 _ k = rs k from if_neg hk]
    exact h.oth k hk
  · rw [h0] at hy
    exact h.mm y (ht y hy)
  · rw [h0] at hy
    rw [hr] at hs
    unfold Srt at hs
    rw [List.pairwise_cons] at hs
    exact decide_eq_true (hs.1 y hy)
end
end Go.Proofs.YtimkgaokcldgkaaGreatDoor
/- As XLast: the search for what waits for an operation, cut short: an operation waits for earlier ones alone. No program here. -/
namespace Go.Proofs.YtimkgaokcldgkaaGreatDoor
open Go
variable {P : Program} {ops : Array Oper} {Q : Exit → Act → World → Prop} {md : Region.Mode} {S : World → Prop} {k : Nat}

/-- Does j wait for i, perhaps over others behind i? -/
def waitsP (md : Region.Mode) (ops : Array Oper) : Nat → Nat → Nat → Bool
  | 0, _, _ => false
  | n + 1, j, i => match ops[j]? with
    | some o => o.after.any fun e => Region.binds md e && (e.on == i || (Nat.blt i e.on && waitsP md ops n e.on i))
    | none => false
theorem waits_of : ∀ (n j i : Nat), waitsP md ops n j i = true → waitsFor md ops n j i = true
  | 0, _, _, h => by simp [waitsP] at h
  | n + 1, j, i, h => by
    unfold waitsP at h
    unfold waitsFor
    split at h
    · rename_i o ho
      rw [ho]
      obtain ⟨e, he, h⟩ := Array.any_eq_true'.1 h
      simp only [Bool.and_eq_true, Bool.or_eq_true] at h
      refine Array.any_eq_true'.2 ⟨e, he, ?_⟩
      simp only [Bool.and_eq_true, Bool.or_eq_true]
      refine ⟨h.1, ?_⟩
      rcases h.2 with h2 | ⟨_, h2⟩
      · exact Or.inl h2
      · exact Or.inr (waits_of n e.on i h2)
    · cases h
theorem wpAnyL_takeP {i : Nat} {oi : Oper} {v : Value} {fuel : Nat} {listed : Array Bool} {a : Act} {w : World} (hi : ops[i]? = some oi)
    (hs : Region.noSelect ops = true) (hf : Region.free md ops listed i = true) (hr : (Region.ready md ops listed).contains i = true) (hw : waitsP md ops ops.size k i = true)
    (hQ : ∀ c a w, Q (.panic c) (a.put oi.dst v) w → Q (.panic c) a w) (hik : (i == k) = false) (hc : Closed md ops listed) (hy : YieldsIf P ops S oi v a) (hS : S w)
    (h : Closed md ops (listed.setIfInBounds i true) → wpAnyL P md ops Q S k fuel (listed.setIfInBounds i true) (a.put oi.dst v) w) : wpAnyL P md ops Q S k (fuel + 1) listed a w :=
  wpAnyL_take hi hs hf hr (waits_of _ _ _ hw) hQ hik hc hy hS h
end Go.Proofs.YtimkgaokcldgkaaGreatDoor
/- FrontOrder, walked. Written by gen_ordl.py. -/
namespace Go.Proofs.YtimkgaokcldgkaaGreatDoor
open Go Go.RowKit Go.Maps
set_option linter.unusedVariables false
set_option linter.unusedSimpArgs false
set_option maxRecDepth 100000

set_option maxHeartbeats 8000000 in
theorem frontOrder_walk (m : Int) (a1 : Option Addr) (len1 cap1 : Nat) (ss : List ByteArray) (a2 : Option Addr) (len2 cap2 : Nat) (zs : List Int) (w : World) (hm : (Lit.int .u8 m).wf = true) (h1 : IsTexts w a1 len1 cap1 ss) (h2 : IsRow .u8 w a2 len2 cap2 zs) (hN : NowM w) :
    Calls Tryz.prog 5 #[.int .u8 m, .slice a1 len1 cap1, .slice a2 len2 cap2] w fun e w' => e = .returned (.bool true) ∧ Below w.heap.size w w' := by
  obtain ⟨b1, o1, ha1, hlm1, hc1⟩ := fn_texts h1
  obtain ⟨b2, o2, ha2, hlm2, hc2⟩ := fn_bytes h2
  unfold maxLen at hlm1 hlm2
  have HA1 := Lib.hid ha1
  have HC1 := Lib.hid hc1
  have HA2 := Lib.hid ha2
  have HC2 := Lib.hid hc2
  have HN := Lib.hid hN
  have hm0 : 0 ≤ m ∧ m ≤ 255 := by simp [Lit.wf, IntKind.min, IntKind.max, IntKind.signed, IntKind.bits] at hm; omega
  obtain ⟨k6, hk6, hk0, hk1⟩ : ∃ k, m.tmod 6 = k ∧ 0 ≤ k ∧ k ≤ 5 := ⟨_, rfl, by rw [Int.tmod_eq_emod_of_nonneg hm0.1]; omega, by rw [Int.tmod_eq_emod_of_nonneg hm0.1]; omega⟩
  have wk1 : IntKind.i64.wrap k6 = k6 := IntWalk.i64_in _ (by omega)
  have wk2 : IntKind.i64.wrap (k6 + 1) = k6 + 1 := IntWalk.i64_in _ (by omega)
  have O0 : Hid (okI 0) := Lib.hid (okI_of (by decide) (by decide))
  clear ha1 hc1 ha2 hc2 hN h1 h2 hm
  have NW := Lib.hid (s_new HN.out (Below.refl _ w) 16)
  go_enter Tryz.func5, Tryz.ntmps5
  go_wp2_with fail
  refine NW.out.mono ?_
  rintro e w1 ⟨d, RD, rfl, hd, _, _⟩
  have D1 := Lib.hid hd
  clear hd NW
  have OP := Lib.hid (s_open D1.out 7)
  go_wp2_with fail
  refine OP.out.mono ?_
  rintro e w2 ⟨L, RL, rfl, hs, _, _⟩
  have S2 := Lib.hid hs
  clear hs OP D1
  have FN := Lib.hid (fnew_at 100 (k6 + 1) L w2)
  go_wp2_with fail
  refine FN.out.mono ?_
  rintro e w3 ⟨f, RF, rfl, hf, hb, hg⟩
  obtain ⟨room, hroom⟩ : ∃ r, mxF (k6 + 1) = r := ⟨_, rfl⟩
  have HRO : Hid (room = k6 + 1) := Lib.hid (by rw [← hroom]; unfold mxF; omega)
  have T3 : Hid (OrS w w3 d L 0 (openL ⟨[], [], moI 16, 0, 0⟩ 7) RD RL f RF (ft0 100 (k6 + 1)) (fun _ => []) room ss zs []) := Lib.hid ⟨⟨FtS.new S2.out hf hb hg, fun b hb => (by cases hb)⟩, FtW.nil _ _ _, CLog.new 127 16 7 (by decide), rfl, rfl, rfl, fun _ _ => rfl, fun r hr => (by cases hr), rfl, hroom⟩
  clear hf hb hg FN S2 hroom
  go_wp2_with fail
  go_loopw [11, 12] (fun v11 v12 wr => ∃ (i : Nat) (g : Lg) (RD RL RF : Nat → Prop) (F : Ft) (rs : Int → List Rq), i ≤ len1 ∧ i ≤ len2 ∧ i ≤ 25 ∧ v11 = .int .i64 (i : Int) ∧ v12 = .int .i64 (i : Int) ∧ Hid (OrS w wr d L i g RD RL f RF F rs room ss zs [])) (fun _ v12 _ => 25 - (vI v12).toNat)
  case atStart => exact ⟨0, _, _, _, _, _, _, by omega, by omega, by omega, rfl, rfl, T3⟩
  case round =>
    obtain ⟨i, g, RD, RL, RF, F, rs, hi1, hi2, hi3, rfl, rfl, HQ⟩ := hrel
    clear T3
    obtain ⟨q, hq⟩ : ∃ q, (decide ((i : Int) < (len1 : Int)) && (decide ((i : Int) < (len2 : Int)) && decide ((i : Int) < 25))) = q := ⟨_, rfl⟩
    have HQQ := Lib.hid hq
    clear hq
    go_upto_region 8 with fail
    go_cut [49] from 36 to 83 (fun v wx => v = .bool q ∧ wx = wr)
    case first =>
      by_cases k1 : i < len1
      · have d1 : decide ((i : Int) < (len1 : Int)) = true := decide_eq_true (by omega)
        by_cases k2 : i < len2
        · have d2 : decide ((i : Int) < (len2 : Int)) = true := decide_eq_true (by omega)
          obtain ⟨b3, hb3⟩ : ∃ b, decide ((i : Int) < 25) = b := ⟨_, rfl⟩
          obtain rfl : b3 = q := by rw [← HQQ.out, d1, d2, hb3]; rfl
          go_wp2
          go_meet
          exact ⟨rfl, rfl⟩
        · have d2 : decide ((i : Int) < (len2 : Int)) = false := decide_eq_false (by omega)
          obtain rfl : false = q := by rw [← HQQ.out, d1, d2]; rfl
          go_wp2
          go_meet
          exact ⟨rfl, rfl⟩
      · have d1 : decide ((i : Int) < (len1 : Int)) = false := decide_eq_false (by omega)
        obtain rfl : false = q := by rw [← HQQ.out, d1]; rfl
        go_wp2
        go_meet
        exact ⟨rfl, rfl⟩
    case rest =>
    obtain ⟨rfl, hwc⟩ := hcut
    subst hwc
    obtain ⟨wr, hwr⟩ : ∃ W, wc = W := ⟨_, rfl⟩
    rw [hwr] at HQ ⊢
    clear hwr
    cases q with
    | true =>
      obtain ⟨k1, k2, k3⟩ : i < len1 ∧ i < len2 ∧ i < 25 := by
        have h9 := HQQ.out
        rw [Bool.and_eq_true, Bool.and_eq_true] at h9
        have := of_decide_eq_true h9.1
        have := of_decide_eq_true h9.2.1
        have := of_decide_eq_true h9.2.2
        omega
      have haa1 := HA1.out (by omega)
      subst haa1
      have haa2 := HA2.out (by omega)
      subst haa2
      obtain ⟨hz1, hsz⟩ := HC1.out i k1
      obtain ⟨hz2, z0, z1⟩ := HC2.out i k2
      have BLW := Lib.hid HQ.out.fb.ft.bl
      have e0 := (BLW.out.cell (World.block_lt_of_cell? _ _ hz1)).trans hz1
      have f0 := (BLW.out.cell (World.block_lt_of_cell? _ _ hz2)).trans hz2
      obtain ⟨p, hp⟩ : ∃ p, ss.getD i ByteArray.empty = p := ⟨_, rfl⟩
      obtain ⟨z, hz⟩ : ∃ z, zs.getD i 0 = z := ⟨_, rfl⟩
      rw [hp] at e0 hsz
      rw [hz] at f0 z0 z1
      unfold maxLen at hsz
      have HP := Lib.hid hp
      have HZ := Lib.hid hz
      have hx0 : (0 : Int) ≤ (i : Int) := by omega
      have hx1 : (i : Int) < (len1 : Int) := by omega
      have hx2 : (i : Int) < (len2 : Int) := by omega
      have wi : IntKind.i64.wrap (i : Int) = (i : Int) := IntWalk.i64_in _ (by omega)
      have wi1 : IntKind.i64.wrap ((i : Int) + 1) = (i : Int) + 1 := IntWalk.i64_in _ (by omega)
      obtain ⟨pv, hpv, hp0, hp1⟩ : ∃ pv, z.tmod 8 = pv ∧ 0 ≤ pv ∧ pv ≤ 7 := ⟨_, rfl, by rw [Int.tmod_eq_emod_of_nonneg z0]; omega, by rw [Int.tmod_eq_emod_of_nonneg z0]; omega⟩
      have wpv : IntKind.i64.wrap pv = pv := IntWalk.i64_in _ (by omega)
      have HPV : Hid ((zs.getD i 0).tmod 8 = pv) := Lib.hid (by rw [HZ.out]; exact hpv)
      clear hp hz hz1 hz2 BLW
      by_cases hbig : 100 < p.size
      · have dbig : decide (100 < (p.size : Int)) = true := decide_eq_true (by omega)
        have AW := Lib.hid (awake17_at wr (HN.out.later HQ.out.fb.ft.bl))
        have B1 := Lib.hid HQ.out.fb.ft.bl
        clear HQ
        go_wp2_with fail
        refine AW.out.mono ?_
        rintro e w4 ⟨rfl, hb⟩
        have BF := Lib.hid (B1.out.trans (hb.mono B1.out.size))
        clear hb AW
        go_wp2_with fail
        go_ret
        exact ⟨rfl, BF.out⟩
      have dbig : decide (100 < (p.size : Int)) = false := decide_eq_false (by omega)
      have hbig2 : ¬ (100 : Int) < (p.size : Int) := by omega
      have HSZ : Hid (p.size ≤ 100) := Lib.hid (by omega)
      go_upto_region 12 with fail
      refine wp_region_last 14 (fun w' => Below wr.heap.size wr w') (by kernel_rfl) ((Below.refl _ wr).drew) (fun hHeld hClosed => ?_)
      refine wpAnyL_take (i := 0) (v := ?_) rfl (by kernel_rfl) (by kernel_rfl) (by kernel_rfl) (by kernel_rfl) (fun _ _ _ h => h) (by kernel_rfl) hClosed (Or.inl ⟨by rfl, ?_⟩) hHeld (fun hClosed => ?_)
      rotate_left
      · intro wv hSw; go_simp; all_goals (with_reducible rfl)
      (try simp only [List.getElem_toArray, List.getElem_cons_zero, put_at, List.set])
      refine wpAnyL_take (i := 1) (v := ?_) rfl (by kernel_rfl) (by kernel_rfl) (by kernel_rfl) (by kernel_rfl) (fun _ _ _ h => h) (by kernel_rfl) hClosed (Or.inl ⟨by rfl, ?_⟩) hHeld (fun hClosed => ?_)
      rotate_left
      · intro wv hSw; go_simp; all_goals (with_reducible rfl)
      (try simp only [List.getElem_toArray, List.getElem_cons_succ, List.getElem_cons_zero, put_at, List.set])
      refine wpAnyL_take (i := 2) (v := ?_) rfl (by kernel_rfl) (by kernel_rfl) (by kernel_rfl) (by kernel_rfl) (fun _ _ _ h => h) (by kernel_rfl) hClosed (Or.inl ⟨by rfl, ?_⟩) hHeld (fun hClosed => ?_)
      rotate_left
      · intro wv hSw; go_simp; all_goals (with_reducible rfl)
      (try simp only [List.getElem_toArray, List.getElem_cons_succ, List.getElem_cons_zero, put_at, List.set])
      refine wpAnyL_take (i := 3) (v := ?_) rfl (by kernel_rfl) (by kernel_rfl) (by kernel_rfl) (by kernel_rfl) (fun _ _ _ h => h) (by kernel_rfl) hClosed (Or.inl ⟨by rfl, ?_⟩) hHeld (fun hClosed => ?_)
      rotate_left
      · intro wv hSw; go_simp; all_goals (with_reducible rfl)
      (try simp only [List.getElem_toArray, List.getElem_cons_succ, List.getElem_cons_zero, put_at, List.set])
      refine wpAnyL_take (i := 4) (v := ?_) rfl (by kernel_rfl) (by kernel_rfl) (by kernel_rfl) (by kernel_rfl) (fun _ _ _ h => h) (by kernel_rfl) hClosed (Or.inl ⟨by rfl, ?_⟩) hHeld (fun hClosed => ?_)
      rotate_left
      · intro wv hSw; go_simp; all_goals (with_reducible rfl)
      (try simp only [List.getElem_toArray, List.getElem_cons_succ, List.getElem_cons_zero, put_at, List.set])
      refine wpAnyL_take (i := 5) (v := ?_) rfl (by kernel_rfl) (by kernel_rfl) (by kernel_rfl) (by kernel_rfl) (fun _ _ _ h => h) (by kernel_rfl) hClosed (Or.inl ⟨by rfl, ?_⟩) hHeld (fun hClosed => ?_)
      rotate_left
      · intro wv hSw; have c0 := (hSw.cell (World.block_lt_of_cell? _ _ e0)).trans e0; have d0 := (hSw.cell (World.block_lt_of_cell? _ _ f0)).trans f0; go_simp; all_goals (with_reducible rfl)
      (try simp only [List.getElem_toArray, List.getElem_cons_succ, List.getElem_cons_zero, put_at, List.set])
      refine wpAnyL_take (i := 6) (v := ?_) rfl (by kernel_rfl) (by kernel_rfl) (by kernel_rfl) (by kernel_rfl) (fun _ _ _ h => h) (by kernel_rfl) hClosed (Or.inl ⟨by rfl, ?_⟩) hHeld (fun hClosed => ?_)
      rotate_left
      · intro wv hSw; go_simp; all_goals (with_reducible rfl)
      (try simp only [List.getElem_toArray, List.getElem_cons_succ, List.getElem_cons_zero, put_at, List.set])
      refine wpAnyL_take (i := 7) (v := ?_) rfl (by kernel_rfl) (by kernel_rfl) (by kernel_rfl) (by kernel_rfl) (fun _ _ _ h => h) (by kernel_rfl) hClosed (Or.inl ⟨by rfl, ?_⟩) hHeld (fun hClosed => ?_)
      rotate_left
      · intro wv hSw; go_simp; all_goals (with_reducible rfl)
      (try simp only [List.getElem_toArray, List.getElem_cons_succ, List.getElem_cons_zero, put_at, List.set])
      refine wpAnyL_take (i := 8) (v := ?_) rfl (by kernel_rfl) (by kernel_rfl) (by kernel_rfl) (by kernel_rfl) (fun _ _ _ h => h) (by kernel_rfl) hClosed (Or.inl ⟨by rfl, ?_⟩) hHeld (fun hClosed => ?_)
      rotate_left
      · intro wv hSw; go_simp; all_goals (with_reducible rfl)
      (try simp only [List.getElem_toArray, List.getElem_cons_succ, List.getElem_cons_zero, put_at, List.set])
      refine wpAnyL_take (i := 9) (v := ?_) rfl (by kernel_rfl) (by kernel_rfl) (by kernel_rfl) (by kernel_rfl) (fun _ _ _ h => h) (by kernel_rfl) hClosed (Or.inl ⟨by rfl, ?_⟩) hHeld (fun hClosed => ?_)
      rotate_left
      · intro wv hSw; have c0 := (hSw.cell (World.block_lt_of_cell? _ _ e0)).trans e0; have d0 := (hSw.cell (World.block_lt_of_cell? _ _ f0)).trans f0; go_simp; all_goals (with_reducible rfl)
      (try simp only [List.getElem_toArray, List.getElem_cons_succ, List.getElem_cons_zero, put_at, List.set])
      refine wpAnyL_take (i := 10) (v := ?_) rfl (by kernel_rfl) (by kernel_rfl) (by kernel_rfl) (by kernel_rfl) (fun _ _ _ h => h) (by kernel_rfl) hClosed (Or.inl ⟨by rfl, ?_⟩) hHeld (fun hClosed => ?_)
      rotate_left
      · intro wv hSw; go_simp; all_goals (with_reducible rfl)
      (try simp only [List.getElem_toArray, List.getElem_cons_succ, List.getElem_cons_zero, put_at, List.set])
      refine wpAnyL_take (i := 11) (v := ?_) rfl (by kernel_rfl) (by kernel_rfl) (by kernel_rfl) (by kernel_rfl) (fun _ _ _ h => h) (by kernel_rfl) hClosed (Or.inl ⟨by rfl, ?_⟩) hHeld (fun hClosed => ?_)
      rotate_left
      · intro wv hSw; have c0 := (hSw.cell (World.block_lt_of_cell? _ _ e0)).trans e0; have d0 := (hSw.cell (World.block_lt_of_cell? _ _ f0)).trans f0; go_simp; all_goals (with_reducible rfl)
      (try simp only [List.getElem_toArray, List.getElem_cons_succ, List.getElem_cons_zero, put_at, List.set])
      refine wpAnyL_take (i := 12) (v := ?_) rfl (by kernel_rfl) (by kernel_rfl) (by kernel_rfl) (by kernel_rfl) (fun _ _ _ h => h) (by kernel_rfl) hClosed (Or.inl ⟨by rfl, ?_⟩) hHeld (fun hClosed => ?_)
      rotate_left
      · intro wv hSw; go_simp; all_goals (with_reducible rfl)
      (try simp only [List.getElem_toArray, List.getElem_cons_succ, List.getElem_cons_zero, put_at, List.set])
      refine wpAnyL_one (i := 13) rfl (by kernel_rfl) (by kernel_rfl) hClosed (fun KK hK => ?_)
      go_simp
      refine hK.out _ _ ?_ (fun hClosed hHeld => ?_)
      · exact hHeld.alloc hHeld.size _
      clear hK KK
      (first | simp only [List.getElem_toArray, List.getElem_cons_succ, List.getElem_cons_zero, put_at, List.set] | (try simp only [put_at, List.set]))
      refine wpAnyL_last rfl (by kernel_rfl) (by kernel_rfl) (fun KK hK => ?_)
      go_simp
      refine hK.out _ _ ?_
      (try simp only [put_at, List.set])
      clear hHeld hClosed
      have T6 : Hid (FtB w d L (32768 + i) g RD RL f i RF F [(wr.heap.size, .cells #[.int .i64 ((i : Int) + 1), .string ⟨#[104]⟩, .string p, .int .i64 pv, .int .i64 0] 35 (0, 0))] (wr.alloc (.cells #[.int .i64 ((i : Int) + 1), .string ⟨#[104]⟩, .string p, .int .i64 pv, .int .i64 0] 35)).drew) := Lib.hid ((HQ.out.fb.add _ _).later (Below.refl _ _).drew)
      go_upto_region 13 with fail
      refine code_forget (fun W => Hid (FtB w d L (32768 + i) g RD RL f i RF F [(wr.heap.size, .cells #[.int .i64 ((i : Int) + 1), .string ⟨#[104]⟩, .string p, .int .i64 pv, .int .i64 0] 35 (0, 0))] W)) T6 ?_
      obtain ⟨rb, hrb⟩ : ∃ x, wr.heap.size = x := ⟨_, rfl⟩
      rw [hrb]
      clear hrb T6 e0 f0
      rintro w6 T6
      have hsr : soundR (rcQ ⟨(i : Int) + 1, ⟨#[104]⟩, p, pv, 0⟩) := ⟨by show (1 : Int) ≤ 1; decide, by show (1 : Int) ≤ 3; decide, by show 0 ≤ (i : Int) + 1; omega, by show (0 : Int) ≤ 0; decide, by show 0 ≤ pv; omega, by show pv ≤ 7; omega, by show (1 : Nat) ≤ 256; decide, by show p.size ≤ 768; have := HSZ.out; omega⟩
      obtain ⟨g2, hpg, hc2, hl2, hn2⟩ := HQ.out.cl.put (by omega) (HQ.out.few (by omega)) (r := rcQ ⟨(i : Int) + 1, ⟨#[104]⟩, p, pv, 0⟩) rfl hsr ⟨by show (i : Int) + 1 < _; omega, by show (0 : Int) < _; decide⟩ (by unfold encR; rw [recB_length, contR_length]; show 6 + (20 + (1 + p.size)) ≤ 127; have := HSZ.out; omega) (by decide)
      have PC := Lib.hid (s_put T6.out.ft.sp (rcQ ⟨(i : Int) + 1, ⟨#[104]⟩, p, pv, 0⟩) rfl (okI_of (by show _ ≤ (i : Int) + 1; omega) (by show (i : Int) + 1 ≤ _; omega)) (by omega) (by omega) (by rw [HQ.out.n7]; decide) _ hpg)
      have FW2 := Lib.hid (HQ.out.fw.put HQ.out.fb.ft.fr.ok HQ.out.cl hc2 (r := ⟨(i : Int) + 1, ⟨#[104]⟩, p, pv, 0⟩) hl2 HQ.out.no)
      have HC3 := Lib.hid hc2
      have HN3 : Hid (g2.n = 7) := Lib.hid (by rw [hn2, HQ.out.n7])
      unfold rcQ reqL at PC
      dsimp only at PC
      clear hsr hpg hc2 hl2 hn2
      have BR := Lib.hid (T6.out.box List.mem_cons_self)
      have r0 := BR.out.cell 0
      have r1 := BR.out.cell 1
      have r2 := BR.out.cell 2
      have r3 := BR.out.cell 3
      have r4 := BR.out.cell 4
      go_wp2_with fail
      refine PC.out.mono ?_
      rintro e w7 ⟨rfl, ha⟩
      obtain ⟨RD2, RL2, ht7⟩ := T6.out.spa ha
      have T7 := Lib.hid ht7
      clear ha ht7 PC T6 BR r0 r1 r2 r3 r4
      have AD := Lib.hid (ses_add T7.out FW2.out.1 0 O0.out ⟨(i : Int) + 1, ⟨#[104]⟩, p, pv, 0⟩ (okI_of (by show _ ≤ (i : Int) + 1; omega) (by show (i : Int) + 1 ≤ _; omega)) (by omega) (Or.inl FW2.out.2))
      unfold rqA at AD
      dsimp only at AD
      have BR := Lib.hid (T7.out.box List.mem_cons_self)
      have r0 := BR.out.cell 0
      have r1 := BR.out.cell 1
      have r2 := BR.out.cell 2
      have r3 := BR.out.cell 3
      have r4 := BR.out.cell 4
      go_wp2_with fail
      refine AD.out.mono ?_
      rintro e w8 hp
      have hno := HQ.out.no
      have hper := HQ.out.per
      have hlen := HQ.out.len
      rcases hp with ⟨p1, _⟩ | ⟨_, p2, _⟩ | ⟨_, _, rfl, R2, p4, p5⟩
      · rw [hno] at p1; cases p1
      · rw [hper, hlen] at p2; omega
      have NX := Lib.hid (HQ.out.next (r := ⟨(i : Int) + 1, ⟨#[104]⟩, p, pv, 0⟩) rfl HP.out.symm HPV.out.symm p4 p5 HC3.out HN3.out)
      clear p4 p5 hno hper hlen AD T7 HQ HC3 HN3 FW2 BR r0 r1 r2 r3 r4 HC1 HC2
      go_wp2_with fail
      go_roundw
      case rel => exact ⟨i + 1, g2, RD2, RL2, R2, _, _, by omega, by omega, by omega, by go_num, by go_num, NX⟩
      case measure => exact cra_ms 25 i k3
    | false =>
      have HDONE : Hid (i ≤ 25) := Lib.hid hi3
      clear HQQ
      have T5 : Hid (OrT w (wr.alloc (.cells #[.int .i64 0, .string ⟨#[]⟩, .string ⟨#[]⟩, .int .i64 (-1), .int .i64 0] 35)) d L (32768 + i) i 0 g RD RL f wr.heap.size RF F rs room ss zs ⟨0, ⟨#[]⟩, ⟨#[]⟩, -1, 0⟩) := Lib.hid ⟨HQ.out.fb.add _ _, HQ.out.fw, HQ.out.len, HQ.out.hl, HQ.out.oth, HQ.out.mm, HQ.out.mem, fun r hr => by
        obtain ⟨j, h1, _, _, h4⟩ := HQ.out.mm r hr
        refine decide_eq_true (Or.inl ?_)
        show (-1 : Int) < r.prio
        rw [h4]
        have h9 := (HC2.out j (by omega)).2.1
        rw [Int.tmod_eq_emod_of_nonneg h9]
        omega⟩
      go_upto_region 17 with fail
      refine code_forget (fun W => Hid (OrT w W d L (32768 + i) i 0 g RD RL f wr.heap.size RF F rs room ss zs ⟨0, ⟨#[]⟩, ⟨#[]⟩, -1, 0⟩)) T5 ?_
      obtain ⟨lb, hlb⟩ : ∃ p, wr.heap.size = p := ⟨_, rfl⟩
      rw [hlb]
      clear hlb T5 HQ
      rintro w5 T5
      obtain ⟨n, hn⟩ : ∃ n, i = n := ⟨_, rfl⟩
      subst hn
      obtain ⟨KZ, hKK⟩ : ∃ K, 32768 + i = K := ⟨_, rfl⟩
      rw [hKK] at T5
      clear hKK
      go_wp2_with fail
      go_loopw [15] (fun v15 wy => ∃ (k : Nat) (RF : Nat → Prop) (F : Ft) (rs : Int → List Rq) (l : Rq), k ≤ i ∧ v15 = .int .i64 (k : Int) ∧ Hid (OrT w wy d L KZ i k g RD RL f lb RF F rs room ss zs l)) (fun v15 _ => i - (vI v15).toNat)
      case atStart => exact ⟨0, _, _, _, _, by omega, rfl, T5⟩
      case round =>
        obtain ⟨k, RF, F, rs, l, hk, rfl, HT⟩ := hrel
        clear T5
        by_cases hlt : k < i
        · have hkd : decide ((k : Int) < (i : Int)) = true := decide_eq_true (by omega)
          obtain ⟨x, t, hxt⟩ : ∃ x t, rs 0 = x :: t := by
            have := HT.out.len
            cases hr : rs 0 with
            | nil => rw [hr] at this; simp at this; omega
            | cons x t => exact ⟨x, t, rfl⟩
          have HXT := Lib.hid hxt
          obtain ⟨j, hj, hxid, hxp, hxr⟩ := HT.out.mm x (by rw [hxt]; exact List.mem_cons_self)
          have FS := Lib.hid (ses_first HT.out.fb HT.out.fw 0 O0.out (by have := HDONE.out; omega))
          unfold SesF at FS
          rw [hxt] at FS
          have BFV : Hid (befB l x = true) := Lib.hid (HT.out.lst x (by rw [hxt]; exact List.mem_cons_self))
          have HIN0 : Hid (gA F.hs x.id = some 0) := Lib.hid ((HT.out.fb.ft.fr.ok.ids x.id 0).2 ⟨noP x, by rw [HT.out.fw.R 0, hxt]; exact List.mem_cons_self, rfl⟩)
          obtain ⟨xi, xh, xp, xr, xt⟩ := x
          obtain ⟨li, lh, lp, lr, lt⟩ := l
          dsimp only at hxid hxp hxr HIN0
          have HXI := Lib.hid hxid
          have haa1 := HA1.out (by omega)
          subst haa1
          have haa2 := HA2.out (by omega)
          subst haa2
          obtain ⟨hz1, _⟩ := HC1.out j (by omega)
          obtain ⟨hz2, z0, z1⟩ := HC2.out j (by omega)
          obtain ⟨z, hz⟩ : ∃ z, zs.getD j 0 = z := ⟨_, rfl⟩
          rw [← hxp] at hz1
          rw [hz] at hz2 z0 z1 hxr
          obtain ⟨pv, hpv, hp0, hp1⟩ : ∃ pv, z.tmod 8 = pv ∧ 0 ≤ pv ∧ pv ≤ 7 := ⟨_, rfl, by rw [Int.tmod_eq_emod_of_nonneg z0]; omega, by rw [Int.tmod_eq_emod_of_nonneg z0]; omega⟩
          rw [hpv] at hxr
          subst hxr
          have E0 := Lib.hid hz1
          have F0 := Lib.hid hz2
          have OJ : Hid (okI xi) := Lib.hid (okI_of (by omega) (by omega))
          have dx1 : decide (xi < 1) = false := decide_eq_false (by omega)
          have nx1 : ¬ xi < 1 := by omega
          have dx2 : decide ((i : Int) < xi) = false := decide_eq_false (by omega)
          have nx2 : ¬ (i : Int) < xi := by omega
          have wj : IntKind.i64.wrap (xi - 1) = (j : Int) := by rw [IntWalk.i64_in _ (by omega)]; omega
          have hy0 : (0 : Int) ≤ (j : Int) := by omega
          have hy1 : (j : Int) < (len1 : Int) := by omega
          have hy2 : (j : Int) < (len2 : Int) := by omega
          have wjj : IntKind.i64.wrap (j : Int) = (j : Int) := IntWalk.i64_in _ (by omega)
          have wpv : IntKind.i64.wrap xr = xr := IntWalk.i64_in _ (by omega)
          unfold rqA at FS
          dsimp only at FS
          clear hz1 hz2 hz hxp hxt hxid
          go_wp2_with fail
          refine FS.out.mono ?_
          rintro e w4 ⟨rfl, S', ht4, hw4, hp4⟩
          have H3 := Lib.hid ht4
          have W4 := Lib.hid hw4
          clear ht4 hw4 hp4 FS
          go_upto_region 21 with fail
          refine code_forget (fun W => Hid (FtB w d L KZ g RD RL f i RF ⟨F.per, F.mem, F.R, F.hs, S'⟩ [(w4.heap.size, .cells #[.int .i64 xi, .string xh, .string xp, .int .i64 xr, .int .i64 xt] 35 (0, 0)), (lb, .cells #[.int .i64 li, .string lh, .string lp, .int .i64 lr, .int .i64 lt] 35 (0, 0))] W)) (Lib.hid (H3.out.add _ _)) ?_
          obtain ⟨xb, hxb⟩ : ∃ p, w4.heap.size = p := ⟨_, rfl⟩
          rw [hxb]
          clear hxb H3
          rintro w5 H4
          have BX := Lib.hid (H4.out.box List.mem_cons_self)
          have BL := Lib.hid (H4.out.box (List.mem_cons_of_mem _ List.mem_cons_self))
          have B4 := Lib.hid H4.out.ft.bl
          have e0 := E0.out
          have f0 := F0.out
          obtain ⟨M4, hM4⟩ : ∃ M, S'.length = M := ⟨_, rfl⟩
          have HM4 := Lib.hid hM4
          have hml : ¬ (k6 + 1) < (M4 : Int) := by
            have h9 : (S'.length : Int) ≤ F.mem := H4.out.ft.fr.ok.lim
            have := HT.out.mem
            have := HRO.out
            omega
          have dml : decide ((k6 + 1) < (M4 : Int)) = false := decide_eq_false hml
          have BF : Hid (∀ W, Calls Tryz.prog 23 #[.agg #[.int .i64 li, .string lh, .string lp, .int .i64 lr, .int .i64 lt], .agg #[.int .i64 xi, .string xh, .string xp, .int .i64 xr, .int .i64 xt]] W fun e w' => e = .returned (.bool true) ∧ Below W.heap.size W w') := Lib.hid (fun W => (before_at ⟨li, lh, lp, lr, lt⟩ ⟨xi, xh, xp, xr, xt⟩ W).mono fun e w' ⟨h1, h2⟩ => ⟨by rw [h1, BFV.out], h2⟩)
          clear hM4
          refine wp_region_last 55 (fun w' => Box w' xb #[.int .i64 xi, .string xh, .string xp, .int .i64 xr, .int .i64 xt] 35 ∧ Box w' lb #[.int .i64 li, .string lh, .string lp, .int .i64 lr, .int .i64 lt] 35 ∧ Below w.heap.size w w') (by kernel_rfl) (⟨BX.out.drew, BL.out.drew, B4.out.drew⟩) (fun hHeld hClosed => ?_)
          refine wpAnyL_one (i := 0) rfl (by kernel_rfl) (by kernel_rfl) hClosed (fun KK hK => ?_)
          go_simp
          refine hK.out _ _ ?_ (fun hClosed hHeld => ?_)
          · exact hHeld
          clear hK KK
          (first | simp only [List.getElem_toArray, List.getElem_cons_zero, put_at, List.set] | (try simp only [put_at, List.set]))
          refine wpAnyL_one (i := 1) rfl (by kernel_rfl) (by kernel_rfl) hClosed (fun KK hK => ?_)
          go_simp
          refine hK.out _ _ ?_ (fun hClosed hHeld => ?_)
          · exact hHeld
          clear hK KK
          (first | simp only [List.getElem_toArray, List.getElem_cons_succ, List.getElem_cons_zero, put_at, List.set] | (try simp only [put_at, List.set]))
          refine wpAnyL_one (i := 2) rfl (by kernel_rfl) (by kernel_rfl) hClosed (fun KK hK => ?_)
          go_simp
          refine hK.out _ _ ?_ (fun hClosed hHeld => ?_)
          · exact hHeld
          clear hK KK
          (first | simp only [List.getElem_toArray, List.getElem_cons_succ, List.getElem_cons_zero, put_at, List.set] | (try simp only [put_at, List.set]))
          refine wpAnyL_one (i := 3) rfl (by kernel_rfl) (by kernel_rfl) hClosed (fun KK hK => ?_)
          go_simp
          refine hK.out _ _ ?_ (fun hClosed hHeld => ?_)
          · exact hHeld
          clear hK KK
          (first | simp only [List.getElem_toArray, List.getElem_cons_succ, List.getElem_cons_zero, put_at, List.set] | (try simp only [put_at, List.set]))
          refine wpAnyL_one (i := 4) rfl (by kernel_rfl) (by kernel_rfl) hClosed (fun KK hK => ?_)
          have x0 := hHeld.1.cell 0
          have x1 := hHeld.1.cell 1
          have x2 := hHeld.1.cell 2
          have x3 := hHeld.1.cell 3
          have x4 := hHeld.1.cell 4
          have l0 := hHeld.2.1.cell 0
          have l1 := hHeld.2.1.cell 1
          have l2 := hHeld.2.1.cell 2
          have l3 := hHeld.2.1.cell 3
          have l4 := hHeld.2.1.cell 4
          have c0 := (hHeld.2.2.cell (World.block_lt_of_cell? _ _ e0)).trans e0
          have d0 := (hHeld.2.2.cell (World.block_lt_of_cell? _ _ f0)).trans f0
          go_simp
          refine hK.out _ _ ?_ (fun hClosed hHeld => ?_)
          · exact hHeld
          clear hK KK
          (first | simp only [List.getElem_toArray, List.getElem_cons_succ, List.getElem_cons_zero, put_at, List.set] | (try simp only [put_at, List.set]))
          refine wpAnyL_one (i := 5) rfl (by kernel_rfl) (by kernel_rfl) hClosed (fun KK hK => ?_)
          go_simp
          refine hK.out _ _ ?_ (fun hClosed hHeld => ?_)
          · exact hHeld
          clear hK KK
          (first | simp only [List.getElem_toArray, List.getElem_cons_succ, List.getElem_cons_zero, put_at, List.set] | (try simp only [put_at, List.set]))
          refine wpAnyL_one (i := 6) rfl (by kernel_rfl) (by kernel_rfl) hClosed (fun KK hK => ?_)
          go_simp
          refine hK.out _ _ ?_ (fun hClosed hHeld => ?_)
          · exact hHeld
          clear hK KK
          (first | simp only [List.getElem_toArray, List.getElem_cons_succ, List.getElem_cons_zero, put_at, List.set] | (try simp only [put_at, List.set]))
          refine wpAnyL_one (i := 7) rfl (by kernel_rfl) (by kernel_rfl) hClosed (fun KK hK => ?_)
          go_simp
          refine hK.out _ _ ?_ (fun hClosed hHeld => ?_)
          · exact hHeld
          clear hK KK
          (first | simp only [List.getElem_toArray, List.getElem_cons_succ, List.getElem_cons_zero, put_at, List.set] | (try simp only [put_at, List.set]))
          refine wpAnyL_takeP (i := 8) (v := ?_) rfl (by kernel_rfl) (by kernel_rfl) (by kernel_rfl) (by kernel_rfl) (fun _ _ _ h => h) (by kernel_rfl) hClosed (Or.inl ⟨by rfl, ?_⟩) hHeld (fun hClosed => ?_)
          rotate_left
          · intro wv hSw; go_simp; all_goals (with_reducible rfl)
          (try simp only [List.getElem_toArray, List.getElem_cons_succ, List.getElem_cons_zero, put_at, List.set])
          refine wpAnyL_takeP (i := 9) (v := ?_) rfl (by kernel_rfl) (by kernel_rfl) (by kernel_rfl) (by kernel_rfl) (fun _ _ _ h => h) (by kernel_rfl) hClosed (Or.inl ⟨by rfl, ?_⟩) hHeld (fun hClosed => ?_)
          rotate_left
          · intro wv hSw; have x0 := hSw.1.cell 0; have x1 := hSw.1.cell 1; have x2 := hSw.1.cell 2; have x3 := hSw.1.cell 3; have x4 := hSw.1.cell 4; have l0 := hSw.2.1.cell 0; have l1 := hSw.2.1.cell 1; have l2 := hSw.2.1.cell 2; have l3 := hSw.2.1.cell 3; have l4 := hSw.2.1.cell 4; have c0 := (hSw.2.2.cell (World.block_lt_of_cell? _ _ e0)).trans e0; have d0 := (hSw.2.2.cell (World.block_lt_of_cell? _ _ f0)).trans f0; go_simp; all_goals (with_reducible rfl)
          (try simp only [List.getElem_toArray, List.getElem_cons_succ, List.getElem_cons_zero, put_at, List.set])
          refine wpAnyL_one (i := 10) rfl (by kernel_rfl) (by kernel_rfl) hClosed (fun KK hK => ?_)
          go_simp
          refine hK.out _ _ ?_ (fun hClosed hHeld => ?_)
          · exact hHeld
          clear hK KK
          (first | simp only [List.getElem_toArray, List.getElem_cons_succ, List.getElem_cons_zero, put_at, List.set] | (try simp only [put_at, List.set]))
          refine wpAnyL_one (i := 11) rfl (by kernel_rfl) (by kernel_rfl) hClosed (fun KK hK => ?_)
          go_simp
          refine hK.out _ _ ?_ (fun hClosed hHeld => ?_)
          · exact hHeld
          clear hK KK
          (first | simp only [List.getElem_toArray, List.getElem_cons_succ, List.getElem_cons_zero, put_at, List.set] | (try simp only [put_at, List.set]))
          refine wpAnyL_one (i := 12) rfl (by kernel_rfl) (by kernel_rfl) hClosed (fun KK hK => ?_)
          go_simp
          refine hK.out _ _ ?_ (fun hClosed hHeld => ?_)
          · exact hHeld
          clear hK KK
          (first | simp only [List.getElem_toArray, List.getElem_cons_succ, List.getElem_cons_zero, put_at, List.set] | (try simp only [put_at, List.set]))
          refine wpAnyL_one (i := 13) rfl (by kernel_rfl) (by kernel_rfl) hClosed (fun KK hK => ?_)
          go_simp
          refine hK.out _ _ ?_ (fun hClosed hHeld => ?_)
          · exact hHeld
          clear hK KK
          (first | simp only [List.getElem_toArray, List.getElem_cons_succ, List.getElem_cons_zero, put_at, List.set] | (try simp only [put_at, List.set]))
          refine wpAnyL_takeP (i := 14) (v := ?_) rfl (by kernel_rfl) (by kernel_rfl) (by kernel_rfl) (by kernel_rfl) (fun _ _ _ h => h) (by kernel_rfl) hClosed (Or.inl ⟨by rfl, ?_⟩) hHeld (fun hClosed => ?_)
          rotate_left
          · intro wv hSw; go_simp; all_goals (with_reducible rfl)
          (try simp only [List.getElem_toArray, List.getElem_cons_succ, List.getElem_cons_zero, put_at, List.set])
          refine wpAnyL_takeP (i := 15) (v := ?_) rfl (by kernel_rfl) (by kernel_rfl) (by kernel_rfl) (by kernel_rfl) (fun _ _ _ h => h) (by kernel_rfl) hClosed (Or.inl ⟨by rfl, ?_⟩) hHeld (fun hClosed => ?_)
          rotate_left
          · intro wv hSw; have x0 := hSw.1.cell 0; have x1 := hSw.1.cell 1; have x2 := hSw.1.cell 2; have x3 := hSw.1.cell 3; have x4 := hSw.1.cell 4; have l0 := hSw.2.1.cell 0; have l1 := hSw.2.1.cell 1; have l2 := hSw.2.1.cell 2; have l3 := hSw.2.1.cell 3; have l4 := hSw.2.1.cell 4; have c0 := (hSw.2.2.cell (World.block_lt_of_cell? _ _ e0)).trans e0; have d0 := (hSw.2.2.cell (World.block_lt_of_cell? _ _ f0)).trans f0; go_simp; all_goals (with_reducible rfl)
          (try simp only [List.getElem_toArray, List.getElem_cons_succ, List.getElem_cons_zero, put_at, List.set])
          refine wpAnyL_takeP (i := 16) (v := ?_) rfl (by kernel_rfl) (by kernel_rfl) (by kernel_rfl) (by kernel_rfl) (fun _ _ _ h => h) (by kernel_rfl) hClosed (Or.inl ⟨by rfl, ?_⟩) hHeld (fun hClosed => ?_)
          rotate_left
          · intro wv hSw; go_simp; all_goals (with_reducible rfl)
          (try simp only [List.getElem_toArray, List.getElem_cons_succ, List.getElem_cons_zero, put_at, List.set])
          refine wpAnyL_one (i := 17) rfl (by kernel_rfl) (by kernel_rfl) hClosed (fun KK hK => ?_)
          go_simp
          refine hK.out _ _ ?_ (fun hClosed hHeld => ?_)
          · exact hHeld
          clear hK KK
          (first | simp only [List.getElem_toArray, List.getElem_cons_succ, List.getElem_cons_zero, put_at, List.set] | (try simp only [put_at, List.set]))
          refine wpAnyL_one (i := 18) rfl (by kernel_rfl) (by kernel_rfl) hClosed (fun KK hK => ?_)
          have x0 := hHeld.1.cell 0
          have x1 := hHeld.1.cell 1
          have x2 := hHeld.1.cell 2
          have x3 := hHeld.1.cell 3
          have x4 := hHeld.1.cell 4
          have l0 := hHeld.2.1.cell 0
          have l1 := hHeld.2.1.cell 1
          have l2 := hHeld.2.1.cell 2
          have l3 := hHeld.2.1.cell 3
          have l4 := hHeld.2.1.cell 4
          have c0 := (hHeld.2.2.cell (World.block_lt_of_cell? _ _ e0)).trans e0
          have d0 := (hHeld.2.2.cell (World.block_lt_of_cell? _ _ f0)).trans f0
          go_simp
          refine hK.out _ _ ?_ (fun hClosed hHeld => ?_)
          · exact hHeld
          clear hK KK
          (first | simp only [List.getElem_toArray, List.getElem_cons_succ, List.getElem_cons_zero, put_at, List.set] | (try simp only [put_at, List.set]))
          refine wpAnyL_one (i := 19) rfl (by kernel_rfl) (by kernel_rfl) hClosed (fun KK hK => ?_)
          go_simp
          refine hK.out _ _ ?_ (fun hClosed hHeld => ?_)
          · exact hHeld
          clear hK KK
          (first | simp only [List.getElem_toArray, List.getElem_cons_succ, List.getElem_cons_zero, put_at, List.set] | (try simp only [put_at, List.set]))
          refine wpAnyL_one (i := 20) rfl (by kernel_rfl) (by kernel_rfl) hClosed (fun KK hK => ?_)
          go_simp
          refine hK.out _ _ ?_ (fun hClosed hHeld => ?_)
          · exact hHeld
          clear hK KK
          (first | simp only [List.getElem_toArray, List.getElem_cons_succ, List.getElem_cons_zero, put_at, List.set] | (try simp only [put_at, List.set]))
          refine wpAnyL_one (i := 21) rfl (by kernel_rfl) (by kernel_rfl) hClosed (fun KK hK => ?_)
          have x0 := hHeld.1.cell 0
          have x1 := hHeld.1.cell 1
          have x2 := hHeld.1.cell 2
          have x3 := hHeld.1.cell 3
          have x4 := hHeld.1.cell 4
          have l0 := hHeld.2.1.cell 0
          have l1 := hHeld.2.1.cell 1
          have l2 := hHeld.2.1.cell 2
          have l3 := hHeld.2.1.cell 3
          have l4 := hHeld.2.1.cell 4
          have c0 := (hHeld.2.2.cell (World.block_lt_of_cell? _ _ e0)).trans e0
          have d0 := (hHeld.2.2.cell (World.block_lt_of_cell? _ _ f0)).trans f0
          go_simp
          refine hK.out _ _ ?_ (fun hClosed hHeld => ?_)
          · exact hHeld
          clear hK KK
          (first | simp only [List.getElem_toArray, List.getElem_cons_succ, List.getElem_cons_zero, put_at, List.set] | (try simp only [put_at, List.set]))
          refine wpAnyL_one (i := 22) rfl (by kernel_rfl) (by kernel_rfl) hClosed (fun KK hK => ?_)
          go_simp
          refine hK.out _ _ ?_ (fun hClosed hHeld => ?_)
          · exact hHeld
          clear hK KK
          (first | simp only [List.getElem_toArray, List.getElem_cons_succ, List.getElem_cons_zero, put_at, List.set] | (try simp only [put_at, List.set]))
          refine wpAnyL_one (i := 23) rfl (by kernel_rfl) (by kernel_rfl) hClosed (fun KK hK => ?_)
          go_simp
          refine hK.out _ _ ?_ (fun hClosed hHeld => ?_)
          · exact hHeld
          clear hK KK
          (first | simp only [List.getElem_toArray, List.getElem_cons_succ, List.getElem_cons_zero, put_at, List.set] | (try simp only [put_at, List.set]))
          refine wpAnyL_one (i := 24) rfl (by kernel_rfl) (by kernel_rfl) hClosed (fun KK hK => ?_)
          go_simp
          refine hK.out _ _ ?_ (fun hClosed hHeld => ?_)
          · exact hHeld
          clear hK KK
          (first | simp only [List.getElem_toArray, List.getElem_cons_succ, List.getElem_cons_zero, put_at, List.set] | (try simp only [put_at, List.set]))
          refine wpAnyL_takeP (i := 25) (v := ?_) rfl (by kernel_rfl) (by kernel_rfl) (by kernel_rfl) (by kernel_rfl) (fun _ _ _ h => h) (by kernel_rfl) hClosed (Or.inl ⟨by rfl, ?_⟩) hHeld (fun hClosed => ?_)
          rotate_left
          · intro wv hSw; go_simp; all_goals (with_reducible rfl)
          (try simp only [List.getElem_toArray, List.getElem_cons_succ, List.getElem_cons_zero, put_at, List.set])
          refine wpAnyL_takeP (i := 26) (v := ?_) rfl (by kernel_rfl) (by kernel_rfl) (by kernel_rfl) (by kernel_rfl) (fun _ _ _ h => h) (by kernel_rfl) hClosed (Or.inl ⟨by rfl, ?_⟩) hHeld (fun hClosed => ?_)
          rotate_left
          · intro wv hSw; have x0 := hSw.1.cell 0; have x1 := hSw.1.cell 1; have x2 := hSw.1.cell 2; have x3 := hSw.1.cell 3; have x4 := hSw.1.cell 4; have l0 := hSw.2.1.cell 0; have l1 := hSw.2.1.cell 1; have l2 := hSw.2.1.cell 2; have l3 := hSw.2.1.cell 3; have l4 := hSw.2.1.cell 4; have c0 := (hSw.2.2.cell (World.block_lt_of_cell? _ _ e0)).trans e0; have d0 := (hSw.2.2.cell (World.block_lt_of_cell? _ _ f0)).trans f0; go_simp; all_goals (with_reducible rfl)
          (try simp only [List.getElem_toArray, List.getElem_cons_succ, List.getElem_cons_zero, put_at, List.set])
          refine wpAnyL_takeP (i := 27) (v := ?_) rfl (by kernel_rfl) (by kernel_rfl) (by kernel_rfl) (by kernel_rfl) (fun _ _ _ h => h) (by kernel_rfl) hClosed (Or.inl ⟨by rfl, ?_⟩) hHeld (fun hClosed => ?_)
          rotate_left
          · intro wv hSw; go_simp; all_goals (with_reducible rfl)
          (try simp only [List.getElem_toArray, List.getElem_cons_succ, List.getElem_cons_zero, put_at, List.set])
          refine wpAnyL_one (i := 28) rfl (by kernel_rfl) (by kernel_rfl) hClosed (fun KK hK => ?_)
          go_simp
          refine hK.out _ _ ?_ (fun hClosed hHeld => ?_)
          · exact hHeld
          clear hK KK
          (first | simp only [List.getElem_toArray, List.getElem_cons_succ, List.getElem_cons_zero, put_at, List.set] | (try simp only [put_at, List.set]))
          refine wpAnyL_one (i := 29) rfl (by kernel_rfl) (by kernel_rfl) hClosed (fun KK hK => ?_)
          have x0 := hHeld.1.cell 0
          have x1 := hHeld.1.cell 1
          have x2 := hHeld.1.cell 2
          have x3 := hHeld.1.cell 3
          have x4 := hHeld.1.cell 4
          have l0 := hHeld.2.1.cell 0
          have l1 := hHeld.2.1.cell 1
          have l2 := hHeld.2.1.cell 2
          have l3 := hHeld.2.1.cell 3
          have l4 := hHeld.2.1.cell 4
          have c0 := (hHeld.2.2.cell (World.block_lt_of_cell? _ _ e0)).trans e0
          have d0 := (hHeld.2.2.cell (World.block_lt_of_cell? _ _ f0)).trans f0
          go_simp
          refine hK.out _ _ ?_ (fun hClosed hHeld => ?_)
          · exact hHeld
          clear hK KK
          (first | simp only [List.getElem_toArray, List.getElem_cons_succ, List.getElem_cons_zero, put_at, List.set] | (try simp only [put_at, List.set]))
          refine wpAnyL_one (i := 30) rfl (by kernel_rfl) (by kernel_rfl) hClosed (fun KK hK => ?_)
          go_simp
          refine hK.out _ _ ?_ (fun hClosed hHeld => ?_)
          · exact hHeld
          clear hK KK
          (first | simp only [List.getElem_toArray, List.getElem_cons_succ, List.getElem_cons_zero, put_at, List.set] | (try simp only [put_at, List.set]))
          refine wpAnyL_one (i := 31) rfl (by kernel_rfl) (by kernel_rfl) hClosed (fun KK hK => ?_)
          go_simp
          refine hK.out _ _ ?_ (fun hClosed hHeld => ?_)
          · exact hHeld
          clear hK KK
          (first | simp only [List.getElem_toArray, List.getElem_cons_succ, List.getElem_cons_zero, put_at, List.set] | (try simp only [put_at, List.set]))
          refine wpAnyL_one (i := 32) rfl (by kernel_rfl) (by kernel_rfl) hClosed (fun KK hK => ?_)
          have x0 := hHeld.1.cell 0
          have x1 := hHeld.1.cell 1
          have x2 := hHeld.1.cell 2
          have x3 := hHeld.1.cell 3
          have x4 := hHeld.1.cell 4
          have l0 := hHeld.2.1.cell 0
          have l1 := hHeld.2.1.cell 1
          have l2 := hHeld.2.1.cell 2
          have l3 := hHeld.2.1.cell 3
          have l4 := hHeld.2.1.cell 4
          have c0 := (hHeld.2.2.cell (World.block_lt_of_cell? _ _ e0)).trans e0
          have d0 := (hHeld.2.2.cell (World.block_lt_of_cell? _ _ f0)).trans f0
          go_simp
          refine hK.out _ _ ?_ (fun hClosed hHeld => ?_)
          · exact hHeld
          clear hK KK
          (first | simp only [List.getElem_toArray, List.getElem_cons_succ, List.getElem_cons_zero, put_at, List.set] | (try simp only [put_at, List.set]))
          refine wpAnyL_one (i := 33) rfl (by kernel_rfl) (by kernel_rfl) hClosed (fun KK hK => ?_)
          go_simp
          refine hK.out _ _ ?_ (fun hClosed hHeld => ?_)
          · exact hHeld
          clear hK KK
          (first | simp only [List.getElem_toArray, List.getElem_cons_succ, List.getElem_cons_zero, put_at, List.set] | (try simp only [put_at, List.set]))
          refine wpAnyL_one (i := 34) rfl (by kernel_rfl) (by kernel_rfl) hClosed (fun KK hK => ?_)
          have x0 := hHeld.1.cell 0
          have x1 := hHeld.1.cell 1
          have x2 := hHeld.1.cell 2
          have x3 := hHeld.1.cell 3
          have x4 := hHeld.1.cell 4
          have l0 := hHeld.2.1.cell 0
          have l1 := hHeld.2.1.cell 1
          have l2 := hHeld.2.1.cell 2
          have l3 := hHeld.2.1.cell 3
          have l4 := hHeld.2.1.cell 4
          have c0 := (hHeld.2.2.cell (World.block_lt_of_cell? _ _ e0)).trans e0
          have d0 := (hHeld.2.2.cell (World.block_lt_of_cell? _ _ f0)).trans f0
          go_simp
          refine hK.out _ _ ?_ (fun hClosed hHeld => ?_)
          · exact hHeld
          clear hK KK
          (first | simp only [List.getElem_toArray, List.getElem_cons_succ, List.getElem_cons_zero, put_at, List.set] | (try simp only [put_at, List.set]))
          refine wpAnyL_one (i := 35) rfl (by kernel_rfl) (by kernel_rfl) hClosed (fun KK hK => ?_)
          go_simp
          refine hK.out _ _ ?_ (fun hClosed hHeld => ?_)
          · exact hHeld
          clear hK KK
          (first | simp only [List.getElem_toArray, List.getElem_cons_succ, List.getElem_cons_zero, put_at, List.set] | (try simp only [put_at, List.set]))
          refine wpAnyL_one (i := 36) rfl (by kernel_rfl) (by kernel_rfl) hClosed (fun KK hK => ?_)
          go_simp
          refine hK.out _ _ ?_ (fun hClosed hHeld => ?_)
          · exact hHeld
          clear hK KK
          (first | simp only [List.getElem_toArray, List.getElem_cons_succ, List.getElem_cons_zero, put_at, List.set] | (try simp only [put_at, List.set]))
          refine wpAnyL_one (i := 37) rfl (by kernel_rfl) (by kernel_rfl) hClosed (fun KK hK => ?_)
          go_simp
          refine hK.out _ _ ?_ (fun hClosed hHeld => ?_)
          · exact hHeld
          clear hK KK
          (first | simp only [List.getElem_toArray, List.getElem_cons_succ, List.getElem_cons_zero, put_at, List.set] | (try simp only [put_at, List.set]))
          refine wpAnyL_takeP (i := 38) (v := ?_) rfl (by kernel_rfl) (by kernel_rfl) (by kernel_rfl) (by kernel_rfl) (fun _ _ _ h => h) (by kernel_rfl) hClosed (Or.inl ⟨by rfl, ?_⟩) hHeld (fun hClosed => ?_)
          rotate_left
          · intro wv hSw; have x0 := hSw.1.cell 0; have x1 := hSw.1.cell 1; have x2 := hSw.1.cell 2; have x3 := hSw.1.cell 3; have x4 := hSw.1.cell 4; have l0 := hSw.2.1.cell 0; have l1 := hSw.2.1.cell 1; have l2 := hSw.2.1.cell 2; have l3 := hSw.2.1.cell 3; have l4 := hSw.2.1.cell 4; have c0 := (hSw.2.2.cell (World.block_lt_of_cell? _ _ e0)).trans e0; have d0 := (hSw.2.2.cell (World.block_lt_of_cell? _ _ f0)).trans f0; go_simp; all_goals (with_reducible rfl)
          (try simp only [List.getElem_toArray, List.getElem_cons_succ, List.getElem_cons_zero, put_at, List.set])
          refine wpAnyL_one (i := 39) rfl (by kernel_rfl) (by kernel_rfl) hClosed (fun KK hK => ?_)
          have x0 := hHeld.1.cell 0
          have x1 := hHeld.1.cell 1
          have x2 := hHeld.1.cell 2
          have x3 := hHeld.1.cell 3
          have x4 := hHeld.1.cell 4
          have l0 := hHeld.2.1.cell 0
          have l1 := hHeld.2.1.cell 1
          have l2 := hHeld.2.1.cell 2
          have l3 := hHeld.2.1.cell 3
          have l4 := hHeld.2.1.cell 4
          have c0 := (hHeld.2.2.cell (World.block_lt_of_cell? _ _ e0)).trans e0
          have d0 := (hHeld.2.2.cell (World.block_lt_of_cell? _ _ f0)).trans f0
          go_simp
          refine hK.out _ _ ?_ (fun hClosed hHeld => ?_)
          · exact hHeld
          clear hK KK
          (first | simp only [List.getElem_toArray, List.getElem_cons_succ, List.getElem_cons_zero, put_at, List.set] | (try simp only [put_at, List.set]))
          refine wpAnyL_one (i := 40) rfl (by kernel_rfl) (by kernel_rfl) hClosed (fun KK hK => ?_)
          go_simp
          refine (BF.out _).mono ?_
          rintro e w5 ⟨rfl, hb5⟩
          have H5 := Lib.hid ((H4.out.later (Below.refl _ _).drew).later hb5)
          go_wp2_with fail
          refine hK.out _ _ ?_ (fun hClosed hHeld => ?_)
          · exact ⟨H5.out.box List.mem_cons_self, H5.out.box (List.mem_cons_of_mem _ List.mem_cons_self), H5.out.ft.bl⟩
          clear hK KK
          (first | simp only [List.getElem_toArray, List.getElem_cons_succ, List.getElem_cons_zero, put_at, List.set] | (try simp only [put_at, List.set]))
          refine wpAnyL_one (i := 41) rfl (by kernel_rfl) (by kernel_rfl) hClosed (fun KK hK => ?_)
          go_simp
          refine hK.out _ _ ?_ (fun hClosed hHeld => ?_)
          · exact hHeld
          clear hK KK
          (first | simp only [List.getElem_toArray, List.getElem_cons_succ, List.getElem_cons_zero, put_at, List.set] | (try simp only [put_at, List.set]))
          refine wpAnyL_one (i := 42) rfl (by kernel_rfl) (by kernel_rfl) hClosed (fun KK hK => ?_)
          go_simp
          refine hK.out _ _ ?_ (fun hClosed hHeld => ?_)
          · exact hHeld
          clear hK KK
          (first | simp only [List.getElem_toArray, List.getElem_cons_succ, List.getElem_cons_zero, put_at, List.set] | (try simp only [put_at, List.set]))
          refine wpAnyL_one (i := 43) rfl (by kernel_rfl) (by kernel_rfl) hClosed (fun KK hK => ?_)
          go_simp
          refine hK.out _ _ ?_ (fun hClosed hHeld => ?_)
          · exact hHeld
          clear hK KK
          (first | simp only [List.getElem_toArray, List.getElem_cons_succ, List.getElem_cons_zero, put_at, List.set] | (try simp only [put_at, List.set]))
          refine wpAnyL_takeP (i := 44) (v := ?_) rfl (by kernel_rfl) (by kernel_rfl) (by kernel_rfl) (by kernel_rfl) (fun _ _ _ h => h) (by kernel_rfl) hClosed (Or.inl ⟨by rfl, ?_⟩) hHeld (fun hClosed => ?_)
          rotate_left
          · intro wv hSw; go_simp; all_goals (with_reducible rfl)
          (try simp only [List.getElem_toArray, List.getElem_cons_succ, List.getElem_cons_zero, put_at, List.set])
          refine wpAnyL_takeP (i := 46) (v := ?_) rfl (by kernel_rfl) (by kernel_rfl) (by kernel_rfl) (by kernel_rfl) (fun _ _ _ h => h) (by kernel_rfl) hClosed (Or.inl ⟨by rfl, ?_⟩) hHeld (fun hClosed => ?_)
          rotate_left
          · intro wv hSw; go_simp; all_goals (with_reducible rfl)
          (try simp only [List.getElem_toArray, List.getElem_cons_succ, List.getElem_cons_zero, put_at, List.set])
          refine wpAnyL_one (i := 45) rfl (by kernel_rfl) (by kernel_rfl) hClosed (fun KK hK => ?_)
          go_simp
          refine (fmem_at H5.out.ft.fr M4 HM4.out).mono ?_
          rintro e w6 ⟨rfl, hw6⟩
          subst w6
          go_wp2_with fail
          refine hK.out _ _ ?_ (fun hClosed hHeld => ?_)
          · exact hHeld
          clear hK KK
          (first | simp only [List.getElem_toArray, List.getElem_cons_succ, List.getElem_cons_zero, put_at, List.set] | (try simp only [put_at, List.set]))
          refine wpAnyL_one (i := 47) rfl (by kernel_rfl) (by kernel_rfl) hClosed (fun KK hK => ?_)
          go_simp
          refine hK.out _ _ ?_ (fun hClosed hHeld => ?_)
          · exact hHeld
          clear hK KK
          (first | simp only [List.getElem_toArray, List.getElem_cons_succ, List.getElem_cons_zero, put_at, List.set] | (try simp only [put_at, List.set]))
          refine wpAnyL_one (i := 48) rfl (by kernel_rfl) (by kernel_rfl) hClosed (fun KK hK => ?_)
          go_simp
          refine hK.out _ _ ?_ (fun hClosed hHeld => ?_)
          · exact hHeld
          clear hK KK
          (first | simp only [List.getElem_toArray, List.getElem_cons_succ, List.getElem_cons_zero, put_at, List.set] | (try simp only [put_at, List.set]))
          refine wpAnyL_one (i := 49) rfl (by kernel_rfl) (by kernel_rfl) hClosed (fun KK hK => ?_)
          go_simp
          refine hK.out _ _ ?_ (fun hClosed hHeld => ?_)
          · exact hHeld
          clear hK KK
          (first | simp only [List.getElem_toArray, List.getElem_cons_succ, List.getElem_cons_zero, put_at, List.set] | (try simp only [put_at, List.set]))
          refine wpAnyL_takeP (i := 50) (v := ?_) rfl (by kernel_rfl) (by kernel_rfl) (by kernel_rfl) (by kernel_rfl) (fun _ _ _ h => h) (by kernel_rfl) hClosed (Or.inl ⟨by rfl, ?_⟩) hHeld (fun hClosed => ?_)
          rotate_left
          · intro wv hSw; go_simp; all_goals (with_reducible rfl)
          (try simp only [List.getElem_toArray, List.getElem_cons_succ, List.getElem_cons_zero, put_at, List.set])
          refine wpAnyL_one (i := 51) rfl (by kernel_rfl) (by kernel_rfl) hClosed (fun KK hK => ?_)
          go_simp
          refine hK.out _ _ ?_ (fun hClosed hHeld => ?_)
          · exact hHeld
          clear hK KK
          (first | simp only [List.getElem_toArray, List.getElem_cons_succ, List.getElem_cons_zero, put_at, List.set] | (try simp only [put_at, List.set]))
          refine wpAnyL_one (i := 52) rfl (by kernel_rfl) (by kernel_rfl) hClosed (fun KK hK => ?_)
          have x0 := hHeld.1.cell 0
          have x1 := hHeld.1.cell 1
          have x2 := hHeld.1.cell 2
          have x3 := hHeld.1.cell 3
          have x4 := hHeld.1.cell 4
          have l0 := hHeld.2.1.cell 0
          have l1 := hHeld.2.1.cell 1
          have l2 := hHeld.2.1.cell 2
          have l3 := hHeld.2.1.cell 3
          have l4 := hHeld.2.1.cell 4
          have c0 := (hHeld.2.2.cell (World.block_lt_of_cell? _ _ e0)).trans e0
          have d0 := (hHeld.2.2.cell (World.block_lt_of_cell? _ _ f0)).trans f0
          go_simp
          refine hK.out _ _ ?_ (fun hClosed hHeld => ?_)
          · exact hHeld
          clear hK KK
          (first | simp only [List.getElem_toArray, List.getElem_cons_succ, List.getElem_cons_zero, put_at, List.set] | (try simp only [put_at, List.set]))
          refine wpAnyL_one (i := 53) rfl (by kernel_rfl) (by kernel_rfl) hClosed (fun KK hK => ?_)
          go_simp
          refine (ses_drop H5.out W4.out xi OJ.out (by have := HDONE.out; omega)).mono ?_
          rintro e w7 hp
          rcases hp with ⟨p1, _⟩ | ⟨x, R5, p1, rfl, p3, p4⟩
          · rw [show (⟨F.per, F.mem, F.R, F.hs, S'⟩ : Ft).hs = F.hs from rfl, HIN0.out] at p1; cases p1
          have H7 := Lib.hid p3
          have P1 := Lib.hid p1
          have P4 := Lib.hid p4
          clear p1 p3 p4
          go_wp2_with fail
          refine hK.out _ _ ?_ (fun hClosed hHeld => ?_)
          · exact ⟨H7.out.box List.mem_cons_self, H7.out.box (List.mem_cons_of_mem _ List.mem_cons_self), H7.out.ft.bl⟩
          clear hK KK
          (first | simp only [List.getElem_toArray, List.getElem_cons_succ, List.getElem_cons_zero, put_at, List.set] | (try simp only [put_at, List.set]))
          refine wpAnyL_one (i := 54) rfl (by kernel_rfl) (by kernel_rfl) hClosed (fun KK hK => ?_)
          go_simp
          refine hK.out _ _ ?_ (fun hClosed hHeld => ?_)
          · exact hHeld
          clear hK KK
          (first | simp only [List.getElem_toArray, List.getElem_cons_succ, List.getElem_cons_zero, put_at, List.set] | (try simp only [put_at, List.set]))
          refine wpAnyL_last rfl (by kernel_rfl) (by kernel_rfl) (fun KK hK => ?_)
          go_simp
          refine hK.out _ _ ?_
          (try simp only [put_at, List.set])
          clear hHeld hClosed
          obtain rfl : (0 : Int) = x := by
            have h9 := P1.out
            rw [show (⟨F.per, F.mem, F.R, F.hs, S'⟩ : Ft).hs = F.hs from rfl, HIN0.out] at h9
            injection h9
          have BX7 := Lib.hid (H7.out.box List.mem_cons_self)
          have BL7 := Lib.hid (H7.out.box (List.mem_cons_of_mem _ List.mem_cons_self))
          have NX : Hid (∀ W, Box W lb #[.int .i64 xi, .string xh, .string xp, .int .i64 xr, .int .i64 xt] 35 → Only (fun k => k = lb) w7 W → OrT w W d L KZ i (k + 1) g RD RL f lb R5 (drpF ⟨F.per, F.mem, F.R, F.hs, S'⟩ 0 xi) (setR rs 0 ((rs 0).filter fun y => !decide (y.id = xi))) room ss zs ⟨xi, xh, xp, xr, xt⟩) := Lib.hid (fun W hb ho => HT.out.next (r := ⟨xi, xh, xp, xr, xt⟩) HXT.out (H7.out.put (List.mem_cons_of_mem _ List.mem_cons_self) ho hb) P4.out)
          have x0 := BX7.out.cell 0
          have x1 := BX7.out.cell 1
          have x2 := BX7.out.cell 2
          have x3 := BX7.out.cell 3
          have x4 := BX7.out.cell 4
          have s0 := BL7.out.cell 0
          have t0 := BL7.out.free 0
          have s1 := BL7.out.cell 1
          have t1 := BL7.out.free 1
          have s2 := BL7.out.cell 2
          have t2 := BL7.out.free 2
          have s3 := BL7.out.cell 3
          have t3 := BL7.out.free 3
          have s4 := BL7.out.cell 4
          have t4 := BL7.out.free 4
          have lS := BL7.out.lt
          go_wp2_with fail
          go_roundw
          case rel => exact ⟨k + 1, R5, _, _, _, by omega, by go_num, Lib.hid (NX.out _ (by
            have h9 := ((((BL7.out.set 0 (.int .i64 xi)).set 1 (.string xh)).set 2 (.string xp)).set 3 (.int .i64 xr)).set 4 (.int .i64 xt)
            simpa using h9) (((((Only.refl (fun k => k = lb) w7).setCell (p := ⟨lb, 0, none⟩) (Or.inl rfl) _).setCell (p := ⟨lb, 1, none⟩) (Or.inl rfl) _).setCell (p := ⟨lb, 2, none⟩) (Or.inl rfl) _).setCell (p := ⟨lb, 3, none⟩) (Or.inl rfl) _ |>.setCell (p := ⟨lb, 4, none⟩) (Or.inl rfl) _))⟩
          case measure => exact cra_ms i k hlt
        · have hkd : decide ((k : Int) < (i : Int)) = false := decide_eq_false (by omega)
          obtain rfl : k = i := by omega
          have Z1 : Hid (F.hs.length = 0) := Lib.hid (by have := HT.out.hl; omega)
          have Z2 : Hid (F.ps.length = 0) := Lib.hid (by
            obtain ⟨qm, hm, pm, S, A, C, hc⟩ := HT.out.fb.ft.fr.mm
            have h9 := sub_len hc.ps.nd HT.out.fb.ft.fr.ok.sub
            have := Z1.out
            omega)
          have AW := Lib.hid (awake17_at wr (HN.out.later HT.out.fb.ft.bl))
          go_wp2_with fail
          refine AW.out.mono ?_
          rintro e w5 ⟨rfl, hb⟩
          have H5 := Lib.hid (HT.out.fb.later hb)
          clear hb AW HT
          have CC := Lib.hid (fcount_at H5.out.ft.fr 0 Z1.out)
          go_wp2_with fail
          refine CC.out.mono ?_
          rintro e wz ⟨rfl, hw⟩
          subst wz
          have CM := Lib.hid (fmem_at H5.out.ft.fr 0 Z2.out)
          clear CC
          go_wp2_with fail
          refine CM.out.mono ?_
          rintro e wz ⟨rfl, hw⟩
          subst wz
          go_wp2
          go_ret
          exact ⟨rfl, H5.out.ft.bl⟩
end Go.Proofs.YtimkgaokcldgkaaGreatDoor
