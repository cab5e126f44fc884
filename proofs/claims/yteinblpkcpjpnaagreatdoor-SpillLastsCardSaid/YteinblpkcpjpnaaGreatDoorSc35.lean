/- Part of a chain: SpHld, SpFol, SpDel, SpPru. -/
import Derived.Test.YteinblpkcpjpnaaGreatDoorSc34
import Derived.Laws.StructEq
import Derived.WalkSpells
import Derived.WalkLawsBesides
import Derived.Test.YteinblpkcpjpnaaGreatDoorSc31
import Derived.Test.YteinblpkcpjpnaaGreatDoorSc03
/- Package spill: holds. Written by gen_holds.py. -/
namespace Go.Proofs.YteinblpkcpjpnaaGreatDoor
open Go Go.RowKit Go.Maps Go.Sort
set_option linter.unusedVariables false
set_option linter.unusedSimpArgs false
set_option maxRecDepth 100000

def sqB (a b : Rc) : Bool := a.id == b.id && (a.host.toList == b.host.toList && (a.path.toList == b.path.toList && (a.prio == b.prio && a.till == b.till)))
theorem sq_neq (a b : Rc) (w : World) : (Op.equalIn 10000 31 (.agg #[.int .i64 a.id, .string a.host, .string a.path, .int .i64 a.prio, .int .i64 a.till]) (.agg #[.int .i64 b.id, .string b.host, .string b.path, .int .i64 b.prio, .int .i64 b.till])).run Tryz.prog w = .ok (sqB a b) w := by
  have ht : Tryz.prog.underlying 31 = some (.struct (Tryz.prog.fieldsOf 31)) := by kernel_rfl
  have hp : Tryz.prog.stoodInHeld 31 = false := by kernel_rfl
  have _hm : Tryz.prog.eqGuardType Tryz.prog.depth 31 = false := by kernel_rfl
  rw [run_equalIn_agg w 9999 _ _ _ ht hp]
  simp only [Program.fieldsOf, Tryz.underlying31]
  simp [go_sem, Tryz.underlying9, Tryz.underlying3]
  unfold sqB
  repeat' split
  all_goals simp_all
theorem sqB_yes {a b : Rc} (h : sqB a b = true) : a.id = b.id ∧ a.host.toList = b.host.toList ∧ a.path.toList = b.path.toList ∧ a.prio = b.prio ∧ a.till = b.till := by
  unfold sqB at h
  simpa using h
theorem sqB_no {a b : Rc} (h : sqB a b = false) : ¬ a.id = b.id ∨ (a.id = b.id ∧ (¬ a.host.toList = b.host.toList ∨ (a.host.toList = b.host.toList ∧ (¬ a.path.toList = b.path.toList ∨ (a.path.toList = b.path.toList ∧ (¬ a.prio = b.prio ∨ (a.prio = b.prio ∧ ¬ a.till = b.till))))))) := by
  unfold sqB at h
  by_cases h0 : a.id = b.id
  · by_cases h1 : a.host.toList = b.host.toList
    · by_cases h2 : a.path.toList = b.path.toList
      · by_cases h3 : a.prio = b.prio
        · refine Or.inr ⟨h0, Or.inr ⟨h1, Or.inr ⟨h2, Or.inr ⟨h3, fun h4 => ?_⟩⟩⟩⟩
          rw [h0, h1, h2, h3, h4] at h
          simp at h
        · exact Or.inr ⟨h0, Or.inr ⟨h1, Or.inr ⟨h2, Or.inl h3⟩⟩⟩
      · exact Or.inr ⟨h0, Or.inr ⟨h1, Or.inl h2⟩⟩
    · exact Or.inr ⟨h0, Or.inl h1⟩
  · exact Or.inl h0
theorem ba_eq {a b : ByteArray} : (a.toList == b.toList) = decide (a = b) := by
  by_cases h : a = b
  · subst h; simp
  · rw [decide_eq_false h]
    rw [beq_eq_false_iff_ne]
    intro e
    apply h
    rw [Lib.toList_data, Lib.toList_data] at e
    exact ByteArray.ext (Array.toList_inj.1 e)
theorem int_eq {a b : Int} : (a == b) = decide (a = b) := by
  by_cases h : a = b
  · subst h; simp
  · rw [decide_eq_false h, beq_eq_false_iff_ne]; exact h
theorem sqB_same (a b : Option Rc) : sqB (a.getD rc0) (b.getD rc0) = sameQ a b := by
  unfold sqB sameQ
  rw [ba_eq, ba_eq, int_eq, int_eq, int_eq]
theorem all_no {α : Type} {l : List α} {p : α → Bool} {k : Nat} {x : α} (h : l[k]? = some x) (hp : p x = false) : l.all p = false := by
  rw [List.all_eq_false]
  exact ⟨x, List.mem_of_getElem? h, by rw [hp]; decide⟩
theorem all_yes {α : Type} {l : List α} {p : α → Bool} {k : Nat} {x : α} (h : l[k]? = some x) (h1 : (l.take k).all p = true) (hp : p x = true) : (l.take (k + 1)).all p = true := by
  rw [List.take_add_one, h, List.all_append, h1]
  simp [hp]
theorem all_all {α : Type} {l : List α} {p : α → Bool} {k : Nat} (hk : l.length ≤ k) (h1 : (l.take k).all p = true) : l.all p = true := by
  rw [List.take_of_length_le hk] at h1
  exact h1
def hP1 (g : Lg) (rest : Ix) (id : Int) : Bool := (gA rest.puts id).isSome && sameQ (rdL g.D.S (atI rest id)) (loadL g id)
def hP2 (all : Ix) (id : Int) : Bool := (gA all.puts id).isSome
def hP3 (rest all : Ix) (h : ByteArray) : Bool := decide ((waitI rest h).till = (waitI all h).till)
/-- An index as a value. -/
structure IvM (w : World) (pm : Nat) (wm : Option Nat) (x : Ix) : Prop where
  puts : PtM w pm x.puts
  waits : WtM w wm x.waits
  ok : IxOk x
  few : Few x
theorem WtM.later2 {w w' : World} {wm : Option Nat} {S : List (ByteArray × Wt)} (h : WtM w wm S) (hb : Below w.heap.size w w') : WtM w' wm S := h.later (fun m hm => hb.block m (by
  rcases h with ⟨e, _⟩ | ⟨m2, e, hm2⟩
  · rw [e] at hm; cases hm
  · rw [e] at hm; cases hm; exact hm2.lt))
theorem IvM.later {w w' : World} {pm : Nat} {wm : Option Nat} {x : Ix} (h : IvM w pm wm x) (hb : Below w.heap.size w w') : IvM w' pm wm x := ⟨h.puts.later hb, h.waits.later2 hb, h.ok, h.few⟩
def ixC (pm : Nat) (wm : Option Nat) (t : Int) : Array Value := #[.map (some pm), .map wm, .int .i64 t]
structure HlS (w : World) (RD RL : Nat → Prop) (d L : Nat) (g : Lg) (b4 b5 : Nat) (cs4 cs5 : Array Value) (ka : Option Addr) (K kc : Nat) (ks : List Int) (wr : World) : Prop where
  lg : LgM wr RD RL d L g
  x4 : Box wr b4 cs4 66
  x5 : Box wr b5 cs5 66
  kown : Own wr w.heap.size 3 1 ka K kc (inL ks)
  bel : Below w.heap.size w wr
theorem HlS.later {w : World} {RD RL : Nat → Prop} {d L : Nat} {g : Lg} {b4 b5 : Nat} {cs4 cs5 : Array Value} {ka : Option Addr} {K kc : Nat} {ks : List Int} {wr w' : World} (h : HlS w RD RL d L g b4 b5 cs4 cs5 ka K kc ks wr) (hb : Below wr.heap.size wr w') : HlS w RD RL d L g b4 b5 cs4 cs5 ka K kc ks w' :=
  ⟨h.lg.later hb, h.x4.later hb, h.x5.later hb, h.kown.later hb, h.bel.trans (hb.mono h.bel.size)⟩
/-- A new block that is written. -/
theorem HlS.fresh {w : World} {RD RL : Nat → Prop} {d L : Nat} {g : Lg} {b4 b5 : Nat} {cs4 cs5 : Array Value} {ka : Option Addr} {K kc : Nat} {ks : List Int} {w0 wr : World} (h0 : HlS w RD RL d L g b4 b5 cs4 cs5 ka K kc ks w0) (hb : Below w0.heap.size w0 wr) {z : Nat} (hz : w0.heap.size ≤ z) (cs : Array Value) : HlS w RD RL d L g b4 b5 cs4 cs5 ka K kc ks (wr.setRow z cs) :=
  h0.later (below_row hb hz cs)
set_option maxHeartbeats 8000000 in
theorem holds_at {w : World} {RD RL : Nat → Prop} {d L : Nat} {g : Lg} (h : LgM w RD RL d L g) (hf : Few g.x) {pm4 pm5 : Nat} {wm4 wm5 : Option Nat} {rest all : Ix} (h4 : IvM w pm4 wm4 rest) (h5 : IvM w pm5 wm5 all) :
    Calls Tryz.prog 50 #[.pointer (some ⟨L, 0, none⟩), .agg (ixC pm4 wm4 rest.top), .agg (ixC pm5 wm5 all.top)] w fun e w' => e = .returned (.bool (holdsL g rest all)) ∧ Below w.heap.size w w' := by
  obtain ⟨pm, wm, hi, hmi⟩ := h.lx.ix
  obtain ⟨K, hK⟩ : ∃ K, g.x.puts.length = K := ⟨_, rfl⟩
  obtain ⟨ks, hks⟩ : ∃ ks, srtI (g.x.puts.map Prod.fst) = ks := ⟨_, rfl⟩
  obtain ⟨K2, hK2⟩ : ∃ K, rest.puts.length = K := ⟨_, rfl⟩
  obtain ⟨ks2, hks2⟩ : ∃ ks, srtI (rest.puts.map Prod.fst) = ks := ⟨_, rfl⟩
  obtain ⟨K3, hK3⟩ : ∃ K, all.waits.length = K := ⟨_, rfl⟩
  obtain ⟨hs, hhs⟩ : ∃ hs, srtS (all.waits.map Prod.fst) = hs := ⟨_, rfl⟩
  obtain ⟨F, hF⟩ : ∃ F, holdsL g rest all = F := ⟨_, rfl⟩
  have hKn : K ≤ 900000 := hK ▸ hf.1
  have hK2n : K2 ≤ 900000 := hK2 ▸ h4.few.1
  have hK3n : K3 ≤ 900000 := hK3 ▸ h5.few.2
  have HKO := Lib.hid (hks ▸ h.keys_ok)
  have HKO2 : Hid (∀ id ∈ ks2, okI id) := Lib.hid (fun id hid => by
    rw [← hks2] at hid
    obtain ⟨p, hp, rfl⟩ := List.mem_map.1 (srtI_mem.1 hid)
    exact h4.puts.kk p hp)
  have HHO : Hid (∀ s ∈ hs, okS s) := Lib.hid (fun s hs2 => by
    rw [← hhs] at hs2
    obtain ⟨p, hp, rfl⟩ := List.mem_map.1 (srtS_mem.1 hs2)
    exact h5.waits.kk p hp)
  have HKL : Hid (ks.length = K) := Lib.hid (by rw [← hks, srtI_len, List.length_map, hK])
  have HKL2 : Hid (ks2.length = K2) := Lib.hid (by rw [← hks2, srtI_len, List.length_map, hK2])
  have HHL : Hid (hs.length = K3) := Lib.hid (by rw [← hhs, srtS_len, List.length_map, hK3])
  have HF : Hid (F = (ks.all (hP1 g rest) && (ks2.all (hP2 all) && (hs.all (hP3 rest all) && decide (rest.top = all.top))))) := Lib.hid (by rw [← hF, ← hks, ← hks2, ← hhs]; rfl)
  rw [hF]
  have G := Lib.hid h
  have HI := Lib.hid hi
  have V4 := Lib.hid h4
  have V5 := Lib.hid h5
  have KP := Lib.hid (fun (W : World) (hW : Below w.heap.size w W) => keysP_at (hi.later hW).puts K hK (by omega))
  have KP2 := Lib.hid (fun (W : World) (hW : Below w.heap.size w W) => keysP_at (h4.puts.later hW) K2 hK2 (by omega))
  have KW := Lib.hid (fun (W : World) (hW : Below w.heap.size w W) => keysW_at (h5.waits.later2 hW) K3 hK3 (by omega))
  rw [hks] at KP
  rw [hks2] at KP2
  rw [hhs] at KW
  have mixed : Tryz.prog.follows .mixedOrders = true := by kernel_rfl
  unfold ixC
  clear hks hK hks2 hK2 hhs hK3 hF hi hmi h hf h4 h5
  go_enter Tryz.func50, Tryz.ntmps50
  go_upto_region 1 with fail
  refine code_forget (fun W => Hid (Box W w.heap.size #[.map (some pm4), .map wm4, .int .i64 rest.top] 66) ∧ Hid (Box W (w.heap.size + 1) #[.map (some pm5), .map wm5, .int .i64 all.top] 66) ∧ Hid (Below w.heap.size w W)) ⟨Lib.hid ((Box.new w _ _).alloc _), Lib.hid (by have h9 := Box.new (w.alloc (.cells #[.map (some pm4), .map wm4, .int .i64 rest.top] 66)) #[.map (some pm5), .map wm5, .int .i64 all.top] 66; rw [World.size_alloc] at h9; exact h9), Lib.hid (((Below.refl w.heap.size w).alloc (Nat.le_refl _) _).alloc (by simp) _)⟩ ?_
  obtain ⟨b4, hb4⟩ : ∃ p, w.heap.size = p := ⟨_, rfl⟩
  have HB4 := Lib.hid hb4
  obtain ⟨b5, hb5⟩ : ∃ p, w.heap.size + 1 = p := ⟨_, rfl⟩
  rw [hb5, hb4]
  rintro w1 ⟨X4, X5, B1⟩
  rw [← HB4.out] at B1
  obtain ⟨cs4, hcs4⟩ : ∃ c, (#[.map (some pm4), .map wm4, .int .i64 rest.top] : Array Value) = c := ⟨_, rfl⟩
  obtain ⟨cs5, hcs5⟩ : ∃ c, (#[.map (some pm5), .map wm5, .int .i64 all.top] : Array Value) = c := ⟨_, rfl⟩
  have C4 : Hid (cs4[0]? = some (.map (some pm4)) ∧ cs4[1]? = some (.map wm4) ∧ cs4[2]? = some (.int .i64 rest.top)) := Lib.hid (by rw [← hcs4]; exact ⟨rfl, rfl, rfl⟩)
  have C5 : Hid (cs5[0]? = some (.map (some pm5)) ∧ cs5[1]? = some (.map wm5) ∧ cs5[2]? = some (.int .i64 all.top)) := Lib.hid (by rw [← hcs5]; exact ⟨rfl, rfl, rfl⟩)
  rw [hcs4] at X4
  rw [hcs5] at X5
  clear hb4 hb5 hcs4 hcs5
  have l2 : w1.cell? ⟨L, 2, none⟩ = some (.map (some pm)) := (HI.out.later B1.out).box.cell 2
  have KP1 := Lib.hid (KP.out w1 B1.out)
  clear KP
  go_wp2_with fail
  refine KP1.out.mono ?_
  rintro e w2 ⟨ka, kc, rfl, ho, hb⟩
  have ST : Hid (HlS w RD RL d L g b4 b5 cs4 cs5 ka K kc ks w2 ∧ (ks.take 0).all (hP1 g rest) = true) := Lib.hid ⟨⟨G.out.later (B1.out.trans (hb.mono B1.out.size)), X4.out.later hb, X5.out.later hb, ho.mono B1.out.size, B1.out.trans (hb.mono B1.out.size)⟩, rfl⟩
  clear KP1 ho hb l2 X4 X5
  go_wp2_with fail
  go_loopw [28] (fun vi wr => ∃ (k : Nat), vi = .int .i64 (k : Int) ∧ k ≤ K ∧ Hid (HlS w RD RL d L g b4 b5 cs4 cs5 ka K kc ks wr ∧ (ks.take k).all (hP1 g rest) = true)) (fun vi _ => K - (intV vi).toNat)
  case atStart => exact ⟨0, rfl, Nat.zero_le _, ST⟩
  case round =>
    clear ST
    obtain ⟨k, rfl, hk, HS⟩ := hrel
    by_cases hkK : k < K
    · have d1 : decide ((k : Int) < (K : Int)) = true := decide_eq_true (by omega)
      have d1n : decide (k < K) = true := decide_eq_true hkK
      obtain ⟨id, hid⟩ : ∃ id, ks[k]? = some id := ⟨_, List.getElem?_eq_getElem (by rw [HKL.out]; exact hkK)⟩
      have hok := HKO.out id (List.mem_of_getElem? hid)
      obtain ⟨g9, hg9, _, _⟩ := HS.out.1.kown.some_ (by omega)
      have HSK := Lib.hid HS.out
      subst hg9
      have ck := HSK.out.1.kown.cell (j := k) (u := .int .i64 id) (by unfold inL; rw [List.getElem?_map, hid]; rfl)
      have ik0 : (0 : Int) ≤ (k : Int) := by omega
      obtain ⟨q1, hq1⟩ : ∃ q, (gA rest.puts id).isSome = q := ⟨_, rfl⟩
      obtain ⟨P, hP⟩ : ∃ P, atI rest id = P := ⟨_, rfl⟩
      have hPk : PlOk P := hP ▸ atI_ok V4.out.ok id
      have lk : (Instr.lookup 63 (.map (some pm4)) (.int .i64 id) true).run Tryz.prog wr = .ok (.tuple #[plV P, .bool q1]) wr := by
        rw [(V4.out.puts.later HSK.out.1.bel).look_ok tyP id hok, getD_map, hq1, ← hP]
        rfl
      have x40 : wr.cell? ⟨b4, 0, none⟩ = some (.map (some pm4)) := (HSK.out.1.x4.cell 0).trans C4.out.1
      obtain ⟨o, ho⟩ : ∃ o, loadL g id = o := ⟨_, rfl⟩
      obtain ⟨y, hy⟩ : ∃ y, rdL g.D.S P = y := ⟨_, rfl⟩
      obtain ⟨nq, hnq⟩ : ∃ q, sameQ y o = q := ⟨_, rfl⟩
      have NOK : Hid (nq = false → F = false) := Lib.hid (fun e => by
        rw [HF.out, all_no hid (show hP1 g rest id = false by unfold hP1; rw [hP, hy, ho, hnq, e]; simp)]
        rfl)
      have NO1 : Hid (q1 = false → F = false) := Lib.hid (fun e => by
        rw [HF.out, all_no hid (show hP1 g rest id = false by unfold hP1; rw [hq1, e]; rfl)]
        rfl)
      have YOK : Hid (q1 = true → nq = true → (ks.take (k + 1)).all (hP1 g rest) = true) := Lib.hid (fun e1 e2 => all_yes hid HSK.out.2 (by unfold hP1; rw [hP, hy, ho, hq1, e1, hnq, e2]; rfl))
      have RDA := Lib.hid (fun (W : World) (hW : DkM W RD d g.D) => ksread_at hW P hPk)
      have LDA := Lib.hid (fun (W : World) (hW : LgM W RD RL d L g) => load_at hW id hok)
      rw [hy] at RDA
      rw [ho] at LDA
      have NEQ : Hid (sqB (y.getD rc0) (o.getD rc0) = nq) := Lib.hid (by rw [sqB_same, hnq])
      obtain ⟨X, hX⟩ : ∃ X, o.getD rc0 = X := ⟨_, rfl⟩
      obtain ⟨Y, hY⟩ : ∃ Y, y.getD rc0 = Y := ⟨_, rfl⟩
      rw [hX] at LDA NEQ
      rw [hY] at RDA NEQ
      obtain ⟨p1, p2, p3⟩ := P
      unfold plV plC at lk
      dsimp only at lk
      clear hid hok hq1 hP hPk ho hy hnq hX hY HS
      cases q1 with
      | false =>
        have FF : Hid (F = false) := Lib.hid (NO1.out rfl)
        have BZ := Lib.hid (HSK.out.1.bel.alloc HSK.out.1.bel.size (.cells #[.int .i64 p1, .int .i64 p2, .int .i64 p3] 76))
        clear NO1 YOK NOK HSK
        go_wp2_with fail
        go_ret
        exact ⟨by rw [FF.out]; rfl, BZ.out⟩
      | true =>
        have YOK2 : Hid (nq = true → (ks.take (k + 1)).all (hP1 g rest) = true) := Lib.hid (fun e => YOK.out rfl e)
        clear YOK NO1
        have YOK := YOK2
        clear YOK2
        go_upto_region 7 with fail
        refine code_forget (fun W => Hid (HlS w RD RL d L g b4 b5 cs4 cs5 (some ⟨g9, 0, none⟩) K kc ks W) ∧ Hid (Box W wr.heap.size #[.int .i64 p1, .int .i64 p2, .int .i64 p3] 76)) ⟨Lib.hid (HSK.out.1.later ((Below.refl _ _).alloc (Nat.le_refl _) _)), Lib.hid (Box.new _ _ _)⟩ ?_
        obtain ⟨pb, hpb⟩ : ∃ p, wr.heap.size = p := ⟨_, rfl⟩
        rw [hpb]
        clear HSK hpb ck lk x40
        rintro w3 ⟨HS3, BP3⟩
        have LD3 := Lib.hid (LDA.out w3 HS3.out.lg)
        clear LDA
        go_wp2_with fail
        refine LD3.out.mono ?_
        rintro e w3b ⟨rfl, hb⟩
        have HS3b := Lib.hid (HS3.out.later hb)
        have BP3b := Lib.hid (BP3.out.later hb)
        clear hb LD3 HS3 BP3
        unfold reqL
        go_upto_region 8 with fail
        refine code_forget (fun W => Hid (HlS w RD RL d L g b4 b5 cs4 cs5 (some ⟨g9, 0, none⟩) K kc ks W) ∧ Hid (Box W pb #[.int .i64 p1, .int .i64 p2, .int .i64 p3] 76) ∧ Hid (Box W w3b.heap.size (reqL X).toArray 31)) ⟨Lib.hid (HS3b.out.later ((Below.refl _ _).alloc (Nat.le_refl _) _)), Lib.hid (BP3b.out.alloc _), Lib.hid (Box.new _ _ _)⟩ ?_
        obtain ⟨qb, hqb⟩ : ∃ p, w3b.heap.size = p := ⟨_, rfl⟩
        rw [hqb]
        clear HS3b BP3b hqb
        rintro w4 ⟨HS4, BP4, BQ4⟩
        have DK4 : Hid (DkM w4.drew RD d g.D) := Lib.hid HS4.out.lg.dk.drew_
        have LC4 : Hid (w4.drew.cell? ⟨L, 0, none⟩ = some (.pointer (some ⟨d, 0, none⟩))) := Lib.hid HS4.out.lg.disk_cell
        refine wp_region_last 11 (fun w' => DkM w' RD d g.D ∧ w'.cell? ⟨L, 0, none⟩ = some (.pointer (some ⟨d, 0, none⟩)) ∧ Box w' pb #[.int .i64 p1, .int .i64 p2, .int .i64 p3] 76 ∧ Box w' qb (reqL X).toArray 31 ∧ HlS w RD RL d L g b4 b5 cs4 cs5 (some ⟨g9, 0, none⟩) K kc ks w') (by kernel_rfl) (⟨DK4.out, LC4.out, BP4.out.drew, BQ4.out.drew, HS4.out.later (Below.refl _ _).drew⟩) (fun hHeld hClosed => ?_)
        refine wpAnyL_take (i := 0) (v := ?_) rfl (by kernel_rfl) (by kernel_rfl) (by kernel_rfl) (by kernel_rfl) (fun _ _ _ h => h) (by kernel_rfl) hClosed (Or.inl ⟨by rfl, ?_⟩) hHeld (fun hClosed => ?_)
        rotate_left
        · intro wv hSw; go_simp; all_goals (with_reducible rfl)
        (try simp only [List.getElem_toArray, List.getElem_cons_zero, put_at, List.set])
        refine wpAnyL_take (i := 1) (v := ?_) rfl (by kernel_rfl) (by kernel_rfl) (by kernel_rfl) (by kernel_rfl) (fun _ _ _ h => h) (by kernel_rfl) hClosed (Or.inl ⟨by rfl, ?_⟩) hHeld (fun hClosed => ?_)
        rotate_left
        · intro wv hSw; go_simp; all_goals (with_reducible rfl)
        (try simp only [List.getElem_toArray, List.getElem_cons_succ, List.getElem_cons_zero, put_at, List.set])
        refine wpAnyL_take (i := 2) (v := ?_) rfl (by kernel_rfl) (by kernel_rfl) (by kernel_rfl) (by kernel_rfl) (fun _ _ _ h => h) (by kernel_rfl) hClosed (Or.inl ⟨by rfl, ?_⟩) hHeld (fun hClosed => ?_)
        rotate_left
        · intro wv hSw; go_simp; all_goals (with_reducible rfl)
        (try simp only [List.getElem_toArray, List.getElem_cons_succ, List.getElem_cons_zero, put_at, List.set])
        refine wpAnyL_take (i := 3) (v := ?_) rfl (by kernel_rfl) (by kernel_rfl) (by kernel_rfl) (by kernel_rfl) (fun _ _ _ h => h) (by kernel_rfl) hClosed (Or.inl ⟨by rfl, ?_⟩) hHeld (fun hClosed => ?_)
        rotate_left
        · intro wv hSw; have l09 := hSw.2.1; go_simp; all_goals (with_reducible rfl)
        (try simp only [List.getElem_toArray, List.getElem_cons_succ, List.getElem_cons_zero, put_at, List.set])
        refine wpAnyL_take (i := 4) (v := (plV ⟨p1, p2, p3⟩)) rfl (by kernel_rfl) (by kernel_rfl) (by kernel_rfl) (by kernel_rfl) (fun _ _ _ h => h) (by kernel_rfl) hClosed (Or.inl ⟨by rfl, ?_⟩) hHeld (fun hClosed => ?_)
        · intro wv hSw; exact exec_load_box (by rfl) (by rfl) hSw.2.2.1 Tryz.underlying76 rfl (by kernel_rfl)
        (try simp only [List.getElem_toArray, List.getElem_cons_succ, List.getElem_cons_zero, put_at, List.set])
        refine wpAnyL_two (i := 5) (j := 9) rfl rfl (by kernel_rfl) (by kernel_rfl) (by kernel_rfl) hClosed (fun KK hK => ?_) (fun KK hK => ?_)
        · go_simp
          refine (RDA.out _ hHeld.1).mono ?_
          rintro e wx ⟨rfl, hwx⟩
          go_wp2_with fail
          refine hK.out _ _ ?_ (fun hClosed hHeld => ?_)
          · exact ⟨hHeld.1.later hwx, (cell_blk (hwx.block _ hHeld.2.2.2.2.lg.log_lt) 0).trans hHeld.2.1, hHeld.2.2.1.later hwx, hHeld.2.2.2.1.later hwx, hHeld.2.2.2.2.later hwx⟩
          clear hK KK
          (first | simp only [List.getElem_toArray, List.getElem_cons_succ, List.getElem_cons_zero, put_at, List.set] | (try simp only [put_at, List.set]))
          refine wpAnyL_take (i := 6) (v := ?_) rfl (by kernel_rfl) (by kernel_rfl) (by kernel_rfl) (by kernel_rfl) (fun _ _ _ h => h) (by kernel_rfl) hClosed (Or.inl ⟨by rfl, ?_⟩) hHeld (fun hClosed => ?_)
          rotate_left
          · intro wv hSw; go_simp; all_goals (with_reducible rfl)
          (try simp only [List.getElem_toArray, List.getElem_cons_succ, List.getElem_cons_zero, put_at, List.set])
          refine wpAnyL_take (i := 7) (v := ?_) rfl (by kernel_rfl) (by kernel_rfl) (by kernel_rfl) (by kernel_rfl) (fun _ _ _ h => h) (by kernel_rfl) hClosed (Or.inl ⟨by rfl, ?_⟩) hHeld (fun hClosed => ?_)
          rotate_left
          · intro wv hSw; go_simp; all_goals (with_reducible rfl)
          (try simp only [List.getElem_toArray, List.getElem_cons_succ, List.getElem_cons_zero, put_at, List.set])
          refine wpAnyL_take (i := 8) (v := ?_) rfl (by kernel_rfl) (by kernel_rfl) (by kernel_rfl) (by kernel_rfl) (fun _ _ _ h => h) (by kernel_rfl) hClosed (Or.inl ⟨by rfl, ?_⟩) hHeld (fun hClosed => ?_)
          rotate_left
          · intro wv hSw; go_simp; all_goals (with_reducible rfl)
          (try simp only [List.getElem_toArray, List.getElem_cons_succ, List.getElem_cons_zero, put_at, List.set])
          refine wpAnyL_one (i := 9) rfl (by kernel_rfl) (by kernel_rfl) hClosed (fun KK hK => ?_)
          go_simp
          refine hK.out _ _ ?_ (fun hClosed hHeld => ?_)
          · exact ⟨hHeld.1.later ((Below.refl _ _).alloc (Nat.le_refl _) _), (cell_blk (((Below.refl _ _).alloc (Nat.le_refl _) _).block _ hHeld.2.2.2.2.lg.log_lt) 0).trans hHeld.2.1, hHeld.2.2.1.alloc _, hHeld.2.2.2.1.alloc _, hHeld.2.2.2.2.later ((Below.refl _ _).alloc (Nat.le_refl _) _)⟩
          clear hK KK
          (first | simp only [List.getElem_toArray, List.getElem_cons_succ, List.getElem_cons_zero, put_at, List.set] | (try simp only [put_at, List.set]))
          refine wpAnyL_one (i := 10) rfl (by kernel_rfl) (by kernel_rfl) hClosed (fun KK hK => ?_)
          have hbz : Box (wx.alloc (.cells #[.int .i64 0, .string ⟨#[]⟩, .string ⟨#[]⟩, .int .i64 0, .int .i64 0] 31)) wx.heap.size #[.int .i64 0, .string ⟨#[]⟩, .string ⟨#[]⟩, .int .i64 0, .int .i64 0] 31 := Box.new _ _ _
          have hb9 : Below w4.drew.heap.size w4.drew ((wx.alloc (.cells #[.int .i64 0, .string ⟨#[]⟩, .string ⟨#[]⟩, .int .i64 0, .int .i64 0] 31)).setRow wx.heap.size (reqL Y).toArray) := below_row (hwx.alloc hwx.size _) hwx.size _
          refine step_store_row rfl rfl rfl rfl hbz rfl (by kernel_rfl) (by simp [reqL, Value.oneCell']) ?_
          refine hK.out _ _ ?_ (fun hClosed hHeld => ?_)
          · exact ⟨DK4.out.later hb9, (cell_blk (hb9.block _ HS4.out.lg.log_lt) 0).trans LC4.out, BP4.out.drew.later hb9, BQ4.out.drew.later hb9, (HS4.out.later (Below.refl _ _).drew).later hb9⟩
          clear hK KK
          (first | simp only [List.getElem_toArray, List.getElem_cons_succ, List.getElem_cons_zero, put_at, List.set] | (try simp only [put_at, List.set]))
          have hz9 := hbz.setRow (reqL Y).toArray
          obtain ⟨zb, hzb⟩ : ∃ z, wx.heap.size = z := ⟨_, rfl⟩
          rw [hzb] at hz9 hHeld ⊢
          refine last_forget (fun W => Hid (HlS w RD RL d L g b4 b5 cs4 cs5 (some ⟨g9, 0, none⟩) K kc ks W) ∧ Hid (Box W qb (reqL X).toArray 31) ∧ Hid (Box W zb (reqL Y).toArray 31)) ⟨Lib.hid hHeld.2.2.2.2, Lib.hid hHeld.2.2.2.1, Lib.hid hz9⟩ ?_
          clear hHeld hz9 hbz hb9 hzb
          rintro w9 ⟨HS9, BQ9, BZ9⟩
          refine wpAnyL_last rfl (by kernel_rfl) (by kernel_rfl) (fun KK hK => ?_)
          go_simp
          refine hK.out _ _ ?_
          (try simp only [put_at, List.set])
          have q0 : w9.cell? ⟨qb, 0, none⟩ = some (.int .i64 X.id) := BQ9.out.cell 0
          have q1 : w9.cell? ⟨qb, 1, none⟩ = some (.string X.host) := BQ9.out.cell 1
          have q2 : w9.cell? ⟨qb, 2, none⟩ = some (.string X.path) := BQ9.out.cell 2
          have q3 : w9.cell? ⟨qb, 3, none⟩ = some (.int .i64 X.prio) := BQ9.out.cell 3
          have q4 : w9.cell? ⟨qb, 4, none⟩ = some (.int .i64 X.till) := BQ9.out.cell 4
          have z0 : w9.cell? ⟨zb, 0, none⟩ = some (.int .i64 Y.id) := BZ9.out.cell 0
          have z1 : w9.cell? ⟨zb, 1, none⟩ = some (.string Y.host) := BZ9.out.cell 1
          have z2 : w9.cell? ⟨zb, 2, none⟩ = some (.string Y.path) := BZ9.out.cell 2
          have z3 : w9.cell? ⟨zb, 3, none⟩ = some (.int .i64 Y.prio) := BZ9.out.cell 3
          have z4 : w9.cell? ⟨zb, 4, none⟩ = some (.int .i64 Y.till) := BZ9.out.cell 4
          clear BQ9 BZ9 hClosed
          cases nq with
          | false =>
            have FF : Hid (F = false) := Lib.hid (NOK.out rfl)
            rcases sqB_no NEQ.out with h0 | ⟨h0, h1 | ⟨h1, h2 | ⟨h2, h3 | ⟨h3, h4⟩⟩⟩⟩
            all_goals
              go_wp2_with fail
              go_ret
              exact ⟨by rw [FF.out]; rfl, HS9.out.bel⟩
          | true =>
            have NX : Hid (HlS w RD RL d L g b4 b5 cs4 cs5 (some ⟨g9, 0, none⟩) K kc ks w9 ∧ (ks.take (k + 1)).all (hP1 g rest) = true) := Lib.hid ⟨HS9.out, YOK.out rfl⟩
            obtain ⟨h0, h1, h2, h3, h4⟩ := sqB_yes NEQ.out
            clear NOK YOK HS9
            go_wp2_with fail
            go_roundw
            case rel => exact ⟨k + 1, by go_num, by omega, NX⟩
            case measure => simp [intV]; omega
        · go_simp
          refine hK.out _ _ ?_ (fun hClosed hHeld => ?_)
          · exact ⟨hHeld.1.later ((Below.refl _ _).alloc (Nat.le_refl _) _), (cell_blk (((Below.refl _ _).alloc (Nat.le_refl _) _).block _ hHeld.2.2.2.2.lg.log_lt) 0).trans hHeld.2.1, hHeld.2.2.1.alloc _, hHeld.2.2.2.1.alloc _, hHeld.2.2.2.2.later ((Below.refl _ _).alloc (Nat.le_refl _) _)⟩
          clear hK KK
          (first | simp only [List.getElem_toArray, List.getElem_cons_succ, List.getElem_cons_zero, put_at, List.set] | (try simp only [put_at, List.set]))
          refine wpAnyL_one (i := 5) rfl (by kernel_rfl) (by kernel_rfl) hClosed (fun KK hK => ?_)
          go_simp
          refine (RDA.out _ hHeld.1).mono ?_
          rintro e wx ⟨rfl, hwx⟩
          go_wp2_with fail
          refine hK.out _ _ ?_ (fun hClosed hHeld => ?_)
          · exact ⟨hHeld.1.later hwx, (cell_blk (hwx.block _ hHeld.2.2.2.2.lg.log_lt) 0).trans hHeld.2.1, hHeld.2.2.1.later hwx, hHeld.2.2.2.1.later hwx, hHeld.2.2.2.2.later hwx⟩
          clear hK KK
          (first | simp only [List.getElem_toArray, List.getElem_cons_succ, List.getElem_cons_zero, put_at, List.set] | (try simp only [put_at, List.set]))
          refine wpAnyL_take (i := 6) (v := ?_) rfl (by kernel_rfl) (by kernel_rfl) (by kernel_rfl) (by kernel_rfl) (fun _ _ _ h => h) (by kernel_rfl) hClosed (Or.inl ⟨by rfl, ?_⟩) hHeld (fun hClosed => ?_)
          rotate_left
          · intro wv hSw; go_simp; all_goals (with_reducible rfl)
          (try simp only [List.getElem_toArray, List.getElem_cons_succ, List.getElem_cons_zero, put_at, List.set])
          refine wpAnyL_take (i := 7) (v := ?_) rfl (by kernel_rfl) (by kernel_rfl) (by kernel_rfl) (by kernel_rfl) (fun _ _ _ h => h) (by kernel_rfl) hClosed (Or.inl ⟨by rfl, ?_⟩) hHeld (fun hClosed => ?_)
          rotate_left
          · intro wv hSw; go_simp; all_goals (with_reducible rfl)
          (try simp only [List.getElem_toArray, List.getElem_cons_succ, List.getElem_cons_zero, put_at, List.set])
          refine wpAnyL_take (i := 8) (v := ?_) rfl (by kernel_rfl) (by kernel_rfl) (by kernel_rfl) (by kernel_rfl) (fun _ _ _ h => h) (by kernel_rfl) hClosed (Or.inl ⟨by rfl, ?_⟩) hHeld (fun hClosed => ?_)
          rotate_left
          · intro wv hSw; go_simp; all_goals (with_reducible rfl)
          (try simp only [List.getElem_toArray, List.getElem_cons_succ, List.getElem_cons_zero, put_at, List.set])
          refine wpAnyL_one (i := 10) rfl (by kernel_rfl) (by kernel_rfl) hClosed (fun KK hK => ?_)
          have hbz : Box wx w4.heap.size #[.int .i64 0, .string ⟨#[]⟩, .string ⟨#[]⟩, .int .i64 0, .int .i64 0] 31 := (Box.new w4.drew _ _).later hwx
          have hb9 : Below w4.drew.heap.size w4.drew (wx.setRow w4.heap.size (reqL Y).toArray) := below_row (((Below.refl w4.drew.heap.size w4.drew).alloc (Nat.le_refl _) (.cells #[.int .i64 0, .string ⟨#[]⟩, .string ⟨#[]⟩, .int .i64 0, .int .i64 0] 31)).trans (hwx.mono (by simp))) (Nat.le_refl _) _
          refine step_store_row rfl rfl rfl rfl hbz rfl (by kernel_rfl) (by simp [reqL, Value.oneCell']) ?_
          refine hK.out _ _ ?_ (fun hClosed hHeld => ?_)
          · exact ⟨DK4.out.later hb9, (cell_blk (hb9.block _ HS4.out.lg.log_lt) 0).trans LC4.out, BP4.out.drew.later hb9, BQ4.out.drew.later hb9, (HS4.out.later (Below.refl _ _).drew).later hb9⟩
          clear hK KK
          (first | simp only [List.getElem_toArray, List.getElem_cons_succ, List.getElem_cons_zero, put_at, List.set] | (try simp only [put_at, List.set]))
          have hz9 := hbz.setRow (reqL Y).toArray
          obtain ⟨zb, hzb⟩ : ∃ z, w4.heap.size = z := ⟨_, rfl⟩
          rw [hzb] at hz9 hHeld ⊢
          refine last_forget (fun W => Hid (HlS w RD RL d L g b4 b5 cs4 cs5 (some ⟨g9, 0, none⟩) K kc ks W) ∧ Hid (Box W qb (reqL X).toArray 31) ∧ Hid (Box W zb (reqL Y).toArray 31)) ⟨Lib.hid hHeld.2.2.2.2, Lib.hid hHeld.2.2.2.1, Lib.hid hz9⟩ ?_
          clear hHeld hz9 hbz hb9 hzb
          rintro w9 ⟨HS9, BQ9, BZ9⟩
          refine wpAnyL_last rfl (by kernel_rfl) (by kernel_rfl) (fun KK hK => ?_)
          go_simp
          refine hK.out _ _ ?_
          (try simp only [put_at, List.set])
          have q0 : w9.cell? ⟨qb, 0, none⟩ = some (.int .i64 X.id) := BQ9.out.cell 0
          have q1 : w9.cell? ⟨qb, 1, none⟩ = some (.string X.host) := BQ9.out.cell 1
          have q2 : w9.cell? ⟨qb, 2, none⟩ = some (.string X.path) := BQ9.out.cell 2
          have q3 : w9.cell? ⟨qb, 3, none⟩ = some (.int .i64 X.prio) := BQ9.out.cell 3
          have q4 : w9.cell? ⟨qb, 4, none⟩ = some (.int .i64 X.till) := BQ9.out.cell 4
          have z0 : w9.cell? ⟨zb, 0, none⟩ = some (.int .i64 Y.id) := BZ9.out.cell 0
          have z1 : w9.cell? ⟨zb, 1, none⟩ = some (.string Y.host) := BZ9.out.cell 1
          have z2 : w9.cell? ⟨zb, 2, none⟩ = some (.string Y.path) := BZ9.out.cell 2
          have z3 : w9.cell? ⟨zb, 3, none⟩ = some (.int .i64 Y.prio) := BZ9.out.cell 3
          have z4 : w9.cell? ⟨zb, 4, none⟩ = some (.int .i64 Y.till) := BZ9.out.cell 4
          clear BQ9 BZ9 hClosed
          cases nq with
          | false =>
            have FF : Hid (F = false) := Lib.hid (NOK.out rfl)
            rcases sqB_no NEQ.out with h0 | ⟨h0, h1 | ⟨h1, h2 | ⟨h2, h3 | ⟨h3, h4⟩⟩⟩⟩
            all_goals
              go_wp2_with fail
              go_ret
              exact ⟨by rw [FF.out]; rfl, HS9.out.bel⟩
          | true =>
            have NX : Hid (HlS w RD RL d L g b4 b5 cs4 cs5 (some ⟨g9, 0, none⟩) K kc ks w9 ∧ (ks.take (k + 1)).all (hP1 g rest) = true) := Lib.hid ⟨HS9.out, YOK.out rfl⟩
            obtain ⟨h0, h1, h2, h3, h4⟩ := sqB_yes NEQ.out
            clear NOK YOK HS9
            go_wp2_with fail
            go_roundw
            case rel => exact ⟨k + 1, by go_num, by omega, NX⟩
            case measure => simp [intV]; omega
    · have d1 : decide ((k : Int) < (K : Int)) = false := decide_eq_false (by omega)
      have hkk : k = K := by omega
      subst hkk
      have HF2 : Hid (F = (ks2.all (hP2 all) && (hs.all (hP3 rest all) && decide (rest.top = all.top)))) := Lib.hid (by rw [HF.out, all_all (by rw [HKL.out]; exact Nat.le_refl _) HS.out.2, Bool.true_and])
      have x40 : wr.cell? ⟨b4, 0, none⟩ = some (.map (some pm4)) := (HS.out.1.x4.cell 0).trans C4.out.1
      have XS : Hid (Box wr b4 cs4 66 ∧ Box wr b5 cs5 66 ∧ Below w.heap.size w wr) := Lib.hid ⟨HS.out.1.x4, HS.out.1.x5, HS.out.1.bel⟩
      have KP1 := Lib.hid (KP2.out wr XS.out.2.2)
      clear HS HF KP2 HKL HKO
      go_wp2_with fail
      refine KP1.out.mono ?_
      rintro e w3 ⟨ka2, kc2, rfl, ho, hb⟩
      have ST : Hid ((Box w3 b4 cs4 66 ∧ Box w3 b5 cs5 66 ∧ Below w.heap.size w w3 ∧ Own w3 w.heap.size 3 1 ka2 K2 kc2 (inL ks2)) ∧ (ks2.take 0).all (hP2 all) = true) := Lib.hid ⟨⟨XS.out.1.later hb, XS.out.2.1.later hb, XS.out.2.2.trans (hb.mono XS.out.2.2.size), ho.mono XS.out.2.2.size⟩, rfl⟩
      clear KP1 ho hb x40 XS
      go_wp2_with fail
      go_loopw [64] (fun vi wr => ∃ (k : Nat), vi = .int .i64 (k : Int) ∧ k ≤ K2 ∧ Hid ((Box wr b4 cs4 66 ∧ Box wr b5 cs5 66 ∧ Below w.heap.size w wr ∧ Own wr w.heap.size 3 1 ka2 K2 kc2 (inL ks2)) ∧ (ks2.take k).all (hP2 all) = true)) (fun vi _ => K2 - (intV vi).toNat)
      case atStart => exact ⟨0, rfl, Nat.zero_le _, ST⟩
      case round =>
        clear ST
        obtain ⟨k, rfl, hk, HS⟩ := hrel
        by_cases hkK : k < K2
        · have d1 : decide ((k : Int) < (K2 : Int)) = true := decide_eq_true (by omega)
          have d1n : decide (k < K2) = true := decide_eq_true hkK
          obtain ⟨id, hid⟩ : ∃ id, ks2[k]? = some id := ⟨_, List.getElem?_eq_getElem (by rw [HKL2.out]; exact hkK)⟩
          have hok := HKO2.out id (List.mem_of_getElem? hid)
          obtain ⟨g9, hg9, _, _⟩ := HS.out.1.2.2.2.some_ (by omega)
          have HSK := Lib.hid HS.out
          subst hg9
          have ck := HSK.out.1.2.2.2.cell (j := k) (u := .int .i64 id) (by unfold inL; rw [List.getElem?_map, hid]; rfl)
          have ik0 : (0 : Int) ≤ (k : Int) := by omega
          obtain ⟨q1, hq1⟩ : ∃ q, (gA all.puts id).isSome = q := ⟨_, rfl⟩
          obtain ⟨P, hP⟩ : ∃ P, atI all id = P := ⟨_, rfl⟩
          have lk : (Instr.lookup 63 (.map (some pm5)) (.int .i64 id) true).run Tryz.prog wr = .ok (.tuple #[plV P, .bool q1]) wr := by
            rw [(V5.out.puts.later HSK.out.1.2.2.1).look_ok tyP id hok, getD_map, hq1, ← hP]
            rfl
          have x50 : wr.cell? ⟨b5, 0, none⟩ = some (.map (some pm5)) := (HSK.out.1.2.1.cell 0).trans C5.out.1
          have NO1 : Hid (q1 = false → F = false) := Lib.hid (fun e => by
            rw [HF2.out, all_no hid (show hP2 all id = false by unfold hP2; rw [hq1, e])]
            rfl)
          have YOK : Hid (q1 = true → (ks2.take (k + 1)).all (hP2 all) = true) := Lib.hid (fun e1 => all_yes hid HSK.out.2 (by unfold hP2; rw [hq1, e1]))
          obtain ⟨p1, p2, p3⟩ := P
          unfold plV plC at lk
          dsimp only at lk
          have hal := (Below.refl wr.heap.size wr).alloc (Nat.le_refl _) (.cells #[.int .i64 p1, .int .i64 p2, .int .i64 p3] 76)
          clear hid hok hq1 hP HS
          cases q1 with
          | false =>
            have FF : Hid (F = false) := Lib.hid (NO1.out rfl)
            have BZ := Lib.hid (HSK.out.1.2.2.1.trans (hal.mono HSK.out.1.2.2.1.size))
            clear NO1 YOK HSK hal
            go_wp2_with fail
            go_ret
            exact ⟨by rw [FF.out]; rfl, BZ.out⟩
          | true =>
            have NX : Hid ((Box (wr.alloc (.cells #[.int .i64 p1, .int .i64 p2, .int .i64 p3] 76)) b4 cs4 66 ∧ Box (wr.alloc (.cells #[.int .i64 p1, .int .i64 p2, .int .i64 p3] 76)) b5 cs5 66 ∧ Below w.heap.size w (wr.alloc (.cells #[.int .i64 p1, .int .i64 p2, .int .i64 p3] 76)) ∧ Own (wr.alloc (.cells #[.int .i64 p1, .int .i64 p2, .int .i64 p3] 76)) w.heap.size 3 1 (some ⟨g9, 0, none⟩) K2 kc2 (inL ks2)) ∧ (ks2.take (k + 1)).all (hP2 all) = true) := Lib.hid ⟨⟨HSK.out.1.1.later hal, HSK.out.1.2.1.later hal, HSK.out.1.2.2.1.trans (hal.mono HSK.out.1.2.2.1.size), HSK.out.1.2.2.2.later hal⟩, YOK.out rfl⟩
            clear NO1 YOK HSK hal
            go_wp2_with fail
            go_roundw
            case rel => exact ⟨k + 1, by go_num, by omega, NX⟩
            case measure => simp [intV]; omega
        · have d1 : decide ((k : Int) < (K2 : Int)) = false := decide_eq_false (by omega)
          have hkk : k = K2 := by omega
          subst hkk
          have HF3 : Hid (F = (hs.all (hP3 rest all) && decide (rest.top = all.top))) := Lib.hid (by rw [HF2.out, all_all (by rw [HKL2.out]; exact Nat.le_refl _) HS.out.2, Bool.true_and])
          have x51 : wr.cell? ⟨b5, 1, none⟩ = some (.map wm5) := (HS.out.1.2.1.cell 1).trans C5.out.2.1
          have XS : Hid (Box wr b4 cs4 66 ∧ Box wr b5 cs5 66 ∧ Below w.heap.size w wr) := Lib.hid ⟨HS.out.1.1, HS.out.1.2.1, HS.out.1.2.2.1⟩
          have KW1 := Lib.hid (KW.out wr XS.out.2.2)
          clear HS HF2 KW HKL2 HKO2
          go_wp2_with fail
          refine KW1.out.mono ?_
          rintro e w3 ⟨ka3, kc3, rfl, ho, hb⟩
          have ST : Hid ((Box w3 b4 cs4 66 ∧ Box w3 b5 cs5 66 ∧ Below w.heap.size w w3 ∧ Own w3 w.heap.size 9 1 ka3 K3 kc3 (hs.map Value.string)) ∧ (hs.take 0).all (hP3 rest all) = true) := Lib.hid ⟨⟨XS.out.1.later hb, XS.out.2.1.later hb, XS.out.2.2.trans (hb.mono XS.out.2.2.size), ho.mono XS.out.2.2.size⟩, rfl⟩
          clear KW1 ho hb x51 XS
          go_wp2_with fail
          go_loopw [82] (fun vi wr => ∃ (k : Nat), vi = .int .i64 (k : Int) ∧ k ≤ K3 ∧ Hid ((Box wr b4 cs4 66 ∧ Box wr b5 cs5 66 ∧ Below w.heap.size w wr ∧ Own wr w.heap.size 9 1 ka3 K3 kc3 (hs.map Value.string)) ∧ (hs.take k).all (hP3 rest all) = true)) (fun vi _ => K3 - (intV vi).toNat)
          case atStart => exact ⟨0, rfl, Nat.zero_le _, ST⟩
          case round =>
            clear ST
            obtain ⟨k, rfl, hk, HS⟩ := hrel
            by_cases hkK : k < K3
            · have d1 : decide ((k : Int) < (K3 : Int)) = true := decide_eq_true (by omega)
              have d1n : decide (k < K3) = true := decide_eq_true hkK
              obtain ⟨s, hid⟩ : ∃ id, hs[k]? = some id := ⟨_, List.getElem?_eq_getElem (by rw [HHL.out]; exact hkK)⟩
              have hok := HHO.out s (List.mem_of_getElem? hid)
              obtain ⟨g9, hg9, _, _⟩ := HS.out.1.2.2.2.some_ (by omega)
              have HSK := Lib.hid HS.out
              subst hg9
              have ck := HSK.out.1.2.2.2.cell (j := k) (u := .string s) (by rw [List.getElem?_map, hid]; rfl)
              have ik0 : (0 : Int) ≤ (k : Int) := by omega
              obtain ⟨v4, hv4⟩ : ∃ v, waitI rest s = v := ⟨_, rfl⟩
              obtain ⟨v5, hv5⟩ : ∃ v, waitI all s = v := ⟨_, rfl⟩
              have lk4 : (Instr.lookup 64 (.map wm4) (.string s) false).run Tryz.prog wr = .ok (wtV v4) wr := by rw [(V4.out.waits.later2 HSK.out.1.2.2.1).look s hok, ← hv4]; rfl
              have lk5 : (Instr.lookup 64 (.map wm5) (.string s) false).run Tryz.prog wr = .ok (wtV v5) wr := by rw [(V5.out.waits.later2 HSK.out.1.2.2.1).look s hok, ← hv5]; rfl
              have x41 : wr.cell? ⟨b4, 1, none⟩ = some (.map wm4) := (HSK.out.1.1.cell 1).trans C4.out.2.1
              have x51 : wr.cell? ⟨b5, 1, none⟩ = some (.map wm5) := (HSK.out.1.2.1.cell 1).trans C5.out.2.1
              obtain ⟨a0, a1, a2, a3⟩ := v4
              obtain ⟨c0, c1, c2, c3⟩ := v5
              unfold wtV at lk4 lk5
              dsimp only at lk4 lk5
              have fl4 : ∀ W : World, (Instr.field 84 (.agg #[.int .i64 a0, .int .i64 a1, .int .i64 a2, .int .i64 a3]) 0).run Tryz.prog W = .ok (.int .i64 a0) W := fun W => by kernel_rfl
              have fl5 : ∀ W : World, (Instr.field 84 (.agg #[.int .i64 c0, .int .i64 c1, .int .i64 c2, .int .i64 c3]) 0).run Tryz.prog W = .ok (.int .i64 c0) W := fun W => by kernel_rfl
              by_cases ht : a0 = c0
              · have NX : Hid ((Box wr b4 cs4 66 ∧ Box wr b5 cs5 66 ∧ Below w.heap.size w wr ∧ Own wr w.heap.size 9 1 (some ⟨g9, 0, none⟩) K3 kc3 (hs.map Value.string)) ∧ (hs.take (k + 1)).all (hP3 rest all) = true) := Lib.hid ⟨HSK.out.1, all_yes hid HSK.out.2 (by unfold hP3; rw [hv4, hv5]; exact decide_eq_true ht)⟩
                subst ht
                have de : (a0 != a0) = false := by simp
                clear hid hok hv4 hv5 HS HSK
                go_wp2_with fail
                go_roundw
                case rel => exact ⟨k + 1, by go_num, by omega, NX⟩
                case measure => simp [intV]; omega
              · have FF : Hid (F = false) := Lib.hid (by
                  rw [HF3.out, all_no hid (show hP3 rest all s = false by unfold hP3; rw [hv4, hv5]; exact decide_eq_false ht)]
                  rfl)
                have BZ := Lib.hid HSK.out.1.2.2.1
                have de : (a0 != c0) = true := by simpa using ht
                clear hid hok hv4 hv5 HS HSK
                go_wp2_with fail
                go_ret
                exact ⟨by rw [FF.out]; rfl, BZ.out⟩
            · have d1 : decide ((k : Int) < (K3 : Int)) = false := decide_eq_false (by omega)
              have hkk : k = K3 := by omega
              subst hkk
              have HF4 : Hid (F = decide (rest.top = all.top)) := Lib.hid (by rw [HF3.out, all_all (by rw [HHL.out]; exact Nat.le_refl _) HS.out.2, Bool.true_and])
              have x42 : wr.cell? ⟨b4, 2, none⟩ = some (.int .i64 rest.top) := (HS.out.1.1.cell 2).trans C4.out.2.2
              have x52 : wr.cell? ⟨b5, 2, none⟩ = some (.int .i64 all.top) := (HS.out.1.2.1.cell 2).trans C5.out.2.2
              have BZ := Lib.hid HS.out.1.2.2.1
              obtain ⟨t4, ht4⟩ : ∃ t, rest.top = t := ⟨_, rfl⟩
              obtain ⟨t5, ht5⟩ : ∃ t, all.top = t := ⟨_, rfl⟩
              have HF5 : Hid (F = (t4 == t5)) := Lib.hid (by rw [HF4.out, ht4, ht5, int_eq])
              rw [ht4] at x42
              rw [ht5] at x52
              clear HS HF3 HF4
              go_wp2_with fail
              go_ret
              exact ⟨by rw [HF5.out]; rfl, BZ.out⟩
end Go.Proofs.YteinblpkcpjpnaaGreatDoor
/- Package spill: follow. Written by gen_follow.py. -/
namespace Go.Proofs.YteinblpkcpjpnaaGreatDoor
open Go Go.RowKit Go.Maps Go.Sort
set_option linter.unusedVariables false
set_option linter.unusedSimpArgs false
set_option maxRecDepth 100000

def fpG (rest : Ix) (S : List (Int × Pl)) (l : List Int) : List (Int × Pl) := l.foldl (fun S id => pA S id (atI rest id)) S
def fwS (rest : Ix) (S : List (ByteArray × Wt)) (h : ByteArray) : List (ByteArray × Wt) := if (waitI rest h).till = ((gA S h).getD wt0).till then pA S h (waitI rest h) else S
def fwG (rest : Ix) (S : List (ByteArray × Wt)) (l : List ByteArray) : List (ByteArray × Wt) := l.foldl (fwS rest) S
theorem follow_eq (x rest : Ix) : followX x rest = { x with puts := fpG rest x.puts (srtI (x.puts.map Prod.fst)), waits := fwG rest x.waits (srtS (x.waits.map Prod.fst)) } := rfl
theorem fold_same {κ α : Type} [DecidableEq κ] (f : List (κ × α) → κ → List (κ × α)) (hf : ∀ S h, f S h = S ∨ ∃ v, f S h = pA S h v) :
    ∀ {l : List κ} {S : List (κ × α)}, (∀ k ∈ l, (gA S k).isSome = true) → (l.foldl f S).length = S.length ∧ ∀ k, (gA (l.foldl f S) k).isSome = (gA S k).isSome
  | [], S, _ => ⟨rfl, fun _ => rfl⟩
  | a :: t, S, h => by
    have h1 : (f S a).length = S.length ∧ ∀ k, (gA (f S a) k).isSome = (gA S k).isSome := by
      rcases hf S a with e | ⟨v, e⟩
      · rw [e]; exact ⟨rfl, fun _ => rfl⟩
      · rw [e]
        refine ⟨by rw [len_pA, if_pos (h a List.mem_cons_self)], fun k => ?_⟩
        rw [gA_put]
        split
        · rename_i e2
          rw [e2, h a List.mem_cons_self]; rfl
        · rfl
    have ih := fold_same f hf (l := t) (S := f S a) (fun k hk => by rw [h1.2]; exact h k (List.mem_cons_of_mem _ hk))
    rw [List.foldl_cons]
    exact ⟨ih.1.trans h1.1, fun k => (ih.2 k).trans (h1.2 k)⟩
theorem fpG_same {rest : Ix} {S : List (Int × Pl)} {l : List Int} (h : ∀ k ∈ l, (gA S k).isSome = true) : (fpG rest S l).length = S.length ∧ ∀ k, (gA (fpG rest S l) k).isSome = (gA S k).isSome := fold_same _ (fun S h => Or.inr ⟨_, rfl⟩) h
theorem fwG_same {rest : Ix} {S : List (ByteArray × Wt)} {l : List ByteArray} (h : ∀ k ∈ l, (gA S k).isSome = true) : (fwG rest S l).length = S.length ∧ ∀ k, (gA (fwG rest S l) k).isSome = (gA S k).isSome := fold_same _ (fun S h => by
  unfold fwS
  split
  · exact Or.inr ⟨_, rfl⟩
  · exact Or.inl rfl) h
theorem srtI_some {S : List (Int × Pl)} : ∀ k ∈ srtI (S.map Prod.fst), (gA S k).isSome = true := fun k hk => gA_keys.1 (srtI_mem.1 hk)
theorem srtS_some {S : List (ByteArray × Wt)} : ∀ k ∈ srtS (S.map Prod.fst), (gA S k).isSome = true := fun k hk => gA_keys.1 (srtS_mem.1 hk)
theorem follow_few {x rest : Ix} (h : Few x) : Few (followX x rest) := by
  rw [follow_eq]
  unfold Few
  dsimp only
  rw [(fpG_same srtI_some).1, (fwG_same srtS_some).1]
  exact h
/-- Where each key of some has been told anew. -/
theorem fpG_get {rest : Ix} : ∀ {l : List Int} {S : List (Int × Pl)} (k : Int), gA (fpG rest S l) k = if k ∈ l then some (atI rest k) else gA S k
  | [], S, k => by simp [fpG]
  | a :: t, S, k => by
    show gA (fpG rest (pA S a (atI rest a)) t) k = _
    rw [fpG_get, gA_put]
    by_cases h1 : k ∈ t
    · rw [if_pos h1, if_pos (List.mem_cons_of_mem _ h1)]
    · rw [if_neg h1]
      by_cases h2 : k = a
      · subst h2
        rw [if_pos rfl, if_pos List.mem_cons_self]
      · rw [if_neg h2, if_neg (by simp [h1, h2])]
theorem fwG_get {rest : Ix} : ∀ {l : List ByteArray} {S : List (ByteArray × Wt)} (k : ByteArray), gA (fwG rest S l) k = gA S k ∨ gA (fwG rest S l) k = some (waitI rest k)
  | [], S, k => Or.inl rfl
  | a :: t, S, k => by
    have e : fwG rest S (a :: t) = fwG rest (fwS rest S a) t := rfl
    rw [e]
    rcases fwG_get (rest := rest) (l := t) (S := fwS rest S a) k with h | h
    · rw [h]
      unfold fwS
      split
      · rw [gA_put]
        split
        · rename_i e; rw [e]; exact Or.inr rfl
        · exact Or.inl rfl
      · exact Or.inl rfl
    · exact Or.inr h
theorem waitI_ok {x : Ix} (h : IxOk x) (s : ByteArray) : PlOk (waitI x s).at_ ∧ 0 ≤ (waitI x s).till ∧ (waitI x s).till ≤ 9223372036854775807 := by
  unfold waitI
  cases hg : gA x.waits s with
  | none => exact ⟨plOk_zero, by decide, by decide⟩
  | some v => exact ⟨(h.waits s v hg).1, (h.waits s v hg).2.1, (h.waits s v hg).2.2.1⟩
theorem follow_ok {x rest : Ix} (h : IxOk x) (h4 : IxOk rest) : IxOk (followX x rest) := by
  rw [follow_eq]
  refine ⟨fun id p hp => ?_, fun s v hv => ?_, h.top0, h.top1⟩
  · have hs : (gA x.puts id).isSome = true := by
      rw [← (fpG_same (rest := rest) srtI_some).2 id]
      dsimp only at hp
      rw [hp]; rfl
    obtain ⟨q, hq⟩ := Option.isSome_iff_exists.1 hs
    dsimp only at hp
    rw [fpG_get] at hp
    split at hp
    · rw [← Option.some.inj hp]
      exact ⟨atI_ok h4 id, (h.puts id q hq).2⟩
    · rw [hq] at hp
      rw [← Option.some.inj hp]
      exact h.puts id q hq
  · dsimp only at hv
    have hs : (gA x.waits s).isSome = true := by
      rw [← (fwG_same (rest := rest) srtS_some).2 s, hv]; rfl
    obtain ⟨q, hq⟩ := Option.isSome_iff_exists.1 hs
    have k9 := h.waits s q hq
    rcases fwG_get (rest := rest) (l := srtS (x.waits.map Prod.fst)) (S := x.waits) s with e | e
    · rw [e, hq] at hv
      rw [← Option.some.inj hv]
      exact k9
    · rw [e] at hv
      rw [← Option.some.inj hv]
      obtain ⟨k1, k2, k3⟩ := waitI_ok h4 s
      exact ⟨k1, k2, k3, k9.2.2.2⟩
theorem IxM.turnedW {w w' : World} {B b o : Nat} {cs : Array Value} {t : TypeId} {pm m : Nat} {x : Ix} (h : IxM w B b o cs t pm (some m) x) (ht : w.mapTurned w' m) {S : List (ByteArray × Wt)} (hS : WtM1 w' m S) : IxM w' B b o cs t pm (some m) { x with waits := S } := by
  have hm : WtM1 w m x.waits := by
    rcases h.waits with ⟨e, _⟩ | ⟨m2, e, hm⟩
    · cases e
    · cases e; exact hm
  exact ⟨(turned_block ht h.box.lt (fun e => am_not_box hm h.box e.symm)).trans h.box, h.c0, h.c1, h.c2, h.puts.block (turned_block ht h.puts.lt (fun e => h.apart (by rw [e]))), Or.inr ⟨m, rfl, hS⟩, h.apart, h.bB, h.pB, h.wB⟩
structure FlS (w : World) (L d : Nat) (g : Lg) (pm : Nat) (wm : Option Nat) (rest : Ix) (pm4 : Nat) (wm4 : Option Nat) (b3 : Nat) (E : TypeId) (ka : Option Addr) (K kc : Nat) (xs : List Value) (x : Ix) (wr : World) : Prop where
  ix : IxM wr 0 L 2 (logC d g.n pm wm g.x.top) 70 pm wm x
  rp : PtM wr pm4 rest.puts
  rw_ : WtM wr wm4 rest.waits
  x3 : Box wr b3 (ixC pm4 wm4 rest.top) 66
  only : Only (MineI L pm wm) w wr
  kown : Own wr w.heap.size E 1 ka K kc xs
theorem FlS.later {w : World} {L d : Nat} {g : Lg} {pm : Nat} {wm : Option Nat} {rest : Ix} {pm4 : Nat} {wm4 : Option Nat} {b3 : Nat} {E : TypeId} {ka : Option Addr} {K kc : Nat} {xs : List Value} {x : Ix} {wr w' : World} (h : FlS w L d g pm wm rest pm4 wm4 b3 E ka K kc xs x wr) (hb : Below wr.heap.size wr w') : FlS w L d g pm wm rest pm4 wm4 b3 E ka K kc xs x w' :=
  ⟨h.ix.later hb, h.rp.later hb, h.rw_.later2 hb, h.x3.later hb, h.only.later hb, h.kown.later hb⟩
/-- A map of the log's is changed. -/
theorem FlS.turn {w : World} {L d : Nat} {g : Lg} {pm : Nat} {wm : Option Nat} {rest : Ix} {pm4 : Nat} {wm4 : Option Nat} {b3 : Nat} {E : TypeId} {ka : Option Addr} {K kc : Nat} {xs : List Value} {x x' : Ix} {wr w' : World} (h : FlS w L d g pm wm rest pm4 wm4 b3 E ka K kc xs x wr) (a1 : ¬ MineI L pm wm pm4) (a2 : ∀ m, wm4 = some m → ¬ MineI L pm wm m) (a3 : w.heap.size ≤ b3)
    (hl : ∀ k, MineI L pm wm k → k < w.heap.size) {m : Nat} (hm : MineI L pm wm m) (ht : wr.mapTurned w' m) (hx : IxM w' 0 L 2 (logC d g.n pm wm g.x.top) 70 pm wm x') : FlS w L d g pm wm rest pm4 wm4 b3 E ka K kc xs x' w' := by
  have hml := hl m hm
  refine ⟨hx, h.rp.block (turned_block ht h.rp.lt (fun e => a1 (e ▸ hm))), h.rw_.later (fun k hk => turned_block ht ?_ (fun e => a2 k hk (e ▸ hm))), (turned_block ht h.x3.lt (by omega)).trans h.x3, h.only.trans (Only.of_grown (R := fun k => k = m) ht.grown (fun k e => (Option.some.inj e).symm)) (fun k hk => Or.inl (hk ▸ hm)), h.kown.blocks (fun g9 hg => turned_block ht (by rw [hg] at h; exact h.kown.lt.2) (by rw [hg] at h; have := h.kown.lt.1; omega))⟩
  rcases h.rw_ with ⟨e, _⟩ | ⟨m2, e, hm2⟩
  · rw [e] at hk; cases hk
  · rw [e] at hk; cases hk; exact hm2.lt
/-- Own cells in place of other own ones. -/
theorem FlS.key {w : World} {L d : Nat} {g : Lg} {pm : Nat} {wm : Option Nat} {rest : Ix} {pm4 : Nat} {wm4 : Option Nat} {b3 : Nat} {E E2 : TypeId} {ka ka2 : Option Addr} {K kc K2 kc2 : Nat} {xs xs2 : List Value} {x : Ix} {wr : World} (h : FlS w L d g pm wm rest pm4 wm4 b3 E ka K kc xs x wr) (hk : Own wr w.heap.size E2 1 ka2 K2 kc2 xs2) : FlS w L d g pm wm rest pm4 wm4 b3 E2 ka2 K2 kc2 xs2 x wr := ⟨h.ix, h.rp, h.rw_, h.x3, h.only, hk⟩
set_option maxHeartbeats 8000000 in
theorem follow_at {w : World} {RD RL : Nat → Prop} {d L : Nat} {g : Lg} (h : LgM w RD RL d L g) (hf : Few g.x) {pm4 : Nat} {wm4 : Option Nat} {rest : Ix} (h4 : IvM w pm4 wm4 rest) (n1 : ¬ RL pm4) (n2 : ∀ m, wm4 = some m → ¬ RL m) :
    Calls Tryz.prog 51 #[.pointer (some ⟨L, 0, none⟩), .agg (ixC pm4 wm4 rest.top)] w fun e w' => e = .returned (.tuple #[]) ∧ AftL RD RL d L w ⟨g.D, g.n, followX g.x rest⟩ w' := by
  obtain ⟨pm, wm, hi, hmi⟩ := h.lx.ix
  have A1 : Hid (¬ MineI L pm wm pm4) := Lib.hid (fun e => n1 (hmi _ e))
  have A2 : Hid (∀ m, wm4 = some m → ¬ MineI L pm wm m) := Lib.hid (fun m hm e => n2 m hm (hmi _ e))
  have HL : Hid (∀ k, MineI L pm wm k → k < w.heap.size) := Lib.hid (fun k hk => (hi.lt hk).1)
  obtain ⟨K, hK⟩ : ∃ K, g.x.puts.length = K := ⟨_, rfl⟩
  obtain ⟨ks, hks⟩ : ∃ ks, srtI (g.x.puts.map Prod.fst) = ks := ⟨_, rfl⟩
  obtain ⟨K2, hK2⟩ : ∃ K, g.x.waits.length = K := ⟨_, rfl⟩
  obtain ⟨hs, hhs⟩ : ∃ hs, srtS (g.x.waits.map Prod.fst) = hs := ⟨_, rfl⟩
  have hKn : K ≤ 900000 := hK ▸ hf.1
  have hK2n : K2 ≤ 900000 := hK2 ▸ hf.2
  have HKO := Lib.hid (hks ▸ h.keys_ok)
  have HHO := Lib.hid (hhs ▸ h.hosts_ok)
  have HKS : Hid (∀ k ∈ ks, (gA g.x.puts k).isSome = true) := Lib.hid (hks ▸ srtI_some)
  have HHS : Hid (∀ k ∈ hs, (gA g.x.waits k).isSome = true) := Lib.hid (hhs ▸ srtS_some)
  have HKL : Hid (ks.length = K) := Lib.hid (by rw [← hks, srtI_len, List.length_map, hK])
  have HHL : Hid (hs.length = K2) := Lib.hid (by rw [← hhs, srtS_len, List.length_map, hK2])
  have LPn : Hid (g.x.puts.length ≤ 900000) := Lib.hid hf.1
  have LWn : Hid (g.x.waits.length ≤ 900000) := Lib.hid hf.2
  have FIN : Hid (∀ W, IxM W 0 L 2 (logC d g.n pm wm g.x.top) 70 pm wm { g.x with puts := fpG rest g.x.puts ks, waits := fwG rest g.x.waits hs } → Only (MineI L pm wm) w W → AftL RD RL d L w ⟨g.D, g.n, followX g.x rest⟩ W) := Lib.hid (fun W hW hO => by
    rw [← hks, ← hhs, ← follow_eq] at hW
    exact h.index (LxM.turned hi hmi ⟨wm, _, hW, fun _ _ _ => rfl, hO, Or.inl rfl⟩ (follow_ok h.lx.ok h4.ok)))
  obtain ⟨Y, hY⟩ : ∃ Y : Lg, (⟨g.D, g.n, followX g.x rest⟩ : Lg) = Y := ⟨_, rfl⟩
  rw [hY] at FIN ⊢
  have I0 := Lib.hid hi
  have V4 := Lib.hid h4
  have KP := Lib.hid (fun (W : World) (hW : Below w.heap.size w W) => keysP_at (hi.later hW).puts K hK (by omega))
  rw [hks] at KP
  have KW := Lib.hid (fun (W : World) (hW : WtM W wm g.x.waits) => keysW_at hW K2 hK2 (by omega))
  rw [hhs] at KW
  have mixed : Tryz.prog.follows .mixedOrders = true := by kernel_rfl
  clear hks hK hhs hK2 hi hmi h hf h4 hY n1 n2
  unfold ixC
  go_enter Tryz.func51, Tryz.ntmps51
  go_upto_region 1 with fail
  refine code_forget (fun W => Hid (Box W w.heap.size (ixC pm4 wm4 rest.top) 66) ∧ Hid (Below w.heap.size w W)) ⟨Lib.hid (Box.new w _ _), Lib.hid ((Below.refl w.heap.size w).alloc (Nat.le_refl _) _)⟩ ?_
  obtain ⟨b3, hb3⟩ : ∃ p, w.heap.size = p := ⟨_, rfl⟩
  have A3 : Hid (w.heap.size ≤ b3) := Lib.hid (Nat.le_of_eq hb3)
  have A4 := Lib.hid hb3
  rw [hb3]
  rintro w1 ⟨X3, B1⟩
  rw [← A4.out] at B1
  clear hb3 A4
  have l2 : w1.cell? ⟨L, 2, none⟩ = some (.map (some pm)) := (I0.out.later B1.out).box.cell 2
  have KP1 := Lib.hid (KP.out w1 B1.out)
  clear KP
  go_wp2_with fail
  refine KP1.out.mono ?_
  rintro e w2 ⟨ka, kc, rfl, ho, hb⟩
  have hbb := B1.out.trans (hb.mono B1.out.size)
  have ST : Hid (FlS w L d g pm wm rest pm4 wm4 b3 3 ka K kc (inL ks) ({ g.x with puts := fpG rest g.x.puts (ks.take 0) }) w2) := Lib.hid ⟨I0.out.later hbb, V4.out.puts.later hbb, V4.out.waits.later2 hbb, X3.out.later hb, Only.of_below _ hbb, ho.mono B1.out.size⟩
  clear KP1 ho hb hbb l2 X3 I0 B1
  go_wp2_with fail
  go_loopw [16] (fun vi wr => ∃ (k : Nat), vi = .int .i64 (k : Int) ∧ k ≤ K ∧ Hid (FlS w L d g pm wm rest pm4 wm4 b3 3 ka K kc (inL ks) ({ g.x with puts := fpG rest g.x.puts (ks.take k) }) wr)) (fun vi _ => K - (intV vi).toNat)
  case atStart => exact ⟨0, rfl, Nat.zero_le _, ST⟩
  case round =>
    clear ST
    obtain ⟨k, rfl, hk, HS⟩ := hrel
    by_cases hkK : k < K
    · have d1 : decide ((k : Int) < (K : Int)) = true := decide_eq_true (by omega)
      have d1n : decide (k < K) = true := decide_eq_true hkK
      obtain ⟨id, hid⟩ : ∃ id, ks[k]? = some id := ⟨_, List.getElem?_eq_getElem (by rw [HKL.out]; exact hkK)⟩
      have hok := HKO.out id (List.mem_of_getElem? hid)
      obtain ⟨g9, hg9, _, _⟩ := HS.out.kown.some_ (by omega)
      have HSK := Lib.hid HS.out
      subst hg9
      have ck := HSK.out.kown.cell (j := k) (u := .int .i64 id) (by unfold inL; rw [List.getElem?_map, hid]; rfl)
      have ik0 : (0 : Int) ≤ (k : Int) := by omega
      obtain ⟨V, hV⟩ : ∃ V, plV (atI rest id) = V := ⟨_, rfl⟩
      have LK : Hid (∀ W, FlS w L d g pm wm rest pm4 wm4 b3 3 (some ⟨g9, 0, none⟩) K kc (inL ks) ({ g.x with puts := fpG rest g.x.puts (ks.take k) }) W → (Instr.lookup 63 (.map (some pm4)) (.int .i64 id) false).run Tryz.prog W = .ok V W) := Lib.hid (fun W hW => by
        rw [hW.rp.look tyP id hok, getD_map, ← hV]
        rfl)
      have STO : Hid (∀ W, FlS w L d g pm wm rest pm4 wm4 b3 3 (some ⟨g9, 0, none⟩) K kc (inL ks) ({ g.x with puts := fpG rest g.x.puts (ks.take k) }) W → ∃ w5, (Instr.mapUpdate 63 (.map (some pm)) (.int .i64 id) V).run Tryz.prog W = .ok () w5 ∧ PtM w5 pm (fpG rest g.x.puts (ks.take (k + 1))) ∧ W.mapTurned w5 pm) := Lib.hid (fun W hW => by
        have hl : (fpG rest g.x.puts (ks.take k)).length ≤ 100000000 := by
          rw [(fpG_same (fun q hq => HKS.out q (List.mem_of_mem_take hq))).1]
          have := LPn.out
          omega
        have h9 := hW.ix.puts.store tyP id hok (atI rest id) hl
        rw [hV] at h9
        have e9 : pA (fpG rest g.x.puts (ks.take k)) id (atI rest id) = fpG rest g.x.puts (ks.take (k + 1)) := by
          rw [List.take_add_one, hid]
          unfold fpG
          rw [List.foldl_append]
          rfl
        dsimp only at h9
        rw [e9] at h9
        exact h9)
      have HSn : Hid (∀ W w5, FlS w L d g pm wm rest pm4 wm4 b3 3 (some ⟨g9, 0, none⟩) K kc (inL ks) ({ g.x with puts := fpG rest g.x.puts (ks.take k) }) W → PtM w5 pm (fpG rest g.x.puts (ks.take (k + 1))) → W.mapTurned w5 pm → FlS w L d g pm wm rest pm4 wm4 b3 3 (some ⟨g9, 0, none⟩) K kc (inL ks) ({ g.x with puts := fpG rest g.x.puts (ks.take (k + 1)) }) w5) := Lib.hid (fun W w5 hW h1 h2 => hW.turn A1.out A2.out A3.out HL.out (Or.inr (Or.inl rfl)) h2 (hW.ix.turned h2 h1))
      clear hV
      go_upto_region 4 with fail
      refine wp_region_last 10 (fun w' => FlS w L d g pm wm rest pm4 wm4 b3 3 (some ⟨g9, 0, none⟩) K kc (inL ks) ({ g.x with puts := fpG rest g.x.puts (ks.take k) }) w') (by kernel_rfl) (HSK.out.later (Below.refl _ _).drew) (fun hHeld hClosed => ?_)
      refine wpAnyL_take (i := 0) (v := ?_) rfl (by kernel_rfl) (by kernel_rfl) (by kernel_rfl) (by kernel_rfl) (fun _ _ _ h => h) (by kernel_rfl) hClosed (Or.inl ⟨by rfl, ?_⟩) hHeld (fun hClosed => ?_)
      rotate_left
      · intro wv hSw; go_simp; all_goals (with_reducible rfl)
      (try simp only [List.getElem_toArray, List.getElem_cons_zero, put_at, List.set])
      refine wpAnyL_take (i := 1) (v := ?_) rfl (by kernel_rfl) (by kernel_rfl) (by kernel_rfl) (by kernel_rfl) (fun _ _ _ h => h) (by kernel_rfl) hClosed (Or.inl ⟨by rfl, ?_⟩) hHeld (fun hClosed => ?_)
      rotate_left
      · intro wv hSw; go_simp; all_goals (with_reducible rfl)
      (try simp only [List.getElem_toArray, List.getElem_cons_succ, List.getElem_cons_zero, put_at, List.set])
      refine wpAnyL_take (i := 2) (v := ?_) rfl (by kernel_rfl) (by kernel_rfl) (by kernel_rfl) (by kernel_rfl) (fun _ _ _ h => h) (by kernel_rfl) hClosed (Or.inl ⟨by rfl, ?_⟩) hHeld (fun hClosed => ?_)
      rotate_left
      · intro wv hSw; go_simp; all_goals (with_reducible rfl)
      (try simp only [List.getElem_toArray, List.getElem_cons_succ, List.getElem_cons_zero, put_at, List.set])
      refine wpAnyL_take (i := 3) (v := ?_) rfl (by kernel_rfl) (by kernel_rfl) (by kernel_rfl) (by kernel_rfl) (fun _ _ _ h => h) (by kernel_rfl) hClosed (Or.inl ⟨by rfl, ?_⟩) hHeld (fun hClosed => ?_)
      rotate_left
      · intro wv hSw; go_simp; all_goals (with_reducible rfl)
      (try simp only [List.getElem_toArray, List.getElem_cons_succ, List.getElem_cons_zero, put_at, List.set])
      refine wpAnyL_take (i := 4) (v := ?_) rfl (by kernel_rfl) (by kernel_rfl) (by kernel_rfl) (by kernel_rfl) (fun _ _ _ h => h) (by kernel_rfl) hClosed (Or.inl ⟨by rfl, ?_⟩) hHeld (fun hClosed => ?_)
      rotate_left
      · intro wv hSw; have l2 : wv.cell? ⟨L, 2, none⟩ = some (.map (some pm)) := hSw.ix.box.cell 2; have x30 : wv.cell? ⟨b3, 0, none⟩ = some (.map (some pm4)) := hSw.x3.cell 0; have lk9 := LK.out _ hSw; go_simp; all_goals (with_reducible rfl)
      (try simp only [List.getElem_toArray, List.getElem_cons_succ, List.getElem_cons_zero, put_at, List.set])
      refine wpAnyL_take (i := 5) (v := ?_) rfl (by kernel_rfl) (by kernel_rfl) (by kernel_rfl) (by kernel_rfl) (fun _ _ _ h => h) (by kernel_rfl) hClosed (Or.inl ⟨by rfl, ?_⟩) hHeld (fun hClosed => ?_)
      rotate_left
      · intro wv hSw; go_simp; all_goals (with_reducible rfl)
      (try simp only [List.getElem_toArray, List.getElem_cons_succ, List.getElem_cons_zero, put_at, List.set])
      refine wpAnyL_take (i := 6) (v := ?_) rfl (by kernel_rfl) (by kernel_rfl) (by kernel_rfl) (by kernel_rfl) (fun _ _ _ h => h) (by kernel_rfl) hClosed (Or.inl ⟨by rfl, ?_⟩) hHeld (fun hClosed => ?_)
      rotate_left
      · intro wv hSw; go_simp; all_goals (with_reducible rfl)
      (try simp only [List.getElem_toArray, List.getElem_cons_succ, List.getElem_cons_zero, put_at, List.set])
      refine wpAnyL_take (i := 7) (v := ?_) rfl (by kernel_rfl) (by kernel_rfl) (by kernel_rfl) (by kernel_rfl) (fun _ _ _ h => h) (by kernel_rfl) hClosed (Or.inl ⟨by rfl, ?_⟩) hHeld (fun hClosed => ?_)
      rotate_left
      · intro wv hSw; have l2 : wv.cell? ⟨L, 2, none⟩ = some (.map (some pm)) := hSw.ix.box.cell 2; have x30 : wv.cell? ⟨b3, 0, none⟩ = some (.map (some pm4)) := hSw.x3.cell 0; have lk9 := LK.out _ hSw; go_simp; all_goals (with_reducible rfl)
      (try simp only [List.getElem_toArray, List.getElem_cons_succ, List.getElem_cons_zero, put_at, List.set])
      refine wpAnyL_take (i := 8) (v := ?_) rfl (by kernel_rfl) (by kernel_rfl) (by kernel_rfl) (by kernel_rfl) (fun _ _ _ h => h) (by kernel_rfl) hClosed (Or.inl ⟨by rfl, ?_⟩) hHeld (fun hClosed => ?_)
      rotate_left
      · intro wv hSw; go_simp; all_goals (with_reducible rfl)
      (try simp only [List.getElem_toArray, List.getElem_cons_succ, List.getElem_cons_zero, put_at, List.set])
      refine wpAnyL_take (i := 9) (v := ?_) rfl (by kernel_rfl) (by kernel_rfl) (by kernel_rfl) (by kernel_rfl) (fun _ _ _ h => h) (by kernel_rfl) hClosed (Or.inl ⟨by rfl, ?_⟩) hHeld (fun hClosed => ?_)
      rotate_left
      · intro wv hSw; have l2 : wv.cell? ⟨L, 2, none⟩ = some (.map (some pm)) := hSw.ix.box.cell 2; have x30 : wv.cell? ⟨b3, 0, none⟩ = some (.map (some pm4)) := hSw.x3.cell 0; have lk9 := LK.out _ hSw; go_simp; all_goals (with_reducible rfl)
      (try simp only [List.getElem_toArray, List.getElem_cons_succ, List.getElem_cons_zero, put_at, List.set])
      refine wpAnyL_last rfl (by kernel_rfl) (by kernel_rfl) (fun KK hK => ?_)
      obtain ⟨w5, hrun5, hm5, ht5⟩ := STO.out _ hHeld
      go_simp
      refine hK.out _ _ ?_
      (try simp only [put_at, List.set])
      have NX := Lib.hid (HSn.out _ w5 hHeld hm5 ht5)
      clear hm5 ht5 hHeld HSn STO hrun5 HSK HS LK ck hid hok
      go_wp2_with fail
      go_roundw
      case rel => exact ⟨k + 1, by go_num, by omega, NX⟩
      case measure => simp [intV]; omega
    · have d1 : decide ((k : Int) < (K : Int)) = false := decide_eq_false (by omega)
      have hkk : k = K := by omega
      subst hkk
      have HS1 : Hid (FlS w L d g pm wm rest pm4 wm4 b3 3 ka k kc (inL ks) ({ g.x with puts := fpG rest g.x.puts ks }) wr) := Lib.hid (by
        have h9 := HS.out
        rw [List.take_of_length_le (by rw [HKL.out]; exact Nat.le_refl _)] at h9
        exact h9)
      have KW1 := Lib.hid (KW.out wr HS1.out.ix.waits)
      have l3 : wr.cell? ⟨L, 3, none⟩ = some (.map wm) := HS1.out.ix.box.cell 3
      clear HS KW
      go_wp2_with fail
      refine KW1.out.mono ?_
      rintro e w3 ⟨ka2, kc2, rfl, ho, hb⟩
      have ST : Hid (FlS w L d g pm wm rest pm4 wm4 b3 9 ka2 K2 kc2 (hs.map Value.string) ({ g.x with puts := fpG rest g.x.puts ks, waits := fwG rest g.x.waits (hs.take 0) }) w3) := Lib.hid ((HS1.out.later hb).key (ho.mono HS1.out.only.size))
      clear KW1 ho hb l3 HS1
      go_wp2_with fail
      go_loopw [38] (fun vi wr => ∃ (k : Nat), vi = .int .i64 (k : Int) ∧ k ≤ K2 ∧ Hid (FlS w L d g pm wm rest pm4 wm4 b3 9 ka2 K2 kc2 (hs.map Value.string) ({ g.x with puts := fpG rest g.x.puts ks, waits := fwG rest g.x.waits (hs.take k) }) wr)) (fun vi _ => K2 - (intV vi).toNat)
      case atStart => exact ⟨0, rfl, Nat.zero_le _, ST⟩
      case round =>
        clear ST
        obtain ⟨k, rfl, hk, HS⟩ := hrel
        by_cases hkK : k < K2
        · have d1 : decide ((k : Int) < (K2 : Int)) = true := decide_eq_true (by omega)
          have d1n : decide (k < K2) = true := decide_eq_true hkK
          obtain ⟨s, hid⟩ : ∃ id, hs[k]? = some id := ⟨_, List.getElem?_eq_getElem (by rw [HHL.out]; exact hkK)⟩
          have hok := HHO.out s (List.mem_of_getElem? hid)
          obtain ⟨g9, hg9, _, _⟩ := HS.out.kown.some_ (by omega)
          have HSK := Lib.hid HS.out
          subst hg9
          have ck := HSK.out.kown.cell (j := k) (u := .string s) (by rw [List.getElem?_map, hid]; rfl)
          have ik0 : (0 : Int) ≤ (k : Int) := by omega
          obtain ⟨v, hv⟩ : ∃ v, waitI rest s = v := ⟨_, rfl⟩
          obtain ⟨u, hu⟩ : ∃ u, (gA (fwG rest g.x.waits (hs.take k)) s).getD wt0 = u := ⟨_, rfl⟩
          have x31 : wr.cell? ⟨b3, 1, none⟩ = some (.map wm4) := HSK.out.x3.cell 1
          have lk : (Instr.lookup 64 (.map wm4) (.string s) false).run Tryz.prog wr = .ok (wtV v) wr := by rw [HSK.out.rw_.look s hok, ← hv]; rfl
          have LK2 : Hid (∀ W, FlS w L d g pm wm rest pm4 wm4 b3 9 (some ⟨g9, 0, none⟩) K2 kc2 (hs.map Value.string) ({ g.x with puts := fpG rest g.x.puts ks, waits := fwG rest g.x.waits (hs.take k) }) W → (Instr.lookup 64 (.map wm) (.string s) false).run Tryz.prog W = .ok (wtV u) W) := Lib.hid (fun W hW => by rw [hW.ix.waits.look s hok, ← hu])
          obtain ⟨a0, a1, a2, a3⟩ := v
          obtain ⟨c0, c1, c2, c3⟩ := u
          have NXT : Hid (fwG rest g.x.waits (hs.take (k + 1)) = if a0 = c0 then pA (fwG rest g.x.waits (hs.take k)) s ⟨a0, ⟨a1, a2, a3⟩⟩ else fwG rest g.x.waits (hs.take k)) := Lib.hid (by
            rw [List.take_add_one, hid]
            unfold fwG
            rw [List.foldl_append]
            show fwS rest (fwG rest g.x.waits (hs.take k)) s = _
            unfold fwS
            rw [hv, hu]
            rfl)
          have STO : Hid (∀ W, FlS w L d g pm wm rest pm4 wm4 b3 9 (some ⟨g9, 0, none⟩) K2 kc2 (hs.map Value.string) ({ g.x with puts := fpG rest g.x.puts ks, waits := fwG rest g.x.waits (hs.take k) }) W → ∃ m, wm = some m ∧ ∃ w5, (Instr.mapUpdate 64 (.map (some m)) (.string s) (wtV ⟨a0, ⟨a1, a2, a3⟩⟩)).run Tryz.prog W = .ok () w5 ∧ WtM1 w5 m (pA (fwG rest g.x.waits (hs.take k)) s ⟨a0, ⟨a1, a2, a3⟩⟩) ∧ W.mapTurned w5 m) := Lib.hid (fun W hW => by
            have hl : (fwG rest g.x.waits (hs.take k)).length = g.x.waits.length := (fwG_same (fun q hq => HHS.out q (List.mem_of_mem_take hq))).1
            rcases hW.ix.waits with ⟨_, e⟩ | ⟨m, e, hm⟩
            · exfalso
              dsimp only at e
              rw [e] at hl
              have h9 := HHS.out s (List.mem_of_getElem? hid)
              rw [List.length_nil] at hl
              rw [List.eq_nil_of_length_eq_zero hl.symm] at h9
              simp [gA] at h9
            · exact ⟨m, e, hm.store tyW s hok ⟨a0, ⟨a1, a2, a3⟩⟩ (by dsimp only; rw [hl]; have := LWn.out; omega)⟩)
          have HSn : Hid (a0 = c0 → ∀ W w5, FlS w L d g pm wm rest pm4 wm4 b3 9 (some ⟨g9, 0, none⟩) K2 kc2 (hs.map Value.string) ({ g.x with puts := fpG rest g.x.puts ks, waits := fwG rest g.x.waits (hs.take k) }) W → ∀ m, wm = some m → WtM1 w5 m (pA (fwG rest g.x.waits (hs.take k)) s ⟨a0, ⟨a1, a2, a3⟩⟩) → W.mapTurned w5 m → FlS w L d g pm wm rest pm4 wm4 b3 9 (some ⟨g9, 0, none⟩) K2 kc2 (hs.map Value.string) ({ g.x with puts := fpG rest g.x.puts ks, waits := fwG rest g.x.waits (hs.take (k + 1)) }) w5) := Lib.hid (fun ht W w5 hW m hm h1 h2 => by
            subst hm
            rw [NXT.out, if_pos ht]
            exact hW.turn A1.out A2.out A3.out HL.out (Or.inr (Or.inr rfl)) h2 (hW.ix.turnedW h2 h1))
          have HSs : Hid (¬ a0 = c0 → ∀ W, FlS w L d g pm wm rest pm4 wm4 b3 9 (some ⟨g9, 0, none⟩) K2 kc2 (hs.map Value.string) ({ g.x with puts := fpG rest g.x.puts ks, waits := fwG rest g.x.waits (hs.take k) }) W → FlS w L d g pm wm rest pm4 wm4 b3 9 (some ⟨g9, 0, none⟩) K2 kc2 (hs.map Value.string) ({ g.x with puts := fpG rest g.x.puts ks, waits := fwG rest g.x.waits (hs.take (k + 1)) }) W) := Lib.hid (fun ht W hW => by
            rw [NXT.out, if_neg ht]
            exact hW)
          clear hv hu NXT
          unfold wtV at lk LK2
          dsimp only at lk LK2
          have fl4 : ∀ W : World, (Instr.field 84 (.agg #[.int .i64 c0, .int .i64 c1, .int .i64 c2, .int .i64 c3]) 0).run Tryz.prog W = .ok (.int .i64 c0) W := fun W => by kernel_rfl
          go_upto_region 10 with fail
          refine code_forget (fun W => Hid (FlS w L d g pm wm rest pm4 wm4 b3 9 (some ⟨g9, 0, none⟩) K2 kc2 (hs.map Value.string) ({ g.x with puts := fpG rest g.x.puts ks, waits := fwG rest g.x.waits (hs.take k) }) W) ∧ Hid (Box W wr.heap.size #[.int .i64 a0, .int .i64 a1, .int .i64 a2, .int .i64 a3] 84)) ⟨Lib.hid (HSK.out.later ((Below.refl _ _).alloc (Nat.le_refl _) _)), Lib.hid (Box.new _ _ _)⟩ ?_
          obtain ⟨tb, htb⟩ : ∃ p, wr.heap.size = p := ⟨_, rfl⟩
          rw [htb]
          clear htb lk x31
          rintro w5 ⟨HS5, BT5⟩
          refine wp_region_last 10 (fun w' => FlS w L d g pm wm rest pm4 wm4 b3 9 (some ⟨g9, 0, none⟩) K2 kc2 (hs.map Value.string) ({ g.x with puts := fpG rest g.x.puts ks, waits := fwG rest g.x.waits (hs.take k) }) w' ∧ Box w' tb #[.int .i64 a0, .int .i64 a1, .int .i64 a2, .int .i64 a3] 84) (by kernel_rfl) (⟨HS5.out.later (Below.refl _ _).drew, BT5.out.drew⟩) (fun hHeld hClosed => ?_)
          refine wpAnyL_take (i := 0) (v := ?_) rfl (by kernel_rfl) (by kernel_rfl) (by kernel_rfl) (by kernel_rfl) (fun _ _ _ h => h) (by kernel_rfl) hClosed (Or.inl ⟨by rfl, ?_⟩) hHeld (fun hClosed => ?_)
          rotate_left
          · intro wv hSw; go_simp; all_goals (with_reducible rfl)
          (try simp only [List.getElem_toArray, List.getElem_cons_zero, put_at, List.set])
          refine wpAnyL_take (i := 1) (v := ?_) rfl (by kernel_rfl) (by kernel_rfl) (by kernel_rfl) (by kernel_rfl) (fun _ _ _ h => h) (by kernel_rfl) hClosed (Or.inl ⟨by rfl, ?_⟩) hHeld (fun hClosed => ?_)
          rotate_left
          · intro wv hSw; have l3 : wv.cell? ⟨L, 3, none⟩ = some (.map wm) := hSw.1.ix.box.cell 3; have t0 : wv.cell? ⟨tb, 0, none⟩ = some (.int .i64 a0) := hSw.2.cell 0; have lk9 := LK2.out _ hSw.1; go_simp; all_goals (with_reducible rfl)
          (try simp only [List.getElem_toArray, List.getElem_cons_succ, List.getElem_cons_zero, put_at, List.set])
          refine wpAnyL_take (i := 2) (v := ?_) rfl (by kernel_rfl) (by kernel_rfl) (by kernel_rfl) (by kernel_rfl) (fun _ _ _ h => h) (by kernel_rfl) hClosed (Or.inl ⟨by rfl, ?_⟩) hHeld (fun hClosed => ?_)
          rotate_left
          · intro wv hSw; go_simp; all_goals (with_reducible rfl)
          (try simp only [List.getElem_toArray, List.getElem_cons_succ, List.getElem_cons_zero, put_at, List.set])
          refine wpAnyL_take (i := 3) (v := ?_) rfl (by kernel_rfl) (by kernel_rfl) (by kernel_rfl) (by kernel_rfl) (fun _ _ _ h => h) (by kernel_rfl) hClosed (Or.inl ⟨by rfl, ?_⟩) hHeld (fun hClosed => ?_)
          rotate_left
          · intro wv hSw; go_simp; all_goals (with_reducible rfl)
          (try simp only [List.getElem_toArray, List.getElem_cons_succ, List.getElem_cons_zero, put_at, List.set])
          refine wpAnyL_take (i := 4) (v := ?_) rfl (by kernel_rfl) (by kernel_rfl) (by kernel_rfl) (by kernel_rfl) (fun _ _ _ h => h) (by kernel_rfl) hClosed (Or.inl ⟨by rfl, ?_⟩) hHeld (fun hClosed => ?_)
          rotate_left
          · intro wv hSw; go_simp; all_goals (with_reducible rfl)
          (try simp only [List.getElem_toArray, List.getElem_cons_succ, List.getElem_cons_zero, put_at, List.set])
          refine wpAnyL_take (i := 5) (v := ?_) rfl (by kernel_rfl) (by kernel_rfl) (by kernel_rfl) (by kernel_rfl) (fun _ _ _ h => h) (by kernel_rfl) hClosed (Or.inl ⟨by rfl, ?_⟩) hHeld (fun hClosed => ?_)
          rotate_left
          · intro wv hSw; go_simp; all_goals (with_reducible rfl)
          (try simp only [List.getElem_toArray, List.getElem_cons_succ, List.getElem_cons_zero, put_at, List.set])
          refine wpAnyL_take (i := 6) (v := ?_) rfl (by kernel_rfl) (by kernel_rfl) (by kernel_rfl) (by kernel_rfl) (fun _ _ _ h => h) (by kernel_rfl) hClosed (Or.inl ⟨by rfl, ?_⟩) hHeld (fun hClosed => ?_)
          rotate_left
          · intro wv hSw; have l3 : wv.cell? ⟨L, 3, none⟩ = some (.map wm) := hSw.1.ix.box.cell 3; have t0 : wv.cell? ⟨tb, 0, none⟩ = some (.int .i64 a0) := hSw.2.cell 0; have lk9 := LK2.out _ hSw.1; go_simp; all_goals (with_reducible rfl)
          (try simp only [List.getElem_toArray, List.getElem_cons_succ, List.getElem_cons_zero, put_at, List.set])
          refine wpAnyL_take (i := 7) (v := ?_) rfl (by kernel_rfl) (by kernel_rfl) (by kernel_rfl) (by kernel_rfl) (fun _ _ _ h => h) (by kernel_rfl) hClosed (Or.inl ⟨by rfl, ?_⟩) hHeld (fun hClosed => ?_)
          rotate_left
          · intro wv hSw; go_simp; all_goals (with_reducible rfl)
          (try simp only [List.getElem_toArray, List.getElem_cons_succ, List.getElem_cons_zero, put_at, List.set])
          refine wpAnyL_take (i := 8) (v := ?_) rfl (by kernel_rfl) (by kernel_rfl) (by kernel_rfl) (by kernel_rfl) (fun _ _ _ h => h) (by kernel_rfl) hClosed (Or.inl ⟨by rfl, ?_⟩) hHeld (fun hClosed => ?_)
          rotate_left
          · intro wv hSw; have l3 : wv.cell? ⟨L, 3, none⟩ = some (.map wm) := hSw.1.ix.box.cell 3; have t0 : wv.cell? ⟨tb, 0, none⟩ = some (.int .i64 a0) := hSw.2.cell 0; have lk9 := LK2.out _ hSw.1; go_simp; all_goals (with_reducible rfl)
          (try simp only [List.getElem_toArray, List.getElem_cons_succ, List.getElem_cons_zero, put_at, List.set])
          refine wpAnyL_take (i := 9) (v := ?_) rfl (by kernel_rfl) (by kernel_rfl) (by kernel_rfl) (by kernel_rfl) (fun _ _ _ h => h) (by kernel_rfl) hClosed (Or.inl ⟨by rfl, ?_⟩) hHeld (fun hClosed => ?_)
          rotate_left
          · intro wv hSw; go_simp; all_goals (with_reducible rfl)
          (try simp only [List.getElem_toArray, List.getElem_cons_succ, List.getElem_cons_zero, put_at, List.set])
          refine wpAnyL_last rfl (by kernel_rfl) (by kernel_rfl) (fun KK hK => ?_)
          go_simp
          refine hK.out _ _ ?_
          (try simp only [put_at, List.set])
          have HS6 := Lib.hid hHeld
          clear hHeld
          by_cases ht : a0 = c0
          · subst ht
            have de : (a0 == a0) = true := by simp
            clear HSK HS LK2 ck hid hok hClosed
            go_upto_region 11 with fail
            refine wp_region_last 7 (fun w' => FlS w L d g pm wm rest pm4 wm4 b3 9 (some ⟨g9, 0, none⟩) K2 kc2 (hs.map Value.string) ({ g.x with puts := fpG rest g.x.puts ks, waits := fwG rest g.x.waits (hs.take k) }) w' ∧ Box w' tb #[.int .i64 a0, .int .i64 a1, .int .i64 a2, .int .i64 a3] 84) (by kernel_rfl) (⟨HS6.out.1.later (Below.refl _ _).drew, HS6.out.2.drew⟩) (fun hHeld hClosed => ?_)
            refine wpAnyL_take (i := 0) (v := ?_) rfl (by kernel_rfl) (by kernel_rfl) (by kernel_rfl) (by kernel_rfl) (fun _ _ _ h => h) (by kernel_rfl) hClosed (Or.inl ⟨by rfl, ?_⟩) hHeld (fun hClosed => ?_)
            rotate_left
            · intro wv hSw; go_simp; all_goals (with_reducible rfl)
            (try simp only [List.getElem_toArray, List.getElem_cons_zero, put_at, List.set])
            refine wpAnyL_take (i := 1) (v := ?_) rfl (by kernel_rfl) (by kernel_rfl) (by kernel_rfl) (by kernel_rfl) (fun _ _ _ h => h) (by kernel_rfl) hClosed (Or.inl ⟨by rfl, ?_⟩) hHeld (fun hClosed => ?_)
            rotate_left
            · intro wv hSw; go_simp; all_goals (with_reducible rfl)
            (try simp only [List.getElem_toArray, List.getElem_cons_succ, List.getElem_cons_zero, put_at, List.set])
            refine wpAnyL_take (i := 2) (v := ?_) rfl (by kernel_rfl) (by kernel_rfl) (by kernel_rfl) (by kernel_rfl) (fun _ _ _ h => h) (by kernel_rfl) hClosed (Or.inl ⟨by rfl, ?_⟩) hHeld (fun hClosed => ?_)
            rotate_left
            · intro wv hSw; go_simp; all_goals (with_reducible rfl)
            (try simp only [List.getElem_toArray, List.getElem_cons_succ, List.getElem_cons_zero, put_at, List.set])
            refine wpAnyL_take (i := 3) (v := ?_) rfl (by kernel_rfl) (by kernel_rfl) (by kernel_rfl) (by kernel_rfl) (fun _ _ _ h => h) (by kernel_rfl) hClosed (Or.inl ⟨by rfl, ?_⟩) hHeld (fun hClosed => ?_)
            rotate_left
            · intro wv hSw; go_simp; all_goals (with_reducible rfl)
            (try simp only [List.getElem_toArray, List.getElem_cons_succ, List.getElem_cons_zero, put_at, List.set])
            refine wpAnyL_take (i := 4) (v := ?_) rfl (by kernel_rfl) (by kernel_rfl) (by kernel_rfl) (by kernel_rfl) (fun _ _ _ h => h) (by kernel_rfl) hClosed (Or.inl ⟨by rfl, ?_⟩) hHeld (fun hClosed => ?_)
            rotate_left
            · intro wv hSw; have l3 : wv.cell? ⟨L, 3, none⟩ = some (.map wm) := hSw.1.ix.box.cell 3; go_simp; all_goals (with_reducible rfl)
            (try simp only [List.getElem_toArray, List.getElem_cons_succ, List.getElem_cons_zero, put_at, List.set])
            refine wpAnyL_take (i := 5) (v := ?_) rfl (by kernel_rfl) (by kernel_rfl) (by kernel_rfl) (by kernel_rfl) (fun _ _ _ h => h) (by kernel_rfl) hClosed (Or.inl ⟨by rfl, ?_⟩) hHeld (fun hClosed => ?_)
            rotate_left
            · intro wv hSw; go_simp; all_goals (with_reducible rfl)
            (try simp only [List.getElem_toArray, List.getElem_cons_succ, List.getElem_cons_zero, put_at, List.set])
            refine wpAnyL_take (i := 6) (v := (wtV ⟨a0, ⟨a1, a2, a3⟩⟩)) rfl (by kernel_rfl) (by kernel_rfl) (by kernel_rfl) (by kernel_rfl) (fun _ _ _ h => h) (by kernel_rfl) hClosed (Or.inl ⟨by rfl, ?_⟩) hHeld (fun hClosed => ?_)
            · intro wv hSw; exact exec_load_box (by rfl) (by rfl) hSw.2 Tryz.underlying84 rfl (by kernel_rfl)
            (try simp only [List.getElem_toArray, List.getElem_cons_succ, List.getElem_cons_zero, put_at, List.set])
            refine wpAnyL_last rfl (by kernel_rfl) (by kernel_rfl) (fun KK hK => ?_)
            obtain ⟨m, hm, w5, hrun5, hm5, ht5⟩ := STO.out _ hHeld.1
            subst hm
            unfold wtV at hrun5 ⊢
            dsimp only at hrun5 ⊢
            go_simp
            refine hK.out _ _ ?_
            (try simp only [put_at, List.set])
            have NX := Lib.hid (HSn.out rfl _ w5 hHeld.1 m rfl hm5 ht5)
            clear hm5 ht5 hHeld HSn STO hrun5 HSs HS6
            go_wp2_with fail
            go_roundw
            case rel => exact ⟨k + 1, by go_num, by omega, NX⟩
            case measure => simp [intV]; omega
          · have de : (a0 == c0) = false := by simpa using ht
            have NX := Lib.hid (HSs.out ht _ HS6.out.1)
            clear HSK HS LK2 ck hid hok hClosed HSs HSn STO HS6
            go_wp2_with fail
            go_roundw
            case rel => exact ⟨k + 1, by go_num, by omega, NX⟩
            case measure => simp [intV]; omega
        · have d1 : decide ((k : Int) < (K2 : Int)) = false := decide_eq_false (by omega)
          have hkk : k = K2 := by omega
          subst hkk
          have FN := Lib.hid (FIN.out wr (by
            have h9 := HS.out.ix
            rw [List.take_of_length_le (by rw [HHL.out]; exact Nat.le_refl _)] at h9
            exact h9) HS.out.only)
          clear HS
          go_wp2_with fail
          go_end0
          exact ⟨rfl, FN.out⟩
end Go.Proofs.YteinblpkcpjpnaaGreatDoor
/- The library's DeleteFunc over ints, with the question of prune. -/
namespace Go.Proofs.YteinblpkcpjpnaaGreatDoor
open Go Go.RowKit Go.Maps
set_option linter.unusedVariables false
set_option linter.unusedSimpArgs false
set_option maxRecDepth 10000

def inB (id : Int) (q : Int) : Bool := decide (q = id)
def keepN (id : Int) (u : List Int) : List Int := u.filter fun q => !inB id q
theorem prune1_at (q : Int) (id : Int) (g : Nat) (w : World) (hbx : Box w g #[.int .i64 id] 3) :
    Calls Tryz.prog 49 #[.int .i64 q, .pointer (some ⟨g, 0, none⟩)] w fun e w' => e = .returned (.bool (inB id q)) ∧ Below w.heap.size w w' := by
  have k0 := hbx.cell 0
  have hv : (q == id) = inB id q := int_eq
  obtain ⟨b, hb⟩ : ∃ b, inB id q = b := ⟨_, rfl⟩
  rw [hb] at hv ⊢
  have BB := Lib.hid (Below.refl w.heap.size w)
  clear hb hbx
  go_enter Tryz.func49, Tryz.ntmps49
  go_wp2
  go_ret
  exact ⟨rfl, BB.out⟩
theorem egN : ∀ args w, (callFunc 49 args).run Tryz.prog w = .ok (.enter 49 args) w := enters_of Tryz.func49 (by kernel_rfl) rfl
def IdxN (u : List Int) (id : Int) (w : World) (e : Ending) (w' : World) : Prop := ∃ i : Int, e = .returned (.int .i64 i) ∧ Below w.heap.size w w' ∧
  ((i = -1 ∧ ∀ q ∈ u, inB id q = false) ∨ ∃ k : Nat, i = (k : Int) ∧ k < u.length ∧ (∀ j q, j < k → u[j]? = some q → inB id q = false) ∧ ∃ q, u[k]? = some q ∧ inB id q = true)
theorem inL_get {u : List Int} {k : Nat} {z : Int} (h : u[k]? = some z) : (inL u)[k]? = some (.int .i64 z) := by unfold inL; rw [List.getElem?_map, h]; rfl
set_option maxHeartbeats 2000000 in
theorem idxN_at (u : List Int) (n : Nat) (hn : u.length = n) {w : World} {B uc idb : Nat} {ua : Option Addr} (ho : Own w B 3 1 ua n uc (inL u)) (id : Int) (hbx : Box w idb #[.int .i64 id] 3) :
    Calls Tryz.prog 60 #[.slice ua n uc, .func (.func 49) #[] #[.pointer (some ⟨idb, 0, none⟩)]] w (IdxN u id w) := by
  have eg := egN
  have hn2 : n ≤ 9223372036854775807 := Nat.le_trans ho.cap_le ho.max
  have HO := Lib.hid ho
  have HB := Lib.hid hbx
  have HN := Lib.hid hn
  clear ho hbx hn
  go_enter Tryz.func60, Tryz.ntmps60
  go_wp2
  go_loopw [4, 8] (fun r j wr => ∃ k : Nat, k ≤ n ∧ r = .int .i64 0 ∧ j = .int .i64 (k : Int) ∧ Hid (Below w.heap.size w wr) ∧ Hid (∀ i z, i < k → u[i]? = some z → inB id z = false)) (fun _ j _ => n - (vJ j).toNat)
  case atStart => exact ⟨0, by omega, rfl, rfl, Lib.hid (Below.refl _ _), Lib.hid (fun i z hi => by omega)⟩
  case round =>
    obtain ⟨k, hk, rfl, rfl, BR, HP⟩ := hrel
    by_cases hlt : k < n
    · have hkd : decide ((k : Int) < (n : Int)) = true := decide_eq_true (by omega)
      have hkdn : decide (k < n) = true := decide_eq_true hlt
      obtain ⟨z, hz⟩ : ∃ z, u[k]? = some z := ⟨_, List.getElem?_eq_getElem (by rw [HN.out]; exact hlt)⟩
      obtain ⟨r, rfl, _⟩ := HO.out.some_ (by omega)
      have ol := HO.out.later BR.out
      have c0 := ol.cell (inL_get hz)
      have M := Lib.hid (prune1_at z id idb wr (HB.out.later BR.out))
      have hx0 : (0 : Int) ≤ (k : Int) := by omega
      have hx1 : (k : Int) < (n : Int) := by omega
      have HZ := Lib.hid hz
      obtain ⟨b, hb⟩ : ∃ b, inB id z = b := ⟨_, rfl⟩
      rw [hb] at M
      have HBB := Lib.hid hb
      clear ol hz hb
      go_wp2_with fail
      refine (M.out).mono ?_
      rintro e wx ⟨rfl, hwx⟩
      have B2 := Lib.hid (BR.out.trans (hwx.mono BR.out.size))
      clear hwx
      cases b with
      | true =>
        go_wp2
        go_ret
        exact ⟨(k : Int), rfl, B2.out, Or.inr ⟨k, rfl, by rw [HN.out]; exact hlt, HP.out, _, HZ.out, HBB.out⟩⟩
      | false =>
        go_wp2
        go_roundw
        case rel => exact ⟨k + 1, by omega, rfl, by go_num, B2, Lib.hid (fun i y hi hy => by
          by_cases h : i = k
          · subst h
            rw [HZ.out] at hy
            injection hy with hy
            rw [← hy, HBB.out]
          · exact HP.out i y (by omega) hy)⟩
        case measure =>
          simp only [vJ]
          omega
    · have hkd : decide ((k : Int) < (n : Int)) = false := decide_eq_false (by omega)
      go_wp2
      go_ret
      refine ⟨-1, rfl, BR.out, Or.inl ⟨rfl, fun q hq => ?_⟩⟩
      obtain ⟨i, hi, e⟩ := List.getElem_of_mem hq
      exact HP.out i q (by rw [HN.out] at hi; omega) (by rw [List.getElem?_eq_getElem hi, e])
theorem keepN_none {id : Int} {u : List Int} (h : ∀ q ∈ u, inB id q = false) : keepN id u = u := by
  unfold keepN
  rw [List.filter_eq_self]
  intro q hq
  rw [h q hq]
  rfl
theorem keepN_snoc (id : Int) {u : List Int} {j : Nat} {q : Int} (h : u[j]? = some q) : keepN id (u.take (j + 1)) = keepN id (u.take j) ++ if inB id q then [] else [q] := by
  unfold keepN
  rw [List.take_add_one, h, List.filter_append]
  cases hb : inB id q <;> simp [hb]
/-- The row while elements are moved up. -/
structure DeN (w wr : World) (B g n uc : Nat) (u : List Int) (id : Int) (i j : Nat) (xs : List Int) : Prop where
  own : Own wr B 3 1 (some ⟨g, 0, none⟩) n uc (inL xs)
  only : Only (fun k => k = g) w wr
  head : xs.take i = keepN id (u.take j)
  tail : xs.drop j = u.drop j
  len : (keepN id (u.take j)).length = i
theorem DeN.later {w wr w' : World} {B g n uc i j : Nat} {u xs : List Int} {id : Int} (h : DeN w wr B g n uc u id i j xs) (hb : Below wr.heap.size wr w') : DeN w w' B g n uc u id i j xs :=
  ⟨h.own.later hb, h.only.later hb, h.head, h.tail, h.len⟩
theorem DeN.skip {w wr : World} {B g n uc i j : Nat} {u xs : List Int} {id : Int} (h : DeN w wr B g n uc u id i j xs) {q : Int} (hq : u[j]? = some q) (hp : inB id q = true) : DeN w wr B g n uc u id i (j + 1) xs := by
  have hk := keepN_snoc id hq
  rw [hp, if_pos rfl, List.append_nil] at hk
  refine ⟨h.own, h.only, by rw [hk]; exact h.head, ?_, by rw [hk]; exact h.len⟩
  rw [← List.drop_drop, h.tail, List.drop_drop]
theorem DeN.move {w wr w' : World} {B g n uc i j : Nat} {u xs : List Int} {id : Int} (h : DeN w wr B g n uc u id i j xs) {q : Int} (hq : u[j]? = some q) (hp : inB id q = false) (hij : i < j) (hjn : j < n)
    (ho : Own w' B 3 1 (some ⟨g, 0, none⟩) n uc ((inL xs).set i (.int .i64 q))) (hg : wr.grownBy w' (some g)) :
    DeN w w' B g n uc u id (i + 1) (j + 1) (xs.set i q) := by
  have hk := keepN_snoc id hq
  rw [hp, if_neg (by decide)] at hk
  have hl : xs.length = n := by have := h.own.len; unfold inL at this; rw [List.length_map] at this; omega
  refine ⟨by unfold inL at ho ⊢; rw [List.map_set]; exact ho, h.only.trans (Only.of_grown (R := fun k => k = g) hg fun k hk => (Option.some.inj hk).symm) (fun x hx => Or.inl hx), ?_, ?_, by rw [hk, List.length_append, h.len]; rfl⟩
  · rw [hk, ← h.head, List.take_add_one, List.getElem?_set_self (by omega), List.take_set_of_le (Nat.le_refl _)]
    rfl
  · rw [List.drop_set_of_lt (by omega), ← List.drop_drop, h.tail, List.drop_drop]
theorem DeN.at {w wr : World} {B g n uc i j : Nat} {u xs : List Int} {id : Int} (h : DeN w wr B g n uc u id i j xs) {q : Int} (hq : u[j]? = some q) : wr.cell? ⟨g, j, none⟩ = some (.int .i64 q) := by
  have h0 : xs[j]? = some q := by
    have ht : (xs.drop j)[0]? = (u.drop j)[0]? := by rw [h.tail]
    rw [List.getElem?_drop, List.getElem?_drop, Nat.add_zero, hq] at ht
    exact ht
  exact h.own.cell (inL_get h0)
theorem clearN {wr : World} {B g n uc i : Nat} {xs : List Int} (h : Own wr B 3 1 (some ⟨g, 0, none⟩) n uc (inL xs)) (hi : i < n) (ty : TypeId) :
    ∃ w', (Builtin.clear_ #[49] ty #[.slice (some ⟨g, i, none⟩) (n - i) (uc - i)]).run Tryz.prog wr = .ok (.tuple #[]) w' ∧ Own w' B 3 1 (some ⟨g, 0, none⟩) i uc (inL (xs.take i)) ∧ wr.grownBy w' (some g) := by
  obtain ⟨cur, hg, hs, ht, hnc, hm, hB⟩ := h.block
  have hv : ∀ w, (zeroValue 3).run Tryz.prog w = .ok (.int .i64 0) w := fun w => by kernel_rfl
  obtain ⟨cs, hcs⟩ : ∃ cs, (Builtin.zeroCells (Value.int .i64 0).cells (n - i)).toList = cs := ⟨_, rfl⟩
  have hcl : cs.length = n - i := by rw [← hcs]; simp [Builtin.zeroCells, Value.cells]
  have hc1 : ∀ v ∈ cs, v.oneCell' = true := fun v hv' => by
    rw [← hcs] at hv'
    simp [Builtin.zeroCells, Value.cells] at hv'
    obtain ⟨x, hx, rfl⟩ := hv'
    have h2 : x % 1 = 0 := by omega
    simp only [h2]
    rfl
  have hfit : i + 0 + cs.length ≤ cur.size := by
    rw [hcl, hs]
    omega
  have hst := run_storeCells_at Tryz.prog g i 3 cs 0 cur wr hg hfit hc1
  obtain ⟨m, hm2⟩ : ∃ m, n - i = m + 1 := ⟨n - i - 1, by omega⟩
  refine ⟨wr.setRow g (cur.toList.take (i + 0) ++ cs ++ cur.toList.drop (i + 0 + cs.length)).toArray, ?_, ?_, ?_⟩
  · rw [hm2] at hcs ⊢
    simp [Builtin.clear_, run_underlying Tryz.underlying49, hv, hcs, hst]
  · refine Own.of_block (setRow_heap _ _ _ _ _ _ hg) ?_ ?_ (by omega) hm hB
    · simp [hs] at hfit ⊢
      omega
    · have hlt : (cur.toList.take (i + 0)).length = i := by
        rw [List.length_take, Array.length_toList]
        omega
      simp only [List.append_assoc]
      have e1 : inL (xs.take i) = (inL xs).take i := by unfold inL; rw [List.map_take]
      rw [List.take_append_of_le_length (by rw [hlt]; omega), e1, ← ht, List.take_take, List.take_take]
      congr 1
      omega
  · exact ⟨rfl, rfl, rfl, by simp, fun k _ hk => setRow_other wr g k _ (fun e => hk (by rw [e]))⟩
def DelN (B : Nat) (u : List Int) (id : Int) (uc : Nat) (ua : Option Addr) (w : World) (e : Ending) (w' : World) : Prop := ∃ m, e = .returned (.slice ua m uc) ∧ (keepN id u).length = m ∧ Own w' B 3 1 ua m uc (inL (keepN id u)) ∧ Only (fun k => ua = some ⟨k, 0, none⟩) w w'
set_option maxHeartbeats 4000000 in
theorem delN_at (u : List Int) (n : Nat) (hn : u.length = n) {w : World} {B uc idb : Nat} {ua : Option Addr} (ho : Own w B 3 1 ua n uc (inL u)) (id : Int) (hbx : Box w idb #[.int .i64 id] 3) (hni : ∀ g, ua = some ⟨g, 0, none⟩ → idb ≠ g) :
    Calls Tryz.prog 48 #[.slice ua n uc, .func (.func 49) #[] #[.pointer (some ⟨idb, 0, none⟩)]] w (DelN B u id uc ua w) := by
  have eg := egN
  have hn2 : n ≤ 9223372036854775807 := Nat.le_trans ho.cap_le ho.max
  have hnc := ho.cap_le
  have IX := Lib.hid (idxN_at u n hn ho id hbx)
  have HO := Lib.hid ho
  have HB := Lib.hid hbx
  have HN := Lib.hid hn
  have NI := Lib.hid hni
  clear ho hbx hn hni
  go_enter Tryz.func48, Tryz.ntmps48
  go_wp2_with fail
  refine IX.out.mono ?_
  rintro e w1 ⟨i0, rfl, b1, hc⟩
  have B1 := Lib.hid b1
  clear b1 IX
  rcases hc with ⟨rfl, hno⟩ | ⟨k, rfl, hkn, hpre, q, hq, hpq⟩
  · have FIN : Hid (DelN B u id uc ua w (.returned (.slice ua n uc)) w1) := Lib.hid ⟨n, rfl, by rw [keepN_none hno]; exact HN.out, by rw [keepN_none hno]; exact HO.out.later B1.out, Only.of_below _ B1.out⟩
    clear hno HO HB
    go_wp2
    go_ret
    exact FIN.out
  · rw [HN.out] at hkn
    obtain ⟨g, rfl, _⟩ := HO.out.some_ (by omega)
    have hk1 : ((k : Int) == -1) = false := by simp
    have D0 : Hid (DeN w w1 B g n uc u id k (k + 1) u) := Lib.hid (by
      have h1 : keepN id (u.take k) = u.take k := keepN_none fun q hq => by
        obtain ⟨j, hj⟩ := List.mem_iff_getElem?.1 hq
        rw [List.getElem?_take] at hj
        split at hj
        · rename_i hlt
          exact hpre j q hlt hj
        · cases hj
      have h2 := keepN_snoc id hq
      rw [hpq, if_pos rfl, List.append_nil, h1] at h2
      exact ⟨HO.out.later B1.out, Only.of_below _ B1.out, h2.symm, rfl, by rw [h2, List.length_take, HN.out]; omega⟩)
    have NB : Hid (idb ≠ g) := Lib.hid (NI.out g rfl)
    clear hpre hq hpq NI
    go_wp2_with fail
    go_loopw [5, 6] (fun vi vj wr => ∃ (i j : Nat) (xs : List Int), i < j ∧ j ≤ n ∧ vi = .int .i64 (i : Int) ∧ vj = .int .i64 (j : Int) ∧ Hid (DeN w wr B g n uc u id i j xs)) (fun _ vj _ => n - (vJ vj).toNat)
    case atStart => exact ⟨k, k + 1, _, by omega, by omega, rfl, by go_num, D0⟩
    case round =>
      obtain ⟨i, j, xs, hij, hjn, rfl, rfl, HS⟩ := hrel
      clear D0
      obtain ⟨wl, rfl⟩ : ∃ W, W = wr := ⟨_, rfl⟩
      by_cases hlt : j < n
      · have hkd : decide ((j : Int) < (n : Int)) = true := decide_eq_true (by omega)
        have hkdn : decide (j < n) = true := decide_eq_true hlt
        obtain ⟨q, hq⟩ : ∃ q, u[j]? = some q := ⟨_, List.getElem?_eq_getElem (by rw [HN.out]; exact hlt)⟩
        have m0 := HS.out.at hq
        have hj0 : (0 : Int) ≤ (j : Int) := by omega
        have hj1 : (j : Int) < (n : Int) := by omega
        have hi0 : (0 : Int) ≤ (i : Int) := by omega
        have hi1 : (i : Int) < (n : Int) := by omega
        have hi2 : decide (i < n) = true := decide_eq_true (by omega)
        have HQ := Lib.hid hq
        clear hq
        have BXI := Lib.hid (HB.out.only HS.out.only NB.out)
        obtain ⟨b, hb⟩ : ∃ b, inB id q = b := ⟨_, rfl⟩
        have HBB := Lib.hid hb
        have MQ : Hid (Calls Tryz.prog 49 #[.int .i64 q, .pointer (some ⟨idb, 0, none⟩)] wl fun e w' => e = .returned (.bool b) ∧ Below wl.heap.size wl w') := Lib.hid (by rw [← hb]; exact prune1_at q id idb wl BXI.out)
        have MV : Hid (b = false → ∀ W, Below wl.heap.size wl W → DeN w (W.setCell ⟨g, i, none⟩ (.int .i64 q)) B g n uc u id (i + 1) (j + 1) (xs.set i q)) := Lib.hid (fun hb' W hW => (HS.out.later hW).move HQ.out (by rw [HBB.out]; exact hb') hij hlt (((HS.out.later hW).own).set i _) ⟨rfl, rfl, rfl, by simp [World.setCell], fun k _ hk => Below.heap_setCell W _ _ k (fun e => hk (by rw [e]))⟩)
        have SK : Hid (b = true → ∀ W, Below wl.heap.size wl W → DeN w W B g n uc u id i (j + 1) xs) := Lib.hid (fun hb' W hW => (HS.out.later hW).skip HQ.out (by rw [HBB.out]; exact hb'))
        have FR : Hid (∀ W, Below wl.heap.size wl W → W.frozen? ⟨g, i, none⟩ = false ∧ ∃ v0, W.cell? ⟨g, i, none⟩ = some v0) := Lib.hid (fun W hW => by
          have h9 := (HS.out.later hW).own
          have hl : (inL xs).length = n := by have := h9.len; omega
          exact ⟨h9.free i, _, h9.cell (List.getElem?_eq_getElem (by rw [hl]; omega))⟩)
        clear hb HS
        go_wp2_with fail
        refine (MQ.out).mono ?_
        rintro e w5 ⟨rfl, b5⟩
        have B5 := Lib.hid b5
        clear b5 MQ m0
        cases b with
        | true =>
          have NX := Lib.hid (SK.out rfl w5 B5.out)
          clear MV SK FR
          go_wp2
          go_roundw
          case rel => exact ⟨i, j + 1, xs, by omega, by omega, rfl, by go_num, NX⟩
          case measure => exact del_ms n j hlt
        | false =>
          have NX := Lib.hid (MV.out rfl w5 B5.out)
          obtain ⟨f9, v9, c9⟩ := FR.out w5 B5.out
          clear MV SK FR
          go_wp2_with fail
          go_roundw
          case rel => exact ⟨i + 1, j + 1, _, by omega, by omega, by go_num, by go_num, NX⟩
          case measure => exact del_ms n j hlt
      · have hkd : decide ((j : Int) < (n : Int)) = false := decide_eq_false (by omega)
        obtain rfl : j = n := by omega
        obtain ⟨w6, hcl, o6, g6⟩ := clearN HS.out.own (by omega : i < j) 3
        have hcl2 : ∀ ty, (Builtin.clear_ #[49] ty #[.slice (some ⟨g, i, none⟩) (j - i) (uc - i)]).run Tryz.prog wl = .ok (.tuple #[]) w6 := fun ty => hcl
        have hsf : ∀ W, (Instr.sliceAt 49 (.slice (some ⟨g, 0, none⟩) j uc) (some (.int .i64 (i : Int))) none none).run Tryz.prog W = .ok (.slice (some ⟨g, i, none⟩) (j - i) (uc - i)) W := fun W => by
          obtain ⟨off, h1, h2⟩ := sliceFrom_off rowI g j uc i (by omega) hnc
          rw [h1 W, h2 (by omega), Nat.mul_one]
        have hsl : ∀ W, (Instr.sliceAt 49 (.slice (some ⟨g, 0, none⟩) j uc) none (some (.int .i64 (i : Int))) none).run Tryz.prog W = .ok (.slice (some ⟨g, 0, none⟩) i uc) W := fun W => sliceTo_run rowI (some ⟨g, 0, none⟩) j uc i (by omega) W (fun e => by cases e)
        have FIN : Hid (DelN B u id uc (some ⟨g, 0, none⟩) w (.returned (.slice (some ⟨g, 0, none⟩) i uc)) w6) := Lib.hid (by
          have hh := HS.out.head
          have hl := HS.out.len
          have e9 : u.take j = u := List.take_of_length_le (by rw [HN.out]; exact Nat.le_refl _)
          rw [e9] at hh hl
          rw [hh] at o6
          refine ⟨i, rfl, hl, o6, ?_⟩
          have hO := HS.out.only.trans (Only.of_grown (R := fun k => k = g) g6 fun k hk => (Option.some.inj hk).symm) (fun x hx => Or.inl hx)
          exact ⟨hO.os, hO.tape, hO.output, hO.size, fun k hk hne => hO.block k hk fun e => hne (by rw [e])⟩)
        clear HS o6 g6 hcl HB HO
        go_wp2
        go_ret
        exact FIN.out
end Go.Proofs.YteinblpkcpjpnaaGreatDoor
/- Package spill: prune. Written by gen_prune.py out of prune.txt. -/
namespace Go.Proofs.YteinblpkcpjpnaaGreatDoor
open Go Go.RowKit Go.Maps Go.Sort
set_option linter.unusedVariables false
set_option linter.unusedSimpArgs false
set_option maxRecDepth 100000

/-- An index in a box of one's own. -/
structure VxM (B ab : Nat) (x : Ix) (pm : Nat) (wm : Option Nat) (R1 R2 : Nat → Prop) (wr : World) : Prop where
  box : Box wr ab (ixC pm wm x.top) 66
  iv : IvM wr pm wm x
  off : ∀ m, (m = ab ∨ m = pm ∨ wm = some m) → ¬ R1 m ∧ ¬ R2 m ∧ B ≤ m
theorem VxM.lt {B ab : Nat} {x : Ix} {pm : Nat} {wm : Option Nat} {R1 R2 : Nat → Prop} {wr : World} (h : VxM B ab x pm wm R1 R2 wr) {m : Nat} (hm : m = ab ∨ m = pm ∨ wm = some m) : m < wr.heap.size := by
  rcases hm with rfl | rfl | hm
  · exact h.box.lt
  · exact h.iv.puts.lt
  · rcases h.iv.waits with ⟨e, _⟩ | ⟨m2, e, hm2⟩
    · rw [e] at hm; cases hm
    · rw [e] at hm; cases hm; exact hm2.lt
theorem VxM.keep {B ab : Nat} {x : Ix} {pm : Nat} {wm : Option Nat} {R1 R2 R1' R2' : Nat → Prop} {wr w' : World} (h : VxM B ab x pm wm R1 R2 wr) (hb : ∀ m, (m = ab ∨ m = pm ∨ wm = some m) → w'.heap[m]? = wr.heap[m]?) (ho : ∀ m, (m = ab ∨ m = pm ∨ wm = some m) → ¬ R1' m ∧ ¬ R2' m) : VxM B ab x pm wm R1' R2' w' :=
  ⟨(hb ab (Or.inl rfl)).trans h.box, ⟨h.iv.puts.block (hb pm (Or.inr (Or.inl rfl))), h.iv.waits.later (fun m hm => hb m (Or.inr (Or.inr hm))), h.iv.ok, h.iv.few⟩, fun m hm => ⟨(ho m hm).1, (ho m hm).2, (h.off m hm).2.2⟩⟩
theorem VxM.later {B ab : Nat} {x : Ix} {pm : Nat} {wm : Option Nat} {R1 R2 : Nat → Prop} {wr w' : World} (h : VxM B ab x pm wm R1 R2 wr) (hb : Below wr.heap.size wr w') : VxM B ab x pm wm R1 R2 w' :=
  h.keep (fun m hm => hb.block m (h.lt hm)) (fun m hm => ⟨(h.off m hm).1, (h.off m hm).2.1⟩)
theorem VxM.aft {B ab : Nat} {x : Ix} {pm : Nat} {wm : Option Nat} {R1 R2 R1' R2' : Nat → Prop} {wr w' : World} {d L : Nat} {g' : Lg} (h : VxM B ab x pm wm R1 R2 wr) (ha : AftG R1 R2 d L wr g' w' R1' R2') : VxM B ab x pm wm R1' R2' w' :=
  h.keep (fun m hm => ha.keep (h.lt hm) (h.off m hm).1 (h.off m hm).2.1) (fun m hm => ⟨fun e => by
    have := h.lt hm
    rcases ha.newD m e with e | e
    · exact (h.off m hm).1 e
    · omega, fun e => by
    have := h.lt hm
    rcases ha.newL m e with e | e
    · exact (h.off m hm).2.1 e
    · omega⟩)
/-- One takes the place of another. -/
theorem VxM.over {B ab rb : Nat} {x y : Ix} {pm pm2 : Nat} {wm wm2 : Option Nat} {R1 R2 : Nat → Prop} {wr : World} (h : VxM B ab x pm wm R1 R2 wr) (k : VxM B rb y pm2 wm2 R1 R2 wr) : VxM B ab y pm2 wm2 R1 R2 (wr.setRow ab (ixC pm2 wm2 y.top)) :=
  ⟨h.box.setRow _, ⟨k.iv.puts.block (setRow_other _ _ _ _ (am_not_box k.iv.puts h.box)), k.iv.waits.later (fun m hm => setRow_other _ _ _ _ (by
    rcases k.iv.waits with ⟨e, _⟩ | ⟨m2, e, hm2⟩
    · rw [e] at hm; cases hm
    · rw [e] at hm; cases hm; exact am_not_box hm2 h.box)), k.iv.ok, k.iv.few⟩, fun m hm => by
    rcases hm with hm | hm
    · exact h.off m (Or.inl hm)
    · exact k.off m (Or.inr hm)⟩
/-- A row of ints of one's own. -/
structure RwO (B N kc : Nat) (ka : Option Addr) (l : List Int) (R1 R2 : Nat → Prop) (wr : World) : Prop where
  own : Own wr B 3 1 ka N kc (inL l)
  off : ∀ m, ka = some ⟨m, 0, none⟩ → ¬ R1 m ∧ ¬ R2 m
theorem RwO.later {B N kc : Nat} {ka : Option Addr} {l : List Int} {R1 R2 : Nat → Prop} {wr w' : World} (h : RwO B N kc ka l R1 R2 wr) (hb : Below wr.heap.size wr w') : RwO B N kc ka l R1 R2 w' := ⟨h.own.later hb, h.off⟩
theorem RwO.aft {B N kc : Nat} {ka : Option Addr} {l : List Int} {R1 R2 R1' R2' : Nat → Prop} {wr w' : World} {d L : Nat} {g' : Lg} (h : RwO B N kc ka l R1 R2 wr) (ha : AftG R1 R2 d L wr g' w' R1' R2') : RwO B N kc ka l R1' R2' w' := by
  have hl : ∀ m, ka = some ⟨m, 0, none⟩ → m < wr.heap.size := fun m hm => by subst hm; exact h.own.lt.2
  refine ⟨h.own.blocks (fun m hm => ha.keep (hl m hm) (h.off m hm).1 (h.off m hm).2), fun m hm => ⟨fun e => ?_, fun e => ?_⟩⟩
  · have := hl m hm
    rcases ha.newD m e with e | e
    · exact (h.off m hm).1 e
    · omega
  · have := hl m hm
    rcases ha.newL m e with e | e
    · exact (h.off m hm).2 e
    · omega
theorem RwO.over {B N kc ab : Nat} {ka : Option Addr} {l : List Int} {R1 R2 : Nat → Prop} {wr : World} {cs : Array Value} (h : RwO B N kc ka l R1 R2 wr) (hb : Box wr ab cs 66) (cs2 : Array Value) : RwO B N kc ka l R1 R2 (wr.setRow ab cs2) :=
  ⟨h.own.blocks (fun m hm => setRow_other _ _ _ _ (by subst hm; exact own_not_box h.own hb (by decide))), h.off⟩
theorem kreplayV {w : World} {R : Nat → Prop} {d : Nat} {D : Ds} (h : DkM w R d D) (l : List Int) (N cap : Nat) (a : Option Addr) (hl : l.length = N) (hN : N ≤ 16) (hr : RdC w a (inL l)) (hw : ∀ s ∈ l, okI s) :
    Calls Tryz.prog 25 #[.pointer (some ⟨d, 0, none⟩), .slice a N cap] w fun e w' => ∃ (pm : Nat) (wm : Option Nat), e = .returned (.agg (ixC pm wm (replL D.S l).top)) ∧ IvM w' pm wm (replL D.S l) ∧ w.heap.size ≤ pm ∧ (∀ m, wm = some m → w.heap.size ≤ m) ∧ Below w.heap.size w w' := by
  have hok := replL_ok h.byt h.seg (l := l) hw
  refine (kreplay_at h l N cap a hl hN hr hw).mono ?_
  rintro e w' ⟨pm, wm, rfl, h1, h2, h3, h4, h5, h6⟩
  refine ⟨pm, wm, rfl, ⟨h1, h2, hok.1, ⟨?_, ?_⟩⟩, h4, h5, h6⟩
  · have := hok.2.1; omega
  · have := hok.2.2; omega
/-- A new box for an index. -/
theorem vx_new {w2 W : World} {RD2 RL2 : Nat → Prop} {d L : Nat} {g1 : Lg} (hg : LgM w2 RD2 RL2 d L g1) (hb : Below w2.heap.size w2 W) {ab pm : Nat} {wm : Option Nat} {x : Ix} {cs : Array Value} (hz : Box W ab cs 66) (hv : IvM W pm wm x) (hge : w2.heap.size ≤ ab) (hgp : w2.heap.size ≤ pm) (hgw : ∀ m, wm = some m → w2.heap.size ≤ m) :
    VxM w2.heap.size ab x pm wm RD2 RL2 (W.setRow ab (ixC pm wm x.top)) :=
  ⟨hz.setRow _, ⟨hv.puts.block (setRow_other _ _ _ _ (am_not_box hv.puts hz)), hv.waits.later (fun m hm => setRow_other _ _ _ _ (by
    rcases hv.waits with ⟨e, _⟩ | ⟨m2, e, hm2⟩
    · rw [e] at hm; cases hm
    · rw [e] at hm; cases hm; exact am_not_box hm2 hz)), hv.ok, hv.few⟩, fun m hm => by
    have h9 : w2.heap.size ≤ m := by
      rcases hm with rfl | rfl | hm
      · exact hge
      · exact hgp
      · exact hgw m hm
    exact ⟨fun e => by have := hg.dk.lt m e; omega, fun e => by have := hg.lx.lt m e; omega, h9⟩⟩
theorem rd_one {w : World} {b : Nat} {s : Int} (h : Box w b #[.int .i64 s] 3) : RdC w (some ⟨b, 0, none⟩) (inL [s]) := fun j u hj => by
  match j, hj with
  | 0, hj => exact ⟨b, 0, rfl, (h.cell 0).trans hj⟩
  | j + 1, hj => simp [inL] at hj
theorem AftG.step {RD RL RD1 RL1 R1 R2 : Nat → Prop} {d L : Nat} {w w1 w' : World} {g1 g' : Lg} (h : AftG RD RL d L w g1 w1 RD1 RL1) (k : AftG RD1 RL1 d L w1 g' w' R1 R2) : AftG RD RL d L w g' w' R1 R2 := by
  refine ⟨k.lg, h.only.trans k.only fun x hx => ?_, fun x hx => ?_, fun x hx => ?_⟩
  · rcases hx with hx | hx
    · rcases h.newD x hx with e | e
      · exact Or.inl (Or.inl e)
      · exact Or.inr e
    · rcases h.newL x hx with e | e
      · exact Or.inl (Or.inr e)
      · exact Or.inr e
  · rcases k.newD x hx with e | e
    · exact h.newD x e
    · exact Or.inr (Nat.le_trans h.only.size e)
  · rcases k.newL x hx with e | e
    · exact h.newL x e
    · exact Or.inr (Nat.le_trans h.only.size e)
/-- A box that is no block of the log's is written. -/
theorem AftG.over {RD RL R1 R2 : Nat → Prop} {d L : Nat} {w wr : World} {g : Lg} (h : AftG RD RL d L w g wr R1 R2) {ab B : Nat} (hn : ¬ R1 ab ∧ ¬ R2 ab ∧ B ≤ ab) (hw : w.heap.size ≤ ab) (hN : gNow < w.heap.size) (cs : Array Value) : AftG RD RL d L w g (wr.setRow ab cs) R1 R2 :=
  ⟨h.lg.keep (by simp) (fun k hk hm => setRow_other _ _ _ _ (fun e => by
    subst e
    rcases hm with hm | hm | hm
    · exact hn.1 hm
    · exact hn.2.1 hm
    · omega)), h.only.setRow (Or.inr hw) _, h.newD, h.newL⟩
structure PrS (w : World) (RD RL : Nat → Prop) (d L : Nat) (F : Lg × Int) (l : List Int) (B ab N kc : Nat) (ka : Option Addr) (k : Nat) (gk : Lg) (all : Ix) (pm : Nat) (wm : Option Nat) (R1 R2 : Nat → Prop) (wr : World) : Prop where
  aft : AftG RD RL d L w gk wr R1 R2
  few : Few gk.x
  vx : VxM B ab all pm wm R1 R2 wr
  row : RwO B N kc ka l R1 R2 wr
  eq : pruneGo (l.drop k) gk all = F
theorem AftG.later {RD RL R1 R2 : Nat → Prop} {d L : Nat} {w wr w' : World} {g : Lg} (h : AftG RD RL d L w g wr R1 R2) (hb : Below wr.heap.size wr w') : AftG RD RL d L w g w' R1 R2 :=
  ⟨h.lg.later hb, h.only.later hb, h.newD, h.newL⟩
theorem PrS.later {w : World} {RD RL : Nat → Prop} {d L : Nat} {F : Lg × Int} {l : List Int} {B ab N kc : Nat} {ka : Option Addr} {k : Nat} {gk : Lg} {all : Ix} {pm : Nat} {wm : Option Nat} {R1 R2 : Nat → Prop} {wr w' : World} (h : PrS w RD RL d L F l B ab N kc ka k gk all pm wm R1 R2 wr) (hb : Below wr.heap.size wr w') : PrS w RD RL d L F l B ab N kc ka k gk all pm wm R1 R2 w' :=
  ⟨h.aft.later hb, h.few, h.vx.later hb, h.row.later hb, h.eq⟩
theorem keepN_eq (s : Int) (l : List Int) : keepN s l = l.filter fun k => decide (k ≠ s) := by
  unfold keepN inB
  congr 1
  funext k
  simp
set_option maxHeartbeats 8000000 in
theorem prune_at {w : World} {RD RL : Nat → Prop} {d L : Nat} {g : Lg} (h : LgM w RD RL d L g) (hf : Few g.x) :
    Calls Tryz.prog 32 #[.pointer (some ⟨L, 0, none⟩)] w fun e w' => e = .returned (.int .i64 (pruneL g).2) ∧ AftL RD RL d L w (pruneL g).1 w' := by
  obtain ⟨F, hF⟩ : ∃ F, pruneL g = F := ⟨_, rfl⟩
  rw [hF]
  have G := Lib.hid h
  have HFW := Lib.hid hf
  have SY := Lib.hid (ksync_at h.dk)
  have HF : Hid (F = if (syncD g.D).2 = 0 then pruneGo (segsL (syncD g.D).1) ⟨(syncD g.D).1, g.n, g.x⟩ (replL (syncD g.D).1.S (segsL (syncD g.D).1)) else (⟨(syncD g.D).1, g.n, g.x⟩, (syncD g.D).2)) := Lib.hid hF.symm
  obtain ⟨X, hX⟩ : ∃ X, syncD g.D = X := ⟨_, rfl⟩
  rw [hX] at SY HF
  obtain ⟨D1, e1⟩ := X
  dsimp only at SY HF
  have l0 := h.disk_cell
  have mixed : Tryz.prog.follows .mixedOrders = true := by kernel_rfl
  have HNW : Hid (gNow < w.heap.size) := Lib.hid h.now.lt
  clear hX hF h hf
  go_enter Tryz.func32, Tryz.ntmps32
  go_wp2_with fail
  refine SY.out.mono ?_
  rintro e w2 ⟨rfl, ha⟩
  have HA : Hid (AftL RD RL d L w ⟨D1, g.n, g.x⟩ w2) := Lib.hid (G.out.disk ha)
  clear ha SY l0 G
  by_cases hz : e1 = 0
  · have dz : (e1 != 0) = false := by simp [hz]
    have HF2 : Hid (pruneGo (segsL D1) ⟨D1, g.n, g.x⟩ (replL D1.S (segsL D1)) = F) := Lib.hid (by rw [HF.out, if_pos hz])
    clear hz HF
    obtain ⟨RD2, RL2, A2⟩ := HA.out
    obtain ⟨g1, hg1⟩ : ∃ g1 : Lg, (⟨D1, g.n, g.x⟩ : Lg) = g1 := ⟨_, rfl⟩
    have HFW1 : Hid (Few g1.x) := Lib.hid (by rw [← hg1]; exact HFW.out)
    have ED : Hid (g1.D = D1) := Lib.hid (by rw [← hg1])
    rw [hg1] at A2 HF2
    rw [← ED.out] at HF2
    have AF := Lib.hid A2
    have G2 := Lib.hid A2.lg
    have HSB : Hid (w.heap.size ≤ w2.heap.size) := Lib.hid A2.only.size
    clear HA HFW hg1 A2 ED
    obtain ⟨N, hN⟩ : ∃ N, g1.D.S.length = N := ⟨_, rfl⟩
    have hN16 : N ≤ 16 := hN ▸ G2.out.dk.cnt
    have HNL : Hid ((segsL g1.D).length = N) := Lib.hid (by unfold segsL; rw [List.length_map, hN])
    have SG := Lib.hid (fun (W : World) (hW : DkM W RD2 d g1.D) => ksegs_at hW N hN)
    have RP := Lib.hid (fun (W : World) (a : Option Addr) (c : Nat) (hW : DkM W RD2 d g1.D) (hr : RdC W a (inL (segsL g1.D))) => kreplayV hW (segsL g1.D) N c a HNL.out hN16 hr (fun s hs => (hW.segs_ok s hs).1))
    clear hN
    go_upto_region 4 with fail
    go_cut [4] (fun v wc => ∃ (ab pm : Nat) (wm : Option Nat), v = .pointer (some ⟨ab, 0, none⟩) ∧ Hid (VxM w2.heap.size ab (replL g1.D.S (segsL g1.D)) pm wm RD2 RL2 wc) ∧ Hid (Below w2.heap.size w2 wc))
    case first =>
      refine wp_region_last 11 (fun w' => LgM w' RD2 RL2 d L g1 ∧ Below w2.heap.size w2 w') (by kernel_rfl) (⟨G2.out.drew, (Below.refl _ _).drew⟩) (fun hHeld hClosed => ?_)
      refine wpAnyL_take (i := 0) (v := ?_) rfl (by kernel_rfl) (by kernel_rfl) (by kernel_rfl) (by kernel_rfl) (fun _ _ _ h => h) (by kernel_rfl) hClosed (Or.inl ⟨by rfl, ?_⟩) hHeld (fun hClosed => ?_)
      rotate_left
      · intro wv hSw; go_simp; all_goals (with_reducible rfl)
      (try simp only [List.getElem_toArray, List.getElem_cons_zero, put_at, List.set])
      refine wpAnyL_take (i := 1) (v := ?_) rfl (by kernel_rfl) (by kernel_rfl) (by kernel_rfl) (by kernel_rfl) (fun _ _ _ h => h) (by kernel_rfl) hClosed (Or.inl ⟨by rfl, ?_⟩) hHeld (fun hClosed => ?_)
      rotate_left
      · intro wv hSw; go_simp; all_goals (with_reducible rfl)
      (try simp only [List.getElem_toArray, List.getElem_cons_succ, List.getElem_cons_zero, put_at, List.set])
      refine wpAnyL_take (i := 2) (v := ?_) rfl (by kernel_rfl) (by kernel_rfl) (by kernel_rfl) (by kernel_rfl) (fun _ _ _ h => h) (by kernel_rfl) hClosed (Or.inl ⟨by rfl, ?_⟩) hHeld (fun hClosed => ?_)
      rotate_left
      · intro wv hSw; go_simp; all_goals (with_reducible rfl)
      (try simp only [List.getElem_toArray, List.getElem_cons_succ, List.getElem_cons_zero, put_at, List.set])
      refine wpAnyL_take (i := 3) (v := ?_) rfl (by kernel_rfl) (by kernel_rfl) (by kernel_rfl) (by kernel_rfl) (fun _ _ _ h => h) (by kernel_rfl) hClosed (Or.inl ⟨by rfl, ?_⟩) hHeld (fun hClosed => ?_)
      rotate_left
      · intro wv hSw; have l0 := hSw.1.disk_cell; go_simp; all_goals (with_reducible rfl)
      (try simp only [List.getElem_toArray, List.getElem_cons_succ, List.getElem_cons_zero, put_at, List.set])
      refine wpAnyL_take (i := 4) (v := ?_) rfl (by kernel_rfl) (by kernel_rfl) (by kernel_rfl) (by kernel_rfl) (fun _ _ _ h => h) (by kernel_rfl) hClosed (Or.inl ⟨by rfl, ?_⟩) hHeld (fun hClosed => ?_)
      rotate_left
      · intro wv hSw; go_simp; all_goals (with_reducible rfl)
      (try simp only [List.getElem_toArray, List.getElem_cons_succ, List.getElem_cons_zero, put_at, List.set])
      refine wpAnyL_take (i := 5) (v := ?_) rfl (by kernel_rfl) (by kernel_rfl) (by kernel_rfl) (by kernel_rfl) (fun _ _ _ h => h) (by kernel_rfl) hClosed (Or.inl ⟨by rfl, ?_⟩) hHeld (fun hClosed => ?_)
      rotate_left
      · intro wv hSw; go_simp; all_goals (with_reducible rfl)
      (try simp only [List.getElem_toArray, List.getElem_cons_succ, List.getElem_cons_zero, put_at, List.set])
      refine wpAnyL_take (i := 6) (v := ?_) rfl (by kernel_rfl) (by kernel_rfl) (by kernel_rfl) (by kernel_rfl) (fun _ _ _ h => h) (by kernel_rfl) hClosed (Or.inl ⟨by rfl, ?_⟩) hHeld (fun hClosed => ?_)
      rotate_left
      · intro wv hSw; go_simp; all_goals (with_reducible rfl)
      (try simp only [List.getElem_toArray, List.getElem_cons_succ, List.getElem_cons_zero, put_at, List.set])
      refine wpAnyL_take (i := 7) (v := ?_) rfl (by kernel_rfl) (by kernel_rfl) (by kernel_rfl) (by kernel_rfl) (fun _ _ _ h => h) (by kernel_rfl) hClosed (Or.inl ⟨by rfl, ?_⟩) hHeld (fun hClosed => ?_)
      rotate_left
      · intro wv hSw; have l0 := hSw.1.disk_cell; go_simp; all_goals (with_reducible rfl)
      (try simp only [List.getElem_toArray, List.getElem_cons_succ, List.getElem_cons_zero, put_at, List.set])
      refine wpAnyL_two (i := 8) (j := 10) rfl rfl (by kernel_rfl) (by kernel_rfl) (by kernel_rfl) hClosed (fun KK hK => ?_) (fun KK hK => ?_)
      · go_simp
        refine (SG.out _ hHeld.1.dk).mono ?_
        rintro e w8 ⟨a8, c8, rfl, ho8, hb8⟩
        go_wp2_with fail
        refine hK.out _ _ ?_ (fun hClosed hHeld => ?_)
        · exact ⟨hHeld.1.later hb8, hHeld.2.trans (hb8.mono hHeld.2.size)⟩
        clear hK KK
        (first | simp only [List.getElem_toArray, List.getElem_cons_succ, List.getElem_cons_zero, put_at, List.set] | (try simp only [put_at, List.set]))
        refine wpAnyL_two (i := 9) (j := 10) rfl rfl (by kernel_rfl) (by kernel_rfl) (by kernel_rfl) hClosed (fun KK hK => ?_) (fun KK hK => ?_)
        · go_simp
          refine (RP.out _ a8 c8 hHeld.1.dk (rdC_of_own ho8 (by decide))).mono ?_
          rintro e w9 ⟨pm, wm, rfl, hv9, hp9, hq9, hb9⟩
          go_wp2_with fail
          refine hK.out _ _ ?_ (fun hClosed hHeld => ?_)
          · exact ⟨hHeld.1.later hb9, hHeld.2.trans (hb9.mono hHeld.2.size)⟩
          clear hK KK
          (first | simp only [List.getElem_toArray, List.getElem_cons_succ, List.getElem_cons_zero, put_at, List.set] | (try simp only [put_at, List.set]))
          refine wpAnyL_one (i := 10) rfl (by kernel_rfl) (by kernel_rfl) hClosed (fun KK hK => ?_)
          go_simp
          refine hK.out _ _ ?_ (fun hClosed hHeld => ?_)
          · exact ⟨hHeld.1.later ((Below.refl _ _).alloc (Nat.le_refl _) _), hHeld.2.alloc hHeld.2.size _⟩
          clear hK KK
          (first | simp only [List.getElem_toArray, List.getElem_cons_succ, List.getElem_cons_zero, put_at, List.set] | (try simp only [put_at, List.set]))
          refine wpAnyL_last rfl (by kernel_rfl) (by kernel_rfl) (fun KK hK => ?_)
          have hz := Box.new w9 #[.map none, .map none, .int .i64 0] 66
          have hv := hv9.later ((Below.refl w9.heap.size w9).alloc (Nat.le_refl _) (.cells #[.map none, .map none, .int .i64 0] 66))
          have hge : w2.heap.size ≤ w9.heap.size := Nat.le_trans (show w2.heap.size ≤ w8.heap.size from hb8.size) hb9.size
          have hgp : w2.heap.size ≤ pm := Nat.le_trans (show w2.heap.size ≤ w8.heap.size from hb8.size) hp9
          have hgw : ∀ m, wm = some m → w2.heap.size ≤ m := fun m hm => Nat.le_trans (show w2.heap.size ≤ w8.heap.size from hb8.size) (hq9 m hm)
          refine step_store_row rfl rfl rfl rfl hz rfl (by kernel_rfl) (by simp [ixC, Value.oneCell']) ?_
          refine hK.out _ _ ?_
          (try simp only [put_at, List.set])
          have VX := Lib.hid (vx_new G2.out hHeld.2 hz hv hge hgp hgw)
          have B9 := Lib.hid (below_row hHeld.2 hge (ixC pm wm (replL g1.D.S (segsL g1.D)).top))
          clear hHeld hz hv hv9 hp9 hq9 hge hgp hgw ho8 hb8 hb9
          go_wp2_with fail
          go_meet
          exact ⟨_, pm, wm, rfl, VX, B9⟩
        · go_simp
          refine hK.out _ _ ?_ (fun hClosed hHeld => ?_)
          · exact ⟨hHeld.1.later ((Below.refl _ _).alloc (Nat.le_refl _) _), hHeld.2.alloc hHeld.2.size _⟩
          clear hK KK
          (first | simp only [List.getElem_toArray, List.getElem_cons_succ, List.getElem_cons_zero, put_at, List.set] | (try simp only [put_at, List.set]))
          refine wpAnyL_one (i := 9) rfl (by kernel_rfl) (by kernel_rfl) hClosed (fun KK hK => ?_)
          go_simp
          refine (RP.out _ a8 c8 hHeld.1.dk (rdC_of_own (ho8.alloc _) (by decide))).mono ?_
          rintro e w9 ⟨pm, wm, rfl, hv9, hp9, hq9, hb9⟩
          go_wp2_with fail
          refine hK.out _ _ ?_ (fun hClosed hHeld => ?_)
          · exact ⟨hHeld.1.later hb9, hHeld.2.trans (hb9.mono hHeld.2.size)⟩
          clear hK KK
          (first | simp only [List.getElem_toArray, List.getElem_cons_succ, List.getElem_cons_zero, put_at, List.set] | (try simp only [put_at, List.set]))
          refine wpAnyL_last rfl (by kernel_rfl) (by kernel_rfl) (fun KK hK => ?_)
          have hz := (Box.new w8 #[.map none, .map none, .int .i64 0] 66).later hb9
          have hv := hv9
          have hge : w2.heap.size ≤ w8.heap.size := hb8.size
          have hgp : w2.heap.size ≤ pm := Nat.le_trans (show w2.heap.size ≤ (w8.alloc _).heap.size by rw [World.size_alloc]; have h9 : w2.heap.size ≤ w8.heap.size := hb8.size; omega) hp9
          have hgw : ∀ m, wm = some m → w2.heap.size ≤ m := fun m hm => Nat.le_trans (show w2.heap.size ≤ (w8.alloc _).heap.size by rw [World.size_alloc]; have h9 : w2.heap.size ≤ w8.heap.size := hb8.size; omega) (hq9 m hm)
          refine step_store_row rfl rfl rfl rfl hz rfl (by kernel_rfl) (by simp [ixC, Value.oneCell']) ?_
          refine hK.out _ _ ?_
          (try simp only [put_at, List.set])
          have VX := Lib.hid (vx_new G2.out hHeld.2 hz hv hge hgp hgw)
          have B9 := Lib.hid (below_row hHeld.2 hge (ixC pm wm (replL g1.D.S (segsL g1.D)).top))
          clear hHeld hz hv hv9 hp9 hq9 hge hgp hgw ho8 hb8 hb9
          go_wp2_with fail
          go_meet
          exact ⟨_, pm, wm, rfl, VX, B9⟩
      · go_simp
        refine hK.out _ _ ?_ (fun hClosed hHeld => ?_)
        · exact ⟨hHeld.1.later ((Below.refl _ _).alloc (Nat.le_refl _) _), hHeld.2.alloc hHeld.2.size _⟩
        clear hK KK
        (first | simp only [List.getElem_toArray, List.getElem_cons_succ, List.getElem_cons_zero, put_at, List.set] | (try simp only [put_at, List.set]))
        refine wpAnyL_one (i := 8) rfl (by kernel_rfl) (by kernel_rfl) hClosed (fun KK hK => ?_)
        go_simp
        refine (SG.out _ hHeld.1.dk).mono ?_
        rintro e w8 ⟨a8, c8, rfl, ho8, hb8⟩
        go_wp2_with fail
        refine hK.out _ _ ?_ (fun hClosed hHeld => ?_)
        · exact ⟨hHeld.1.later hb8, hHeld.2.trans (hb8.mono hHeld.2.size)⟩
        clear hK KK
        (first | simp only [List.getElem_toArray, List.getElem_cons_succ, List.getElem_cons_zero, put_at, List.set] | (try simp only [put_at, List.set]))
        refine wpAnyL_one (i := 9) rfl (by kernel_rfl) (by kernel_rfl) hClosed (fun KK hK => ?_)
        go_simp
        refine (RP.out _ a8 c8 hHeld.1.dk (rdC_of_own ho8 (by decide))).mono ?_
        rintro e w9 ⟨pm, wm, rfl, hv9, hp9, hq9, hb9⟩
        go_wp2_with fail
        refine hK.out _ _ ?_ (fun hClosed hHeld => ?_)
        · exact ⟨hHeld.1.later hb9, hHeld.2.trans (hb9.mono hHeld.2.size)⟩
        clear hK KK
        (first | simp only [List.getElem_toArray, List.getElem_cons_succ, List.getElem_cons_zero, put_at, List.set] | (try simp only [put_at, List.set]))
        refine wpAnyL_last rfl (by kernel_rfl) (by kernel_rfl) (fun KK hK => ?_)
        have hz := ((Box.new w2.drew #[.map none, .map none, .int .i64 0] 66).later hb8).later hb9
        have hv := hv9
        have h9 : w2.heap.size ≤ w8.heap.size := by have h9 := hb8.size; simp at h9; omega
        have hge : w2.heap.size ≤ w2.drew.heap.size := Nat.le_refl _
        have hgp : w2.heap.size ≤ pm := Nat.le_trans h9 hp9
        have hgw : ∀ m, wm = some m → w2.heap.size ≤ m := fun m hm => Nat.le_trans h9 (hq9 m hm)
        refine step_store_row rfl rfl rfl rfl hz rfl (by kernel_rfl) (by simp [ixC, Value.oneCell']) ?_
        refine hK.out _ _ ?_
        (try simp only [put_at, List.set])
        have VX := Lib.hid (vx_new G2.out hHeld.2 hz hv hge hgp hgw)
        have B9 := Lib.hid (below_row hHeld.2 hge (ixC pm wm (replL g1.D.S (segsL g1.D)).top))
        clear hHeld hz hv hv9 hp9 hq9 hge hgp hgw ho8 hb8 hb9
        go_wp2_with fail
        go_meet
        exact ⟨_, pm, wm, rfl, VX, B9⟩
    obtain ⟨ab, pm, wm, rfl, VX, B4⟩ := hcut
    have G4 := Lib.hid (G2.out.later B4.out)
    have l0 := G4.out.disk_cell
    have SG4 := Lib.hid (SG.out wc G4.out.dk)
    have HLO : Hid (∀ s ∈ segsL g1.D, okI s) := Lib.hid (fun s hs => (G2.out.dk.segs_ok s hs).1)
    clear SG RP
    go_wp2_with fail
    refine SG4.out.mono ?_
    rintro e w3 ⟨ka, kc, rfl, ho, hb⟩
    have ST : Hid (PrS w RD RL d L F (segsL g1.D) w2.heap.size ab N kc ka 0 g1 (replL g1.D.S (segsL g1.D)) pm wm RD2 RL2 w3) := Lib.hid ⟨AF.out.later (B4.out.trans (hb.mono B4.out.size)), HFW1.out, VX.out.later hb, ⟨ho.mono B4.out.size, fun m hm => by
      subst hm
      have h9 := ho.lt.1
      exact ⟨fun e => by have := G4.out.dk.lt m e; omega, fun e => by have := G4.out.lx.lt m e; omega⟩⟩, HF2.out⟩
    clear ho hb SG4 l0 G4 VX B4 AF HF2 HFW1 G2
    obtain ⟨l, hl⟩ : ∃ l, segsL g1.D = l := ⟨_, rfl⟩
    rw [hl] at ST HNL HLO
    obtain ⟨all0, hall⟩ : ∃ x, replL g1.D.S l = x := ⟨_, rfl⟩
    rw [hall] at ST
    clear hl hall
    go_wp2_with fail
    go_loopw [34] (fun vi wr => ∃ (k : Nat) (gk : Lg) (all : Ix) (pm : Nat) (wm : Option Nat) (R1 R2 : Nat → Prop), vi = .int .i64 (k : Int) ∧ k ≤ N ∧ Hid (PrS w RD RL d L F l w2.heap.size ab N kc ka k gk all pm wm R1 R2 wr)) (fun vi _ => N - (intV vi).toNat)
    case atStart => exact ⟨0, g1, all0, pm, wm, RD2, RL2, rfl, Nat.zero_le _, ST⟩
    case round =>
      clear ST
      obtain ⟨k, gk, all, pm, wm, R1, R2, rfl, hk, HS⟩ := hrel
      by_cases hkN : k < N
      · have d1 : decide ((k : Int) < (N : Int)) = true := decide_eq_true (by omega)
        have d1n : decide (k < N) = true := decide_eq_true hkN
        obtain ⟨s, hs⟩ : ∃ s, l[k]? = some s := ⟨_, List.getElem?_eq_getElem (by rw [HNL.out]; exact hkN)⟩
        have hok := Lib.hid (HLO.out s (List.mem_of_getElem? hs))
        obtain ⟨g9, hg9, _, _⟩ := HS.out.row.own.some_ (by omega)
        have HSK := Lib.hid HS.out
        subst hg9
        have ck := HSK.out.row.own.cell (inL_get hs)
        have ik0 : (0 : Int) ≤ (k : Int) := by omega
        obtain ⟨rest, hrest⟩ : ∃ x, replL gk.D.S (keepN s (segsL gk.D)) = x := ⟨_, rfl⟩
        obtain ⟨q, hq⟩ : ∃ q, holdsL gk rest all = q := ⟨_, rfl⟩
        have HEQ : Hid (F = if q = true then (if (dropsD gk.D [s]).2 = 0 then pruneGo (l.drop (k + 1)) ⟨(dropsD gk.D [s]).1, gk.n, followX gk.x rest⟩ rest else (⟨(dropsD gk.D [s]).1, gk.n, gk.x⟩, (dropsD gk.D [s]).2)) else pruneGo (l.drop (k + 1)) gk all) := Lib.hid (by
          rw [← HSK.out.eq]
          obtain ⟨hlt9, hge⟩ := List.getElem?_eq_some_iff.1 hs
          rw [List.drop_eq_getElem_cons hlt9, hge, ← hq, ← hrest, keepN_eq]
          rfl)
        have HRE := Lib.hid hrest
        have HQ := Lib.hid hq
        clear hs HS hrest hq
        go_upto_region 8 with fail
        refine code_forget (fun W => Hid (PrS w RD RL d L F l w2.heap.size ab N kc (some ⟨g9, 0, none⟩) k gk all pm wm R1 R2 W) ∧ Hid (Box W wr.heap.size #[.int .i64 s] 3)) ⟨Lib.hid (HSK.out.later ((Below.refl _ _).alloc (Nat.le_refl _) _)), Lib.hid (Box.new _ _ _)⟩ ?_
        obtain ⟨sb, hsb⟩ : ∃ p, wr.heap.size = p := ⟨_, rfl⟩
        rw [hsb]
        clear hsb ck HSK
        rintro w4 ⟨HS4, BS4⟩
        obtain ⟨N2, hN2⟩ : ∃ N2, gk.D.S.length = N2 := ⟨_, rfl⟩
        have hN16b : N2 ≤ 16 := hN2 ▸ HS4.out.aft.lg.dk.cnt
        have SG5 := Lib.hid (ksegs_at HS4.out.aft.lg.dk N2 hN2)
        have HL2 : Hid ((segsL gk.D).length = N2) := Lib.hid (by unfold segsL; rw [List.length_map, hN2])
        have HO2 : Hid (∀ v ∈ segsL gk.D, okI v) := Lib.hid (fun v hv => (HS4.out.aft.lg.dk.segs_ok v hv).1)
        have l0 := HS4.out.aft.lg.disk_cell
        clear hN2
        go_wp2_with fail
        refine SG5.out.mono ?_
        rintro e w5 ⟨a5, c5, rfl, ho5, hb5⟩
        have DL := Lib.hid (delN_at (segsL gk.D) N2 HL2.out ho5 s (BS4.out.later hb5) (fun g hg e => by
          subst hg
          have := ho5.lt.1
          have := BS4.out.lt
          omega))
        have HB5 := Lib.hid hb5
        have H5 : Hid (∀ m, a5 = some ⟨m, 0, none⟩ → w4.heap.size ≤ m) := Lib.hid (fun m hm => by subst hm; exact ho5.lt.1)
        clear ho5 hb5 SG5 l0
        go_wp2_with fail
        refine DL.out.mono ?_
        rintro e w6 ⟨m6, rfl, hm6, ho6, hO6⟩
        have b6 : Below w4.heap.size w4 w6 := HB5.out.trans (hO6.below HB5.out.size H5.out)
        have HS6 := Lib.hid (HS4.out.later b6)
        have BS6 := Lib.hid (BS4.out.later b6)
        have RP6 := Lib.hid (kreplayV HS6.out.aft.lg.dk (keepN s (segsL gk.D)) m6 c5 a5 hm6 (by have := List.length_filter_le (fun q => !inB s q) (segsL gk.D); have := HL2.out; unfold keepN at hm6; omega) (rdC_of_own ho6 (by decide)) (fun v hv => HO2.out v (List.mem_filter.1 hv).1))
        have l0 := HS6.out.aft.lg.disk_cell
        clear DL HB5 H5 hm6 ho6 hO6 b6 HS4 BS4 HL2 HO2
        rw [HRE.out] at RP6
        go_wp2_with fail
        refine RP6.out.mono ?_
        rintro e w7 ⟨pm7, wm7, rfl, hv7, hp7, hq7, hb7⟩
        have HS7 := Lib.hid (HS6.out.later hb7)
        have BS7 := Lib.hid (BS6.out.later hb7)
        have VX7 : Hid (VxM w2.heap.size w7.heap.size rest pm7 wm7 R1 R2 (w7.alloc (.cells (ixC pm7 wm7 rest.top) 66))) := Lib.hid (by
          have al := (Below.refl w7.heap.size w7).alloc (Nat.le_refl _) (.cells (ixC pm7 wm7 rest.top) 66)
          refine ⟨Box.new _ _ _, hv7.later al, fun m hm => ?_⟩
          have h9 : w6.heap.size ≤ m := by
            rcases hm with rfl | rfl | hm
            · exact hb7.size
            · exact hp7
            · exact hq7 m hm
          have h8 := HS6.out.vx.box.lt
          have h7 := (HS6.out.vx.off ab (Or.inl rfl)).2.2
          exact ⟨fun e => by have := HS6.out.aft.lg.dk.lt m e; omega, fun e => by have := HS6.out.aft.lg.lx.lt m e; omega, by omega⟩)
        clear RP6 hv7 hp7 hq7 hb7 HS6 BS6 l0 HRE
        unfold ixC
        go_upto_region 10 with fail
        refine code_forget (fun W => Hid (PrS w RD RL d L F l w2.heap.size ab N kc (some ⟨g9, 0, none⟩) k gk all pm wm R1 R2 W) ∧ Hid (Box W sb #[.int .i64 s] 3) ∧ Hid (VxM w2.heap.size w7.heap.size rest pm7 wm7 R1 R2 W)) ⟨Lib.hid (HS7.out.later ((Below.refl _ _).alloc (Nat.le_refl _) _)), Lib.hid (BS7.out.alloc _), VX7⟩ ?_
        obtain ⟨rb, hrb⟩ : ∃ p, w7.heap.size = p := ⟨_, rfl⟩
        rw [hrb]
        clear hrb HS7 BS7 VX7
        rintro w8 ⟨HS8, BS8, VX8⟩
        have HD := Lib.hid (holds_at HS8.out.aft.lg HS8.out.few VX8.out.iv HS8.out.vx.iv)
        rw [HQ.out] at HD
        have r0 : w8.cell? ⟨rb, 0, none⟩ = some (.map (some pm7)) := VX8.out.box.cell 0
        have r1 : w8.cell? ⟨rb, 1, none⟩ = some (.map wm7) := VX8.out.box.cell 1
        have r2 : w8.cell? ⟨rb, 2, none⟩ = some (.int .i64 rest.top) := VX8.out.box.cell 2
        have q0 : w8.cell? ⟨ab, 0, none⟩ = some (.map (some pm)) := HS8.out.vx.box.cell 0
        have q1 : w8.cell? ⟨ab, 1, none⟩ = some (.map wm) := HS8.out.vx.box.cell 1
        have q2 : w8.cell? ⟨ab, 2, none⟩ = some (.int .i64 all.top) := HS8.out.vx.box.cell 2
        clear HQ
        go_wp2_with fail
        refine HD.out.mono ?_
        rintro e w9 ⟨rfl, hb⟩
        have HS9 := Lib.hid (HS8.out.later hb)
        have BS9 := Lib.hid (BS8.out.later hb)
        have VX9 := Lib.hid (VX8.out.later hb)
        clear HS8 BS8 VX8 hb HD r0 r1 r2 q0 q1 q2
        cases q with
        | false =>
          have NX : Hid (PrS w RD RL d L F l w2.heap.size ab N kc (some ⟨g9, 0, none⟩) (k + 1) gk all pm wm R1 R2 w9) := Lib.hid ⟨HS9.out.aft, HS9.out.few, HS9.out.vx, HS9.out.row, HEQ.out.symm⟩
          clear HS9 BS9 VX9 HEQ
          go_wp2_with fail
          go_roundw
          case rel => exact ⟨k + 1, gk, all, pm, wm, R1, R2, by go_num, by omega, NX⟩
          case measure => simp [intV]; omega
        | true =>
          obtain ⟨X, hX⟩ : ∃ X, dropsD gk.D [s] = X := ⟨_, rfl⟩
          have DRP : Hid (∀ W a c, LgM W R1 R2 d L gk → RdC W a (inL [s]) → (∀ g off, a = some ⟨g, off, none⟩ → ¬ R1 g) → Calls Tryz.prog 34 #[.pointer (some ⟨d, 0, none⟩), .slice a 1 c] W fun e w' => e = .returned (.int .i64 X.2) ∧ AftK R1 d W X.1 w') := Lib.hid (fun W a c hW h1 h2 => by
            have h9 := drops_at hW.dk [s] 1 c a rfl (by decide) h1 (fun v hv => by rw [List.mem_singleton.1 hv]; exact hok.out) h2
            rw [hX] at h9
            exact h9)
          rw [hX] at HEQ
          obtain ⟨D2, e2⟩ := X
          dsimp only at DRP HEQ
          clear hX
          go_upto_region 11 with fail
          refine wp_region_lastM [6, 7] (fun w' => LgM w' R1 R2 d L gk ∧ Box w' sb #[.int .i64 s] 3 ∧ Below w9.heap.size w9 w') (by kernel_rfl) (⟨HS9.out.aft.lg.drew, BS9.out.drew, (Below.refl _ _).drew⟩) (fun hHeld hClosed => ?_)
          refine wpAnyM_takeP (i := 0) (v := ?_) rfl (by kernel_rfl) (by kernel_rfl) (by kernel_rfl) (fun _ _ _ h => h) (by kernel_rfl) hClosed (Or.inl ⟨by rfl, ?_⟩) (fun _ => hHeld) (fun hClosed => ?_)
          rotate_left
          · intro wv hSw; go_simp; all_goals (with_reducible rfl)
          (try simp only [List.getElem_toArray, List.getElem_cons_zero, put_at, List.set])
          refine wpAnyM_takeP (i := 1) (v := ?_) rfl (by kernel_rfl) (by kernel_rfl) (by kernel_rfl) (fun _ _ _ h => h) (by kernel_rfl) hClosed (Or.inl ⟨by rfl, ?_⟩) (fun _ => hHeld) (fun hClosed => ?_)
          rotate_left
          · intro wv hSw; go_simp; all_goals (with_reducible rfl)
          (try simp only [List.getElem_toArray, List.getElem_cons_succ, List.getElem_cons_zero, put_at, List.set])
          refine wpAnyM_takeP (i := 2) (v := ?_) rfl (by kernel_rfl) (by kernel_rfl) (by kernel_rfl) (fun _ _ _ h => h) (by kernel_rfl) hClosed (Or.inl ⟨by rfl, ?_⟩) (fun _ => hHeld) (fun hClosed => ?_)
          rotate_left
          · intro wv hSw; go_simp; all_goals (with_reducible rfl)
          (try simp only [List.getElem_toArray, List.getElem_cons_succ, List.getElem_cons_zero, put_at, List.set])
          refine wpAnyM_take (i := 3) (v := ?_) rfl (by kernel_rfl) (by kernel_rfl) (by kernel_rfl) (by kernel_rfl) (fun _ _ _ h => h) (by kernel_rfl) hClosed (Or.inl ⟨by rfl, ?_⟩) (fun _ => hHeld) (fun hClosed => ?_)
          rotate_left
          · intro wv hSw; have l0 := hSw.1.disk_cell; have s0 := hSw.2.1.cell 0; go_simp; all_goals (with_reducible rfl)
          (try simp only [List.getElem_toArray, List.getElem_cons_succ, List.getElem_cons_zero, put_at, List.set])
          refine wpAnyM_take (i := 4) (v := ?_) rfl (by kernel_rfl) (by kernel_rfl) (by kernel_rfl) (by kernel_rfl) (fun _ _ _ h => h) (by kernel_rfl) hClosed (Or.inl ⟨by rfl, ?_⟩) (fun _ => hHeld) (fun hClosed => ?_)
          rotate_left
          · intro wv hSw; have l0 := hSw.1.disk_cell; have s0 := hSw.2.1.cell 0; go_simp; all_goals (with_reducible rfl)
          (try simp only [List.getElem_toArray, List.getElem_cons_succ, List.getElem_cons_zero, put_at, List.set])
          refine wpAnyM_one (i := 5) rfl (by kernel_rfl) hClosed (fun KK hK => ?_)
          go_simp
          refine hK.out _ _ ?_ (fun hClosed hHeld => ?_)
          · exact ⟨hHeld.1.later ((Below.refl _ _).alloc (Nat.le_refl _) _), hHeld.2.1.alloc _, hHeld.2.2.alloc hHeld.2.2.size _⟩
          clear hK KK
          (first | simp only [List.getElem_toArray, List.getElem_cons_succ, List.getElem_cons_zero, put_at, List.set] | (try simp only [put_at, List.set]))
          refine wpAnyM_end (i := 6) rfl (by kernel_rfl) (by kernel_rfl) hClosed (fun KK hK => ?_)
          go_simp
          have B5 : Box (w9.alloc (.cells #[.int .i64 s] 3)).drew w9.heap.size #[.int .i64 s] 3 := Box.new w9 _ _
          refine (DRP.out _ _ _ hHeld.1 (rd_one B5) (fun g off e hr => by cases e; exact absurd (HS9.out.aft.lg.dk.lt _ hr) (Nat.lt_irrefl _))).mono ?_
          rintro e w10 ⟨rfl, ha⟩
          have H10 := Lib.hid (And.intro hHeld.2.2 ha)
          clear ha B5 hHeld
          go_wp2_with fail
          refine hK.out _ _ (fun hClosed => ?_)
          clear hK KK
          (try simp only [List.getElem_toArray, List.getElem_cons_succ, List.getElem_cons_zero, put_at, List.set])
          refine wpAnyM_end (i := 7) rfl (by kernel_rfl) (by kernel_rfl) hClosed (fun KK hK => ?_)
          go_simp
          refine hK.out _ _ (fun hClosed => ?_)
          clear hK KK
          (try simp only [List.getElem_toArray, List.getElem_cons_succ, List.getElem_cons_zero, put_at, List.set])
          refine wpAnyM_over (by kernel_rfl) ?_
          have b5 := H10.out.1
          have HS5 := HS9.out.later b5
          have VX5 := VX9.out.later b5
          obtain ⟨Q1, Q2, A9⟩ := HS5.aft.lg.disk H10.out.2
          have A10 := Lib.hid (HS5.aft.step A9)
          have VA := Lib.hid (HS5.vx.aft A9)
          have VR := Lib.hid (VX5.aft A9)
          have RW := Lib.hid (HS5.row.aft A9)
          have FW := Lib.hid HS5.few
          clear H10 b5 HS5 VX5 A9 HS9 BS9 VX9 hClosed DRP
          by_cases hz2 : e2 = 0
          · have dz2 : (e2 != 0) = false := by simp [hz2]
            have HE2 : Hid (F = pruneGo (l.drop (k + 1)) ⟨D2, gk.n, followX gk.x rest⟩ rest) := Lib.hid (by rw [HEQ.out]; simp [hz2])
            have FO := Lib.hid (follow_at A10.out.lg FW.out VR.out.iv (VR.out.off pm7 (Or.inr (Or.inl rfl))).2.1 (fun m hm => (VR.out.off m (Or.inr (Or.inr hm))).2.1))
            have FW2 : Hid (Few (followX gk.x rest)) := Lib.hid (follow_few FW.out)
            have r0 : w10.cell? ⟨rb, 0, none⟩ = some (.map (some pm7)) := VR.out.box.cell 0
            have r1 : w10.cell? ⟨rb, 1, none⟩ = some (.map wm7) := VR.out.box.cell 1
            have r2 : w10.cell? ⟨rb, 2, none⟩ = some (.int .i64 rest.top) := VR.out.box.cell 2
            clear hz2 HEQ FW
            go_wp2_with fail
            refine FO.out.mono ?_
            rintro e w11 ⟨rfl, Q3, Q4, A11⟩
            have A12 := Lib.hid (A10.out.step A11)
            have VA2 := Lib.hid (VA.out.aft A11)
            have VR2 := Lib.hid (VR.out.aft A11)
            have RW2 := Lib.hid (RW.out.aft A11)
            clear A11 FO A10 VA VR RW r0 r1 r2
            have r0 : w11.cell? ⟨rb, 0, none⟩ = some (.map (some pm7)) := VR2.out.box.cell 0
            have r1 : w11.cell? ⟨rb, 1, none⟩ = some (.map wm7) := VR2.out.box.cell 1
            have r2 : w11.cell? ⟨rb, 2, none⟩ = some (.int .i64 rest.top) := VR2.out.box.cell 2
            have hst : (Instr.storeAt 66 (.pointer (some ⟨ab, 0, none⟩)) (.agg #[.map (some pm7), .map wm7, .int .i64 rest.top])).run Tryz.prog w11 = .ok () (w11.setRow ab (ixC pm7 wm7 rest.top)) := storeAt_row (cells := ixC pm7 wm7 rest.top) (by exact VA2.out.box.room) (by kernel_rfl) (by simp [ixC, Value.oneCell'])
            have NX : Hid (PrS w RD RL d L F l w2.heap.size ab N kc (some ⟨g9, 0, none⟩) (k + 1) ⟨D2, gk.n, followX gk.x rest⟩ rest pm7 wm7 Q3 Q4 (w11.setRow ab (ixC pm7 wm7 rest.top))) := Lib.hid ⟨A12.out.over (VA2.out.off ab (Or.inl rfl)) (Nat.le_trans HSB.out (VA2.out.off ab (Or.inl rfl)).2.2) HNW.out _, FW2.out, VA2.out.over VR2.out, RW2.out.over VA2.out.box _, HE2.out.symm⟩
            obtain ⟨w12, hw12⟩ : ∃ W, w11.setRow ab (ixC pm7 wm7 rest.top) = W := ⟨_, rfl⟩
            rw [hw12] at hst NX
            clear hw12 A12 VA2 VR2 RW2 FW2 HE2
            go_wp2_with (refine wpList_storeP rfl _ _ _ rfl rfl rfl hst ?_)
            go_roundw
            case rel => exact ⟨k + 1, _, rest, pm7, wm7, Q3, Q4, by go_num, by omega, NX⟩
            case measure => simp [intV]; omega
          · have dz2 : (e2 != 0) = true := by simp [hz2]
            have FIN : Hid (F = (⟨D2, gk.n, gk.x⟩, e2) ∧ AftL RD RL d L w ⟨D2, gk.n, gk.x⟩ w10) := Lib.hid ⟨by rw [HEQ.out]; simp [hz2], Q1, Q2, A10.out⟩
            clear hz2 HEQ A10 VA VR RW FW
            go_wp2_with fail
            go_ret
            obtain ⟨rfl, h9⟩ := FIN.out
            exact ⟨rfl, h9⟩
      · have d1 : decide ((k : Int) < (N : Int)) = false := decide_eq_false (by omega)
        have hkk : k = N := by omega
        subst hkk
        have FIN : Hid (F = (gk, 0) ∧ AftL RD RL d L w gk wr) := Lib.hid ⟨by
          rw [← HS.out.eq, List.drop_of_length_le (by rw [HNL.out]; exact Nat.le_refl _)]
          rfl, ⟨R1, R2, HS.out.aft⟩⟩
        clear HS
        go_wp2_with fail
        go_ret
        obtain ⟨rfl, h9⟩ := FIN.out
        exact ⟨rfl, h9⟩
  · have dz : (e1 != 0) = true := by simp [hz]
    have FIN : Hid (F = (⟨D1, g.n, g.x⟩, e1) ∧ AftL RD RL d L w ⟨D1, g.n, g.x⟩ w2) := Lib.hid ⟨by rw [HF.out, if_neg hz], HA.out⟩
    clear hz HF HA
    go_wp2_with fail
    go_ret
    obtain ⟨rfl, h9⟩ := FIN.out
    exact ⟨rfl, h9⟩
end Go.Proofs.YteinblpkcpjpnaaGreatDoor
