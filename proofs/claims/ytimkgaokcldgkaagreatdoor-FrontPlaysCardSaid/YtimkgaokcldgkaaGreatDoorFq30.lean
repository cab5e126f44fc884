/- Part of a chain: SpHld, SpFol, SpDel, SpPru, SpCom, SpNot, SpDon, SpPut, SpWai, SpTal, SpCalm, SpClg, SpSes. -/
import Derived.Test.YtimkgaokcldgkaaGreatDoorFq29
import Derived.Laws.StructEq
import Derived.WalkSpells
import Derived.WalkLawsBesides
import Derived.Test.YtimkgaokcldgkaaGreatDoorFq28
import Derived.Test.YtimkgaokcldgkaaGreatDoorFq07
import Derived.Test.YtimkgaokcldgkaaGreatDoorFq26
/- Package spill: holds. Written by gen_holds.py. -/
namespace Go.Proofs.YtimkgaokcldgkaaGreatDoor
open Go Go.RowKit Go.Maps Go.Sort
set_option linter.unusedVariables false
set_option linter.unusedSimpArgs false
set_option maxRecDepth 100000

def sqB (a b : Rc) : Bool := a.id == b.id && (a.host.toList == b.host.toList && (a.path.toList == b.path.toList && (a.prio == b.prio && a.till == b.till)))
theorem sqB_yes {a b : Rc} (h : sqB a b = true) : a.id = b.id ∧ a.host.toList = b.host.toList ∧ a.path.toList = b.path.toList ∧ a.prio = b.prio ∧ a.till = b.till := by
  unfold sqB at h
  simpa using h
theorem sqB_no {a b : Rc} (h : sqB a b = false) : ¬ a.id = b.id ∨ (a.id = b.id ∧ (¬ a.host.toList = b.host.toList ∨ (a.host.toList = b.host.toList ∧ (¬ a.path.toList = b.path.toList ∨ (a.path.toList = b.path.toList ∧ (¬ a.prio = b.prio ∨ (a.prio = b.prio ∧ ¬ a.till = b.till))))))) := by
  unfold sqB at h
  by_cases h0 : a.id = b.id
  · by_cases h1 : a.host.toList = b.host.toList
    · by_cases h2 : a.path.toList = b.path.toList
      · by_cases h3 : a.prio = b.prio
        · refine Or.inr ⟨h0, Or.inr ⟨h1, Or.inr ⟨h2, Or.inr ⟨h3, fun h4 => ?_⟩⟩⟩⟩
          rw [h0, h1, h2, h3, h4] at h
          simp at h
        · exact Or.inr ⟨h0, Or.inr ⟨h1, Or.inr ⟨h2, Or.inl h3⟩⟩⟩
      · exact Or.inr ⟨h0, Or.inr ⟨h1, Or.inl h2⟩⟩
    · exact Or.inr ⟨h0, Or.inl h1⟩
  · exact Or.inl h0
theorem ba_eq {a b : ByteArray} : (a.toList == b.toList) = decide (a = b) := by
  by_cases h : a = b
  · subst h; simp
  · rw [decide_eq_false h]
    rw [beq_eq_false_iff_ne]
    intro e
    apply h
    rw [Lib.toList_data, Lib.toList_data] at e
    exact ByteArray.ext (Array.toList_inj.1 e)
theorem int_eq {a b : Int} : (a == b) = decide (a = b) := by
  by_cases h : a = b
  · subst h; simp
  · rw [decide_eq_false h, beq_eq_false_iff_ne]; exact h
theorem sqB_same (a b : Option Rc) : sqB (a.getD rc0) (b.getD rc0) = sameQ a b := by
  unfold sqB sameQ
  rw [ba_eq, ba_eq, int_eq, int_eq, int_eq]
theorem all_no {α : Type} {l : List α} {p : α → Bool} {k : Nat} {x : α} (h : l[k]? = some x) (hp : p x = false) : l.all p = false := by
  rw [List.all_eq_false]
  exact ⟨x, List.mem_of_getElem? h, by rw [hp]; decide⟩
theorem all_yes {α : Type} {l : List α} {p : α → Bool} {k : Nat} {x : α} (h : l[k]? = some x) (h1 : (l.take k).all p = true) (hp : p x = true) : (l.take (k + 1)).all p = true := by
  rw [List.take_add_one, h, List.all_append, h1]
  simp [hp]
theorem all_all {α : Type} {l : List α} {p : α → Bool} {k : Nat} (hk : l.length ≤ k) (h1 : (l.take k).all p = true) : l.all p = true := by
  rw [List.take_of_length_le hk] at h1
  exact h1
def hP1 (g : Lg) (rest : Ix) (id : Int) : Bool := (gA rest.puts id).isSome && sameQ (rdL g.D.S (atI rest id)) (loadL g id)
def hP2 (all : Ix) (id : Int) : Bool := (gA all.puts id).isSome
def hP3 (rest all : Ix) (h : ByteArray) : Bool := decide ((waitI rest h).till = (waitI all h).till)
/-- An index as a value. -/
structure IvM (w : World) (pm : Nat) (wm : Option Nat) (x : Ix) : Prop where
  puts : PtM w pm x.puts
  waits : WtM w wm x.waits
  ok : IxOk x
  few : Few x
theorem WtM.later2 {w w' : World} {wm : Option Nat} {S : List (ByteArray × Wt)} (h : WtM w wm S) (hb : Below w.heap.size w w') : WtM w' wm S := h.later (fun m hm => hb.block m (by
  rcases h with ⟨e, _⟩ | ⟨m2, e, hm2⟩
  · rw [e] at hm; cases hm
  · rw [e] at hm; cases hm; exact hm2.lt))
theorem IvM.later {w w' : World} {pm : Nat} {wm : Option Nat} {x : Ix} (h : IvM w pm wm x) (hb : Below w.heap.size w w') : IvM w' pm wm x := ⟨h.puts.later hb, h.waits.later2 hb, h.ok, h.few⟩
def ixC (pm : Nat) (wm : Option Nat) (t : Int) : Array Value := #[.map (some pm), .map wm, .int .i64 t]
structure HlS (w : World) (RD RL : Nat → Prop) (d L : Nat) (g : Lg) (b4 b5 : Nat) (cs4 cs5 : Array Value) (ka : Option Addr) (K kc : Nat) (ks : List Int) (wr : World) : Prop where
  lg : LgM wr RD RL d L g
  x4 : Box wr b4 cs4 61
  x5 : Box wr b5 cs5 61
  kown : Own wr w.heap.size 3 1 ka K kc (inL ks)
  bel : Below w.heap.size w wr
theorem HlS.later {w : World} {RD RL : Nat → Prop} {d L : Nat} {g : Lg} {b4 b5 : Nat} {cs4 cs5 : Array Value} {ka : Option Addr} {K kc : Nat} {ks : List Int} {wr w' : World} (h : HlS w RD RL d L g b4 b5 cs4 cs5 ka K kc ks wr) (hb : Below wr.heap.size wr w') : HlS w RD RL d L g b4 b5 cs4 cs5 ka K kc ks w' :=
  ⟨h.lg.later hb, h.x4.later hb, h.x5.later hb, h.kown.later hb, h.bel.trans (hb.mono h.bel.size)⟩
/-- A new block that is written. -/
theorem HlS.fresh {w : World} {RD RL : Nat → Prop} {d L : Nat} {g : Lg} {b4 b5 : Nat} {cs4 cs5 : Array Value} {ka : Option Addr} {K kc : Nat} {ks : List Int} {w0 wr : World} (h0 : HlS w RD RL d L g b4 b5 cs4 cs5 ka K kc ks w0) (hb : Below w0.heap.size w0 wr) {z : Nat} (hz : w0.heap.size ≤ z) (cs : Array Value) : HlS w RD RL d L g b4 b5 cs4 cs5 ka K kc ks (wr.setRow z cs) :=
  h0.later (below_row hb hz cs)
set_option maxHeartbeats 8000000 in
theorem holds_at {w : World} {RD RL : Nat → Prop} {d L : Nat} {g : Lg} (h : LgM w RD RL d L g) (hf : Few g.x) {pm4 pm5 : Nat} {wm4 wm5 : Option Nat} {rest all : Ix} (h4 : IvM w pm4 wm4 rest) (h5 : IvM w pm5 wm5 all) :
    Calls Tryz.prog 66 #[.pointer (some ⟨L, 0, none⟩), .agg (ixC pm4 wm4 rest.top), .agg (ixC pm5 wm5 all.top)] w fun e w' => e = .returned (.bool (holdsL g rest all)) ∧ Below w.heap.size w w' := by
  obtain ⟨pm, wm, hi, hmi⟩ := h.lx.ix
  obtain ⟨K, hK⟩ : ∃ K, g.x.puts.length = K := ⟨_, rfl⟩
  obtain ⟨ks, hks⟩ : ∃ ks, srtI (g.x.puts.map Prod.fst) = ks := ⟨_, rfl⟩
  obtain ⟨K2, hK2⟩ : ∃ K, rest.puts.length = K := ⟨_, rfl⟩
  obtain ⟨ks2, hks2⟩ : ∃ ks, srtI (rest.puts.map Prod.fst) = ks := ⟨_, rfl⟩
  obtain ⟨K3, hK3⟩ : ∃ K, all.waits.length = K := ⟨_, rfl⟩
  obtain ⟨hs, hhs⟩ : ∃ hs, srtS (all.waits.map Prod.fst) = hs := ⟨_, rfl⟩
  obtain ⟨F, hF⟩ : ∃ F, holdsL g rest all = F := ⟨_, rfl⟩
  have hKn : K ≤ 900000 := hK ▸ hf.1
  have hK2n : K2 ≤ 900000 := hK2 ▸ h4.few.1
  have hK3n : K3 ≤ 900000 := hK3 ▸ h5.few.2
  have HKO := Lib.hid (hks ▸ h.keys_ok)
  have HKO2 : Hid (∀ id ∈ ks2, okI id) := Lib.hid (fun id hid => by
    rw [← hks2] at hid
    obtain ⟨p, hp, rfl⟩ := List.mem_map.1 (srtI_mem.1 hid)
    exact h4.puts.kk p hp)
  have HHO : Hid (∀ s ∈ hs, okS s) := Lib.hid (fun s hs2 => by
    rw [← hhs] at hs2
    obtain ⟨p, hp, rfl⟩ := List.mem_map.1 (srtS_mem.1 hs2)
    exact h5.waits.kk p hp)
  have HKL : Hid (ks.length = K) := Lib.hid (by rw [← hks, srtI_len, List.length_map, hK])
  have HKL2 : Hid (ks2.length = K2) := Lib.hid (by rw [← hks2, srtI_len, List.length_map, hK2])
  have HHL : Hid (hs.length = K3) := Lib.hid (by rw [← hhs, srtS_len, List.length_map, hK3])
  have HF : Hid (F = (ks.all (hP1 g rest) && (ks2.all (hP2 all) && (hs.all (hP3 rest all) && decide (rest.top = all.top))))) := Lib.hid (by rw [← hF, ← hks, ← hks2, ← hhs]; rfl)
  rw [hF]
  have G := Lib.hid h
  have HI := Lib.hid hi
  have V4 := Lib.hid h4
  have V5 := Lib.hid h5
  have KP := Lib.hid (fun (W : World) (hW : Below w.heap.size w W) => keysP_at (hi.later hW).puts K hK (by omega))
  have KP2 := Lib.hid (fun (W : World) (hW : Below w.heap.size w W) => keysP_at (h4.puts.later hW) K2 hK2 (by omega))
  have KW := Lib.hid (fun (W : World) (hW : Below w.heap.size w W) => keysW_at (h5.waits.later2 hW) K3 hK3 (by omega))
  rw [hks] at KP
  rw [hks2] at KP2
  rw [hhs] at KW
  have mixed : Tryz.prog.follows .mixedOrders = true := by kernel_rfl
  unfold ixC
  clear hks hK hks2 hK2 hhs hK3 hF hi hmi h hf h4 h5
  go_enter Tryz.func66, Tryz.ntmps66
  go_upto_region 1 with fail
  refine code_forget (fun W => Hid (Box W w.heap.size #[.map (some pm4), .map wm4, .int .i64 rest.top] 61) ∧ Hid (Box W (w.heap.size + 1) #[.map (some pm5), .map wm5, .int .i64 all.top] 61) ∧ Hid (Below w.heap.size w W)) ⟨Lib.hid ((Box.new w _ _).alloc _), Lib.hid (by have h9 := Box.new (w.alloc (.cells #[.map (some pm4), .map wm4, .int .i64 rest.top] 61)) #[.map (some pm5), .map wm5, .int .i64 all.top] 61; rw [World.size_alloc] at h9; exact h9), Lib.hid (((Below.refl w.heap.size w).alloc (Nat.le_refl _) _).alloc (by simp) _)⟩ ?_
  obtain ⟨b4, hb4⟩ : ∃ p, w.heap.size = p := ⟨_, rfl⟩
  have HB4 := Lib.hid hb4
  obtain ⟨b5, hb5⟩ : ∃ p, w.heap.size + 1 = p := ⟨_, rfl⟩
  rw [hb5, hb4]
  rintro w1 ⟨X4, X5, B1⟩
  rw [← HB4.out] at B1
  obtain ⟨cs4, hcs4⟩ : ∃ c, (#[.map (some pm4), .map wm4, .int .i64 rest.top] : Array Value) = c := ⟨_, rfl⟩
  obtain ⟨cs5, hcs5⟩ : ∃ c, (#[.map (some pm5), .map wm5, .int .i64 all.top] : Array Value) = c := ⟨_, rfl⟩
  have C4 : Hid (cs4[0]? = some (.map (some pm4)) ∧ cs4[1]? = some (.map wm4) ∧ cs4[2]? = some (.int .i64 rest.top)) := Lib.hid (by rw [← hcs4]; exact ⟨rfl, rfl, rfl⟩)
  have C5 : Hid (cs5[0]? = some (.map (some pm5)) ∧ cs5[1]? = some (.map wm5) ∧ cs5[2]? = some (.int .i64 all.top)) := Lib.hid (by rw [← hcs5]; exact ⟨rfl, rfl, rfl⟩)
  rw [hcs4] at X4
  rw [hcs5] at X5
  clear hb4 hb5 hcs4 hcs5
  have l2 : w1.cell? ⟨L, 2, none⟩ = some (.map (some pm)) := (HI.out.later B1.out).box.cell 2
  have KP1 := Lib.hid (KP.out w1 B1.out)
  clear KP
  go_wp2_with fail
  refine KP1.out.mono ?_
  rintro e w2 ⟨ka, kc, rfl, ho, hb⟩
  have ST : Hid (HlS w RD RL d L g b4 b5 cs4 cs5 ka K kc ks w2 ∧ (ks.take 0).all (hP1 g rest) = true) := Lib.hid ⟨⟨G.out.later (B1.out.trans (hb.mono B1.out.size)), X4.out.later hb, X5.out.later hb, ho.mono B1.out.size, B1.out.trans (hb.mono B1.out.size)⟩, rfl⟩
  clear KP1 ho hb l2 X4 X5
  go_wp2_with fail
  go_loopw [28] (fun vi wr => ∃ (k : Nat), vi = .int .i64 (k : Int) ∧ k ≤ K ∧ Hid (HlS w RD RL d L g b4 b5 cs4 cs5 ka K kc ks wr ∧ (ks.take k).all (hP1 g rest) = true)) (fun vi _ => K - (intV vi).toNat)
  case atStart => exact ⟨0, rfl, Nat.zero_le _, ST⟩
  case round =>
    clear ST
    obtain ⟨k, rfl, hk, HS⟩ := hrel
    by_cases hkK : k < K
    · have d1 : decide ((k : Int) < (K : Int)) = true := decide_eq_true (by omega)
      have d1n : decide (k < K) = true := decide_eq_true hkK
      obtain ⟨id, hid⟩ : ∃ id, ks[k]? = some id := ⟨_, List.getElem?_eq_getElem (by rw [HKL.out]; exact hkK)⟩
      have hok := HKO.out id (List.mem_of_getElem? hid)
      obtain ⟨g9, hg9, _, _⟩ := HS.out.1.kown.some_ (by omega)
      have HSK := Lib.hid HS.out
      subst hg9
      have ck := HSK.out.1.kown.cell (j := k) (u := .int .i64 id) (by unfold inL; rw [List.getElem?_map, hid]; rfl)
      have ik0 : (0 : Int) ≤ (k : Int) := by omega
      obtain ⟨q1, hq1⟩ : ∃ q, (gA rest.puts id).isSome = q := ⟨_, rfl⟩
      obtain ⟨P, hP⟩ : ∃ P, atI rest id = P := ⟨_, rfl⟩
      have hPk : PlOk P := hP ▸ atI_ok V4.out.ok id
      have lk : (Instr.lookup 58 (.map (some pm4)) (.int .i64 id) true).run Tryz.prog wr = .ok (.tuple #[plV P, .bool q1]) wr := by
        rw [(V4.out.puts.later HSK.out.1.bel).look_ok tyP id hok, getD_map, hq1, ← hP]
        rfl
      have x40 : wr.cell? ⟨b4, 0, none⟩ = some (.map (some pm4)) := (HSK.out.1.x4.cell 0).trans C4.out.1
      obtain ⟨o, ho⟩ : ∃ o, loadL g id = o := ⟨_, rfl⟩
      obtain ⟨y, hy⟩ : ∃ y, rdL g.D.S P = y := ⟨_, rfl⟩
      obtain ⟨nq, hnq⟩ : ∃ q, sameQ y o = q := ⟨_, rfl⟩
      have NOK : Hid (nq = false → F = false) := Lib.hid (fun e => by
        rw [HF.out, all_no hid (show hP1 g rest id = false by unfold hP1; rw [hP, hy, ho, hnq, e]; simp)]
        rfl)
      have NO1 : Hid (q1 = false → F = false) := Lib.hid (fun e => by
        rw [HF.out, all_no hid (show hP1 g rest id = false by unfold hP1; rw [hq1, e]; rfl)]
        rfl)
      have YOK : Hid (q1 = true → nq = true → (ks.take (k + 1)).all (hP1 g rest) = true) := Lib.hid (fun e1 e2 => all_yes hid HSK.out.2 (by unfold hP1; rw [hP, hy, ho, hq1, e1, hnq, e2]; rfl))
      have RDA := Lib.hid (fun (W : World) (hW : DkM W RD d g.D) => ksread_at hW P hPk)
      have LDA := Lib.hid (fun (W : World) (hW : LgM W RD RL d L g) => load_at hW id hok)
      rw [hy] at RDA
      rw [ho] at LDA
      have NEQ : Hid (sqB (y.getD rc0) (o.getD rc0) = nq) := Lib.hid (by rw [sqB_same, hnq])
      obtain ⟨X, hX⟩ : ∃ X, o.getD rc0 = X := ⟨_, rfl⟩
      obtain ⟨Y, hY⟩ : ∃ Y, y.getD rc0 = Y := ⟨_, rfl⟩
      rw [hX] at LDA NEQ
      rw [hY] at RDA NEQ
      obtain ⟨p1, p2, p3⟩ := P
      unfold plV plC at lk
      dsimp only at lk
      clear hid hok hq1 hP hPk ho hy hnq hX hY HS
      cases q1 with
      | false =>
        have FF : Hid (F = false) := Lib.hid (NO1.out rfl)
        have BZ := Lib.hid (HSK.out.1.bel.alloc HSK.out.1.bel.size (.cells #[.int .i64 p1, .int .i64 p2, .int .i64 p3] 81))
        clear NO1 YOK NOK HSK
        go_wp2_with fail
        go_ret
        exact ⟨by rw [FF.out]; rfl, BZ.out⟩
      | true =>
        have YOK2 : Hid (nq = true → (ks.take (k + 1)).all (hP1 g rest) = true) := Lib.hid (fun e => YOK.out rfl e)
        clear YOK NO1
        have YOK := YOK2
        clear YOK2
        go_upto_region 7 with fail
        refine code_forget (fun W => Hid (HlS w RD RL d L g b4 b5 cs4 cs5 (some ⟨g9, 0, none⟩) K kc ks W) ∧ Hid (Box W wr.heap.size #[.int .i64 p1, .int .i64 p2, .int .i64 p3] 81)) ⟨Lib.hid (HSK.out.1.later ((Below.refl _ _).alloc (Nat.le_refl _) _)), Lib.hid (Box.new _ _ _)⟩ ?_
        obtain ⟨pb, hpb⟩ : ∃ p, wr.heap.size = p := ⟨_, rfl⟩
        rw [hpb]
        clear HSK hpb ck lk x40
        rintro w3 ⟨HS3, BP3⟩
        have LD3 := Lib.hid (LDA.out w3 HS3.out.lg)
        clear LDA
        go_wp2_with fail
        refine LD3.out.mono ?_
        rintro e w3b ⟨rfl, hb⟩
        have HS3b := Lib.hid (HS3.out.later hb)
        have BP3b := Lib.hid (BP3.out.later hb)
        clear hb LD3 HS3 BP3
        unfold reqL
        go_upto_region 8 with fail
        refine code_forget (fun W => Hid (HlS w RD RL d L g b4 b5 cs4 cs5 (some ⟨g9, 0, none⟩) K kc ks W) ∧ Hid (Box W pb #[.int .i64 p1, .int .i64 p2, .int .i64 p3] 81) ∧ Hid (Box W w3b.heap.size (reqL X).toArray 35)) ⟨Lib.hid (HS3b.out.later ((Below.refl _ _).alloc (Nat.le_refl _) _)), Lib.hid (BP3b.out.alloc _), Lib.hid (Box.new _ _ _)⟩ ?_
        obtain ⟨qb, hqb⟩ : ∃ p, w3b.heap.size = p := ⟨_, rfl⟩
        rw [hqb]
        clear HS3b BP3b hqb
        rintro w4 ⟨HS4, BP4, BQ4⟩
        have DK4 : Hid (DkM w4.drew RD d g.D) := Lib.hid HS4.out.lg.dk.drew_
        have LC4 : Hid (w4.drew.cell? ⟨L, 0, none⟩ = some (.pointer (some ⟨d, 0, none⟩))) := Lib.hid HS4.out.lg.disk_cell
        refine wp_region_last 11 (fun w' => DkM w' RD d g.D ∧ w'.cell? ⟨L, 0, none⟩ = some (.pointer (some ⟨d, 0, none⟩)) ∧ Box w' pb #[.int .i64 p1, .int .i64 p2, .int .i64 p3] 81 ∧ Box w' qb (reqL X).toArray 35 ∧ HlS w RD RL d L g b4 b5 cs4 cs5 (some ⟨g9, 0, none⟩) K kc ks w') (by kernel_rfl) (⟨DK4.out, LC4.out, BP4.out.drew, BQ4.out.drew, HS4.out.later (Below.refl _ _).drew⟩) (fun hHeld hClosed => ?_)
        refine wtk (i := 0) (v := ?_) rfl hClosed (Or.inl ⟨by rfl, ?_⟩) hHeld (fun hClosed => ?_)
        rotate_left
        · intro wv hSw; go_simp; all_goals (with_reducible rfl)
        (try simp only [List.getElem_toArray, List.getElem_cons_zero, put_at, List.set])
        refine wtk (i := 1) (v := ?_) rfl hClosed (Or.inl ⟨by rfl, ?_⟩) hHeld (fun hClosed => ?_)
        rotate_left
        · intro wv hSw; go_simp; all_goals (with_reducible rfl)
        (try simp only [List.getElem_toArray, List.getElem_cons_succ, List.getElem_cons_zero, put_at, List.set])
        refine wtk (i := 2) (v := ?_) rfl hClosed (Or.inl ⟨by rfl, ?_⟩) hHeld (fun hClosed => ?_)
        rotate_left
        · intro wv hSw; go_simp; all_goals (with_reducible rfl)
        (try simp only [List.getElem_toArray, List.getElem_cons_succ, List.getElem_cons_zero, put_at, List.set])
        refine wtk (i := 3) (v := ?_) rfl hClosed (Or.inl ⟨by rfl, ?_⟩) hHeld (fun hClosed => ?_)
        rotate_left
        · intro wv hSw; have l09 := hSw.2.1; go_simp; all_goals (with_reducible rfl)
        (try simp only [List.getElem_toArray, List.getElem_cons_succ, List.getElem_cons_zero, put_at, List.set])
        refine wtk (i := 4) (v := (plV ⟨p1, p2, p3⟩)) rfl hClosed (Or.inl ⟨by rfl, ?_⟩) hHeld (fun hClosed => ?_)
        · intro wv hSw; exact exec_load_box (by rfl) (by rfl) hSw.2.2.1 Tryz.underlying81 rfl (by kernel_rfl)
        (try simp only [List.getElem_toArray, List.getElem_cons_succ, List.getElem_cons_zero, put_at, List.set])
        refine wpAnyL_two (i := 5) (j := 9) rfl rfl (by kernel_rfl) (by kernel_rfl) (by kernel_rfl) hClosed (fun KK hK => ?_) (fun KK hK => ?_)
        · go_simp
          refine (RDA.out _ hHeld.1).mono ?_
          rintro e wx ⟨rfl, hwx⟩
          go_wp2_with fail
          refine hK.out _ _ ?_ (fun hClosed hHeld => ?_)
          · exact ⟨hHeld.1.later hwx, (cell_blk (hwx.block _ hHeld.2.2.2.2.lg.log_lt) 0).trans hHeld.2.1, hHeld.2.2.1.later hwx, hHeld.2.2.2.1.later hwx, hHeld.2.2.2.2.later hwx⟩
          clear hK KK
          (first | simp only [List.getElem_toArray, List.getElem_cons_succ, List.getElem_cons_zero, put_at, List.set] | (try simp only [put_at, List.set]))
          refine wtk (i := 6) (v := ?_) rfl hClosed (Or.inl ⟨by rfl, ?_⟩) hHeld (fun hClosed => ?_)
          rotate_left
          · intro wv hSw; go_simp; all_goals (with_reducible rfl)
          (try simp only [List.getElem_toArray, List.getElem_cons_succ, List.getElem_cons_zero, put_at, List.set])
          refine wtk (i := 7) (v := ?_) rfl hClosed (Or.inl ⟨by rfl, ?_⟩) hHeld (fun hClosed => ?_)
          rotate_left
          · intro wv hSw; go_simp; all_goals (with_reducible rfl)
          (try simp only [List.getElem_toArray, List.getElem_cons_succ, List.getElem_cons_zero, put_at, List.set])
          refine wtk (i := 8) (v := ?_) rfl hClosed (Or.inl ⟨by rfl, ?_⟩) hHeld (fun hClosed => ?_)
          rotate_left
          · intro wv hSw; go_simp; all_goals (with_reducible rfl)
          (try simp only [List.getElem_toArray, List.getElem_cons_succ, List.getElem_cons_zero, put_at, List.set])
          refine wpAnyL_one (i := 9) rfl (by kernel_rfl) (by kernel_rfl) hClosed (fun KK hK => ?_)
          go_simp
          refine hK.out _ _ ?_ (fun hClosed hHeld => ?_)
          · exact ⟨hHeld.1.later ((Below.refl _ _).alloc (Nat.le_refl _) _), (cell_blk (((Below.refl _ _).alloc (Nat.le_refl _) _).block _ hHeld.2.2.2.2.lg.log_lt) 0).trans hHeld.2.1, hHeld.2.2.1.alloc _, hHeld.2.2.2.1.alloc _, hHeld.2.2.2.2.later ((Below.refl _ _).alloc (Nat.le_refl _) _)⟩
          clear hK KK
          (first | simp only [List.getElem_toArray, List.getElem_cons_succ, List.getElem_cons_zero, put_at, List.set] | (try simp only [put_at, List.set]))
          refine wpAnyL_one (i := 10) rfl (by kernel_rfl) (by kernel_rfl) hClosed (fun KK hK => ?_)
          have hbz : Box (wx.alloc (.cells #[.int .i64 0, .string ⟨#[]⟩, .string ⟨#[]⟩, .int .i64 0, .int .i64 0] 35)) wx.heap.size #[.int .i64 0, .string ⟨#[]⟩, .string ⟨#[]⟩, .int .i64 0, .int .i64 0] 35 := Box.new _ _ _
          have hb9 : Below w4.drew.heap.size w4.drew ((wx.alloc (.cells #[.int .i64 0, .string ⟨#[]⟩, .string ⟨#[]⟩, .int .i64 0, .int .i64 0] 35)).setRow wx.heap.size (reqL Y).toArray) := below_row (hwx.alloc hwx.size _) hwx.size _
          refine step_store_row rfl rfl rfl rfl hbz rfl (by kernel_rfl) (by simp [reqL, Value.oneCell']) ?_
          refine hK.out _ _ ?_ (fun hClosed hHeld => ?_)
          · exact ⟨DK4.out.later hb9, (cell_blk (hb9.block _ HS4.out.lg.log_lt) 0).trans LC4.out, BP4.out.drew.later hb9, BQ4.out.drew.later hb9, (HS4.out.later (Below.refl _ _).drew).later hb9⟩
          clear hK KK
          (first | simp only [List.getElem_toArray, List.getElem_cons_succ, List.getElem_cons_zero, put_at, List.set] | (try simp only [put_at, List.set]))
          have hz9 := hbz.setRow (reqL Y).toArray
          obtain ⟨zb, hzb⟩ : ∃ z, wx.heap.size = z := ⟨_, rfl⟩
          rw [hzb] at hz9 hHeld ⊢
          refine last_forget (fun W => Hid (HlS w RD RL d L g b4 b5 cs4 cs5 (some ⟨g9, 0, none⟩) K kc ks W) ∧ Hid (Box W qb (reqL X).toArray 35) ∧ Hid (Box W zb (reqL Y).toArray 35)) ⟨Lib.hid hHeld.2.2.2.2, Lib.hid hHeld.2.2.2.1, Lib.hid hz9⟩ ?_
          clear hHeld hz9 hbz hb9 hzb
          rintro w9 ⟨HS9, BQ9, BZ9⟩
          refine wpAnyL_last rfl (by kernel_rfl) (by kernel_rfl) (fun KK hK => ?_)
          go_simp
          refine hK.out _ _ ?_
          (try simp only [put_at, List.set])
          have q0 : w9.cell? ⟨qb, 0, none⟩ = some (.int .i64 X.id) := BQ9.out.cell 0
          have q1 : w9.cell? ⟨qb, 1, none⟩ = some (.string X.host) := BQ9.out.cell 1
          have q2 : w9.cell? ⟨qb, 2, none⟩ = some (.string X.path) := BQ9.out.cell 2
          have q3 : w9.cell? ⟨qb, 3, none⟩ = some (.int .i64 X.prio) := BQ9.out.cell 3
          have q4 : w9.cell? ⟨qb, 4, none⟩ = some (.int .i64 X.till) := BQ9.out.cell 4
          have z0 : w9.cell? ⟨zb, 0, none⟩ = some (.int .i64 Y.id) := BZ9.out.cell 0
          have z1 : w9.cell? ⟨zb, 1, none⟩ = some (.string Y.host) := BZ9.out.cell 1
          have z2 : w9.cell? ⟨zb, 2, none⟩ = some (.string Y.path) := BZ9.out.cell 2
          have z3 : w9.cell? ⟨zb, 3, none⟩ = some (.int .i64 Y.prio) := BZ9.out.cell 3
          have z4 : w9.cell? ⟨zb, 4, none⟩ = some (.int .i64 Y.till) := BZ9.out.cell 4
          clear BQ9 BZ9 hClosed
          cases nq with
          | false =>
            have FF : Hid (F = false) := Lib.hid (NOK.out rfl)
            rcases sqB_no NEQ.out with h0 | ⟨h0, h1 | ⟨h1, h2 | ⟨h2, h3 | ⟨h3, h4⟩⟩⟩⟩
            all_goals
              go_wp2_with fail
              go_ret
              exact ⟨by rw [FF.out]; rfl, HS9.out.bel⟩
          | true =>
            have NX : Hid (HlS w RD RL d L g b4 b5 cs4 cs5 (some ⟨g9, 0, none⟩) K kc ks w9 ∧ (ks.take (k + 1)).all (hP1 g rest) = true) := Lib.hid ⟨HS9.out, YOK.out rfl⟩
            obtain ⟨h0, h1, h2, h3, h4⟩ := sqB_yes NEQ.out
            clear NOK YOK HS9
            go_wp2_with fail
            go_roundw
            case rel => exact ⟨k + 1, by go_num, by omega, NX⟩
            case measure => simp [intV]; omega
        · go_simp
          refine hK.out _ _ ?_ (fun hClosed hHeld => ?_)
          · exact ⟨hHeld.1.later ((Below.refl _ _).alloc (Nat.le_refl _) _), (cell_blk (((Below.refl _ _).alloc (Nat.le_refl _) _).block _ hHeld.2.2.2.2.lg.log_lt) 0).trans hHeld.2.1, hHeld.2.2.1.alloc _, hHeld.2.2.2.1.alloc _, hHeld.2.2.2.2.later ((Below.refl _ _).alloc (Nat.le_refl _) _)⟩
          clear hK KK
          (first | simp only [List.getElem_toArray, List.getElem_cons_succ, List.getElem_cons_zero, put_at, List.set] | (try simp only [put_at, List.set]))
          refine wpAnyL_one (i := 5) rfl (by kernel_rfl) (by kernel_rfl) hClosed (fun KK hK => ?_)
          go_simp
          refine (RDA.out _ hHeld.1).mono ?_
          rintro e wx ⟨rfl, hwx⟩
          go_wp2_with fail
          refine hK.out _ _ ?_ (fun hClosed hHeld => ?_)
          · exact ⟨hHeld.1.later hwx, (cell_blk (hwx.block _ hHeld.2.2.2.2.lg.log_lt) 0).trans hHeld.2.1, hHeld.2.2.1.later hwx, hHeld.2.2.2.1.later hwx, hHeld.2.2.2.2.later hwx⟩
          clear hK KK
          (first | simp only [List.getElem_toArray, List.getElem_cons_succ, List.getElem_cons_zero, put_at, List.set] | (try simp only [put_at, List.set]))
          refine wtk (i := 6) (v := ?_) rfl hClosed (Or.inl ⟨by rfl, ?_⟩) hHeld (fun hClosed => ?_)
          rotate_left
          · intro wv hSw; go_simp; all_goals (with_reducible rfl)
          (try simp only [List.getElem_toArray, List.getElem_cons_succ, List.getElem_cons_zero, put_at, List.set])
          refine wtk (i := 7) (v := ?_) rfl hClosed (Or.inl ⟨by rfl, ?_⟩) hHeld (fun hClosed => ?_)
          rotate_left
          · intro wv hSw; go_simp; all_goals (with_reducible rfl)
          (try simp only [List.getElem_toArray, List.getElem_cons_succ, List.getElem_cons_zero, put_at, List.set])
          refine wtk (i := 8) (v := ?_) rfl hClosed (Or.inl ⟨by rfl, ?_⟩) hHeld (fun hClosed => ?_)
          rotate_left
          · intro wv hSw; go_simp; all_goals (with_reducible rfl)
          (try simp only [List.getElem_toArray, List.getElem_cons_succ, List.getElem_cons_zero, put_at, List.set])
          refine wpAnyL_one (i := 10) rfl (by kernel_rfl) (by kernel_rfl) hClosed (fun KK hK => ?_)
          have hbz : Box wx w4.heap.size #[.int .i64 0, .string ⟨#[]⟩, .string ⟨#[]⟩, .int .i64 0, .int .i64 0] 35 := (Box.new w4.drew _ _).later hwx
          have hb9 : Below w4.drew.heap.size w4.drew (wx.setRow w4.heap.size (reqL Y).toArray) := below_row (((Below.refl w4.drew.heap.size w4.drew).alloc (Nat.le_refl _) (.cells #[.int .i64 0, .string ⟨#[]⟩, .string ⟨#[]⟩, .int .i64 0, .int .i64 0] 35)).trans (hwx.mono (by simp))) (Nat.le_refl _) _
          refine step_store_row rfl rfl rfl rfl hbz rfl (by kernel_rfl) (by simp [reqL, Value.oneCell']) ?_
          refine hK.out _ _ ?_ (fun hClosed hHeld => ?_)
          · exact ⟨DK4.out.later hb9, (cell_blk (hb9.block _ HS4.out.lg.log_lt) 0).trans LC4.out, BP4.out.drew.later hb9, BQ4.out.drew.later hb9, (HS4.out.later (Below.refl _ _).drew).later hb9⟩
          clear hK KK
          (first | simp only [List.getElem_toArray, List.getElem_cons_succ, List.getElem_cons_zero, put_at, List.set] | (try simp only [put_at, List.set]))
          have hz9 := hbz.setRow (reqL Y).toArray
          obtain ⟨zb, hzb⟩ : ∃ z, w4.heap.size = z := ⟨_, rfl⟩
          rw [hzb] at hz9 hHeld ⊢
          refine last_forget (fun W => Hid (HlS w RD RL d L g b4 b5 cs4 cs5 (some ⟨g9, 0, none⟩) K kc ks W) ∧ Hid (Box W qb (reqL X).toArray 35) ∧ Hid (Box W zb (reqL Y).toArray 35)) ⟨Lib.hid hHeld.2.2.2.2, Lib.hid hHeld.2.2.2.1, Lib.hid hz9⟩ ?_
          clear hHeld hz9 hbz hb9 hzb
          rintro w9 ⟨HS9, BQ9, BZ9⟩
          refine wpAnyL_last rfl (by kernel_rfl) (by kernel_rfl) (fun KK hK => ?_)
          go_simp
          refine hK.out _ _ ?_
          (try simp only [put_at, List.set])
          have q0 : w9.cell? ⟨qb, 0, none⟩ = some (.int .i64 X.id) := BQ9.out.cell 0
          have q1 : w9.cell? ⟨qb, 1, none⟩ = some (.string X.host) := BQ9.out.cell 1
          have q2 : w9.cell? ⟨qb, 2, none⟩ = some (.string X.path) := BQ9.out.cell 2
          have q3 : w9.cell? ⟨qb, 3, none⟩ = some (.int .i64 X.prio) := BQ9.out.cell 3
          have q4 : w9.cell? ⟨qb, 4, none⟩ = some (.int .i64 X.till) := BQ9.out.cell 4
          have z0 : w9.cell? ⟨zb, 0, none⟩ = some (.int .i64 Y.id) := BZ9.out.cell 0
          have z1 : w9.cell? ⟨zb, 1, none⟩ = some (.string Y.host) := BZ9.out.cell 1
          have z2 : w9.cell? ⟨zb, 2, none⟩ = some (.string Y.path) := BZ9.out.cell 2
          have z3 : w9.cell? ⟨zb, 3, none⟩ = some (.int .i64 Y.prio) := BZ9.out.cell 3
          have z4 : w9.cell? ⟨zb, 4, none⟩ = some (.int .i64 Y.till) := BZ9.out.cell 4
          clear BQ9 BZ9 hClosed
          cases nq with
          | false =>
            have FF : Hid (F = false) := Lib.hid (NOK.out rfl)
            rcases sqB_no NEQ.out with h0 | ⟨h0, h1 | ⟨h1, h2 | ⟨h2, h3 | ⟨h3, h4⟩⟩⟩⟩
            all_goals
              go_wp2_with fail
              go_ret
              exact ⟨by rw [FF.out]; rfl, HS9.out.bel⟩
          | true =>
            have NX : Hid (HlS w RD RL d L g b4 b5 cs4 cs5 (some ⟨g9, 0, none⟩) K kc ks w9 ∧ (ks.take (k + 1)).all (hP1 g rest) = true) := Lib.hid ⟨HS9.out, YOK.out rfl⟩
            obtain ⟨h0, h1, h2, h3, h4⟩ := sqB_yes NEQ.out
            clear NOK YOK HS9
            go_wp2_with fail
            go_roundw
            case rel => exact ⟨k + 1, by go_num, by omega, NX⟩
            case measure => simp [intV]; omega
    · have d1 : decide ((k : Int) < (K : Int)) = false := decide_eq_false (by omega)
      have hkk : k = K := by omega
      subst hkk
      have HF2 : Hid (F = (ks2.all (hP2 all) && (hs.all (hP3 rest all) && decide (rest.top = all.top)))) := Lib.hid (by rw [HF.out, all_all (by rw [HKL.out]; exact Nat.le_refl _) HS.out.2, Bool.true_and])
      have x40 : wr.cell? ⟨b4, 0, none⟩ = some (.map (some pm4)) := (HS.out.1.x4.cell 0).trans C4.out.1
      have XS : Hid (Box wr b4 cs4 61 ∧ Box wr b5 cs5 61 ∧ Below w.heap.size w wr) := Lib.hid ⟨HS.out.1.x4, HS.out.1.x5, HS.out.1.bel⟩
      have KP1 := Lib.hid (KP2.out wr XS.out.2.2)
      clear HS HF KP2 HKL HKO
      go_wp2_with fail
      refine KP1.out.mono ?_
      rintro e w3 ⟨ka2, kc2, rfl, ho, hb⟩
      have ST : Hid ((Box w3 b4 cs4 61 ∧ Box w3 b5 cs5 61 ∧ Below w.heap.size w w3 ∧ Own w3 w.heap.size 3 1 ka2 K2 kc2 (inL ks2)) ∧ (ks2.take 0).all (hP2 all) = true) := Lib.hid ⟨⟨XS.out.1.later hb, XS.out.2.1.later hb, XS.out.2.2.trans (hb.mono XS.out.2.2.size), ho.mono XS.out.2.2.size⟩, rfl⟩
      clear KP1 ho hb x40 XS
      go_wp2_with fail
      go_loopw [64] (fun vi wr => ∃ (k : Nat), vi = .int .i64 (k : Int) ∧ k ≤ K2 ∧ Hid ((Box wr b4 cs4 61 ∧ Box wr b5 cs5 61 ∧ Below w.heap.size w wr ∧ Own wr w.heap.size 3 1 ka2 K2 kc2 (inL ks2)) ∧ (ks2.take k).all (hP2 all) = true)) (fun vi _ => K2 - (intV vi).toNat)
      case atStart => exact ⟨0, rfl, Nat.zero_le _, ST⟩
      case round =>
        clear ST
        obtain ⟨k, rfl, hk, HS⟩ := hrel
        by_cases hkK : k < K2
        · have d1 : decide ((k : Int) < (K2 : Int)) = true := decide_eq_true (by omega)
          have d1n : decide (k < K2) = true := decide_eq_true hkK
          obtain ⟨id, hid⟩ : ∃ id, ks2[k]? = some id := ⟨_, List.getElem?_eq_getElem (by rw [HKL2.out]; exact hkK)⟩
          have hok := HKO2.out id (List.mem_of_getElem? hid)
          obtain ⟨g9, hg9, _, _⟩ := HS.out.1.2.2.2.some_ (by omega)
          have HSK := Lib.hid HS.out
          subst hg9
          have ck := HSK.out.1.2.2.2.cell (j := k) (u := .int .i64 id) (by unfold inL; rw [List.getElem?_map, hid]; rfl)
          have ik0 : (0 : Int) ≤ (k : Int) := by omega
          obtain ⟨q1, hq1⟩ : ∃ q, (gA all.puts id).isSome = q := ⟨_, rfl⟩
          obtain ⟨P, hP⟩ : ∃ P, atI all id = P := ⟨_, rfl⟩
          have lk : (Instr.lookup 58 (.map (some pm5)) (.int .i64 id) true).run Tryz.prog wr = .ok (.tuple #[plV P, .bool q1]) wr := by
            rw [(V5.out.puts.later HSK.out.1.2.2.1).look_ok tyP id hok, getD_map, hq1, ← hP]
            rfl
          have x50 : wr.cell? ⟨b5, 0, none⟩ = some (.map (some pm5)) := (HSK.out.1.2.1.cell 0).trans C5.out.1
          have NO1 : Hid (q1 = false → F = false) := Lib.hid (fun e => by
            rw [HF2.out, all_no hid (show hP2 all id = false by unfold hP2; rw [hq1, e])]
            rfl)
          have YOK : Hid (q1 = true → (ks2.take (k + 1)).all (hP2 all) = true) := Lib.hid (fun e1 => all_yes hid HSK.out.2 (by unfold hP2; rw [hq1, e1]))
          obtain ⟨p1, p2, p3⟩ := P
          unfold plV plC at lk
          dsimp only at lk
          have hal := (Below.refl wr.heap.size wr).alloc (Nat.le_refl _) (.cells #[.int .i64 p1, .int .i64 p2, .int .i64 p3] 81)
          clear hid hok hq1 hP HS
          cases q1 with
          | false =>
            have FF : Hid (F = false) := Lib.hid (NO1.out rfl)
            have BZ := Lib.hid (HSK.out.1.2.2.1.trans (hal.mono HSK.out.1.2.2.1.size))
            clear NO1 YOK HSK hal
            go_wp2_with fail
            go_ret
            exact ⟨by rw [FF.out]; rfl, BZ.out⟩
          | true =>
            have NX : Hid ((Box (wr.alloc (.cells #[.int .i64 p1, .int .i64 p2, .int .i64 p3] 81)) b4 cs4 61 ∧ Box (wr.alloc (.cells #[.int .i64 p1, .int .i64 p2, .int .i64 p3] 81)) b5 cs5 61 ∧ Below w.heap.size w (wr.alloc (.cells #[.int .i64 p1, .int .i64 p2, .int .i64 p3] 81)) ∧ Own (wr.alloc (.cells #[.int .i64 p1, .int .i64 p2, .int .i64 p3] 81)) w.heap.size 3 1 (some ⟨g9, 0, none⟩) K2 kc2 (inL ks2)) ∧ (ks2.take (k + 1)).all (hP2 all) = true) := Lib.hid ⟨⟨HSK.out.1.1.later hal, HSK.out.1.2.1.later hal, HSK.out.1.2.2.1.trans (hal.mono HSK.out.1.2.2.1.size), HSK.out.1.2.2.2.later hal⟩, YOK.out rfl⟩
            clear NO1 YOK HSK hal
            go_wp2_with fail
            go_roundw
            case rel => exact ⟨k + 1, by go_num, by omega, NX⟩
            case measure => simp [intV]; omega
        · have d1 : decide ((k : Int) < (K2 : Int)) = false := decide_eq_false (by omega)
          have hkk : k = K2 := by omega
          subst hkk
          have HF3 : Hid (F = (hs.all (hP3 rest all) && decide (rest.top = all.top))) := Lib.hid (by rw [HF2.out, all_all (by rw [HKL2.out]; exact Nat.le_refl _) HS.out.2, Bool.true_and])
          have x51 : wr.cell? ⟨b5, 1, none⟩ = some (.map wm5) := (HS.out.1.2.1.cell 1).trans C5.out.2.1
          have XS : Hid (Box wr b4 cs4 61 ∧ Box wr b5 cs5 61 ∧ Below w.heap.size w wr) := Lib.hid ⟨HS.out.1.1, HS.out.1.2.1, HS.out.1.2.2.1⟩
          have KW1 := Lib.hid (KW.out wr XS.out.2.2)
          clear HS HF2 KW HKL2 HKO2
          go_wp2_with fail
          refine KW1.out.mono ?_
          rintro e w3 ⟨ka3, kc3, rfl, ho, hb⟩
          have ST : Hid ((Box w3 b4 cs4 61 ∧ Box w3 b5 cs5 61 ∧ Below w.heap.size w w3 ∧ Own w3 w.heap.size 9 1 ka3 K3 kc3 (hs.map Value.string)) ∧ (hs.take 0).all (hP3 rest all) = true) := Lib.hid ⟨⟨XS.out.1.later hb, XS.out.2.1.later hb, XS.out.2.2.trans (hb.mono XS.out.2.2.size), ho.mono XS.out.2.2.size⟩, rfl⟩
          clear KW1 ho hb x51 XS
          go_wp2_with fail
          go_loopw [82] (fun vi wr => ∃ (k : Nat), vi = .int .i64 (k : Int) ∧ k ≤ K3 ∧ Hid ((Box wr b4 cs4 61 ∧ Box wr b5 cs5 61 ∧ Below w.heap.size w wr ∧ Own wr w.heap.size 9 1 ka3 K3 kc3 (hs.map Value.string)) ∧ (hs.take k).all (hP3 rest all) = true)) (fun vi _ => K3 - (intV vi).toNat)
          case atStart => exact ⟨0, rfl, Nat.zero_le _, ST⟩
          case round =>
            clear ST
            obtain ⟨k, rfl, hk, HS⟩ := hrel
            by_cases hkK : k < K3
            · have d1 : decide ((k : Int) < (K3 : Int)) = true := decide_eq_true (by omega)
              have d1n : decide (k < K3) = true := decide_eq_true hkK
              obtain ⟨s, hid⟩ : ∃ id, hs[k]? = some id := ⟨_, List.getElem?_eq_getElem (by rw [HHL.out]; exact hkK)⟩
              have hok := HHO.out s (List.mem_of_getElem? hid)
              obtain ⟨g9, hg9, _, _⟩ := HS.out.1.2.2.2.some_ (by omega)
              have HSK := Lib.hid HS.out
              subst hg9
              have ck := HSK.out.1.2.2.2.cell (j := k) (u := .string s) (by rw [List.getElem?_map, hid]; rfl)
              have ik0 : (0 : Int) ≤ (k : Int) := by omega
              obtain ⟨v4, hv4⟩ : ∃ v, waitI rest s = v := ⟨_, rfl⟩
              obtain ⟨v5, hv5⟩ : ∃ v, waitI all s = v := ⟨_, rfl⟩
              have lk4 : (Instr.lookup 59 (.map wm4) (.string s) false).run Tryz.prog wr = .ok (wtV v4) wr := by rw [(V4.out.waits.later2 HSK.out.1.2.2.1).look s hok, ← hv4]; rfl
              have lk5 : (Instr.lookup 59 (.map wm5) (.string s) false).run Tryz.prog wr = .ok (wtV v5) wr := by rw [(V5.out.waits.later2 HSK.out.1.2.2.1).look s hok, ← hv5]; rfl
              have x41 : wr.cell? ⟨b4, 1, none⟩ = some (.map wm4) := (HSK.out.1.1.cell 1).trans C4.out.2.1
              have x51 : wr.cell? ⟨b5, 1, none⟩ = some (.map wm5) := (HSK.out.1.2.1.cell 1).trans C5.out.2.1
              obtain ⟨a0, a1, a2, a3⟩ := v4
              obtain ⟨c0, c1, c2, c3⟩ := v5
              unfold wtV at lk4 lk5
              dsimp only at lk4 lk5
              have fl4 : ∀ W : World, (Instr.field 142 (.agg #[.int .i64 a0, .int .i64 a1, .int .i64 a2, .int .i64 a3]) 0).run Tryz.prog W = .ok (.int .i64 a0) W := fun W => by kernel_rfl
              have fl5 : ∀ W : World, (Instr.field 142 (.agg #[.int .i64 c0, .int .i64 c1, .int .i64 c2, .int .i64 c3]) 0).run Tryz.prog W = .ok (.int .i64 c0) W := fun W => by kernel_rfl
              by_cases ht : a0 = c0
              · have NX : Hid ((Box wr b4 cs4 61 ∧ Box wr b5 cs5 61 ∧ Below w.heap.size w wr ∧ Own wr w.heap.size 9 1 (some ⟨g9, 0, none⟩) K3 kc3 (hs.map Value.string)) ∧ (hs.take (k + 1)).all (hP3 rest all) = true) := Lib.hid ⟨HSK.out.1, all_yes hid HSK.out.2 (by unfold hP3; rw [hv4, hv5]; exact decide_eq_true ht)⟩
                subst ht
                have de : (a0 != a0) = false := by simp
                clear hid hok hv4 hv5 HS HSK
                go_wp2_with fail
                go_roundw
                case rel => exact ⟨k + 1, by go_num, by omega, NX⟩
                case measure => simp [intV]; omega
              · have FF : Hid (F = false) := Lib.hid (by
                  rw [HF3.out, all_no hid (show hP3 rest all s = false by unfold hP3; rw [hv4, hv5]; exact decide_eq_false ht)]
                  rfl)
                have BZ := Lib.hid HSK.out.1.2.2.1
                have de : (a0 != c0) = true := by simpa using ht
                clear hid hok hv4 hv5 HS HSK
                go_wp2_with fail
                go_ret
                exact ⟨by rw [FF.out]; rfl, BZ.out⟩
            · have d1 : decide ((k : Int) < (K3 : Int)) = false := decide_eq_false (by omega)
              have hkk : k = K3 := by omega
              subst hkk
              have HF4 : Hid (F = decide (rest.top = all.top)) := Lib.hid (by rw [HF3.out, all_all (by rw [HHL.out]; exact Nat.le_refl _) HS.out.2, Bool.true_and])
              have x42 : wr.cell? ⟨b4, 2, none⟩ = some (.int .i64 rest.top) := (HS.out.1.1.cell 2).trans C4.out.2.2
              have x52 : wr.cell? ⟨b5, 2, none⟩ = some (.int .i64 all.top) := (HS.out.1.2.1.cell 2).trans C5.out.2.2
              have BZ := Lib.hid HS.out.1.2.2.1
              obtain ⟨t4, ht4⟩ : ∃ t, rest.top = t := ⟨_, rfl⟩
              obtain ⟨t5, ht5⟩ : ∃ t, all.top = t := ⟨_, rfl⟩
              have HF5 : Hid (F = (t4 == t5)) := Lib.hid (by rw [HF4.out, ht4, ht5, int_eq])
              rw [ht4] at x42
              rw [ht5] at x52
              clear HS HF3 HF4
              go_wp2_with fail
              go_ret
              exact ⟨by rw [HF5.out]; rfl, BZ.out⟩
end Go.Proofs.YtimkgaokcldgkaaGreatDoor
/- Package spill: follow. Written by gen_follow.py. -/
namespace Go.Proofs.YtimkgaokcldgkaaGreatDoor
open Go Go.RowKit Go.Maps Go.Sort
set_option linter.unusedVariables false
set_option linter.unusedSimpArgs false
set_option maxRecDepth 100000

def fpG (rest : Ix) (S : List (Int × Pl)) (l : List Int) : List (Int × Pl) := l.foldl (fun S id => pA S id (atI rest id)) S
def fwS (rest : Ix) (S : List (ByteArray × Wt)) (h : ByteArray) : List (ByteArray × Wt) := if (waitI rest h).till = ((gA S h).getD wt0).till then pA S h (waitI rest h) else S
def fwG (rest : Ix) (S : List (ByteArray × Wt)) (l : List ByteArray) : List (ByteArray × Wt) := l.foldl (fwS rest) S
theorem follow_eq (x rest : Ix) : followX x rest = { x with puts := fpG rest x.puts (srtI (x.puts.map Prod.fst)), waits := fwG rest x.waits (srtS (x.waits.map Prod.fst)) } := rfl
theorem fold_same {κ α : Type} [DecidableEq κ] (f : List (κ × α) → κ → List (κ × α)) (hf : ∀ S h, f S h = S ∨ ∃ v, f S h = pA S h v) :
    ∀ {l : List κ} {S : List (κ × α)}, (∀ k ∈ l, (gA S k).isSome = true) → (l.foldl f S).length = S.length ∧ ∀ k, (gA (l.foldl f S) k).isSome = (gA S k).isSome
  | [], S, _ => ⟨rfl, fun _ => rfl⟩
  | a :: t, S, h => by
    have h1 : (f S a).length = S.length ∧ ∀ k, (gA (f S a) k).isSome = (gA S k).isSome := by
      rcases hf S a with e | ⟨v, e⟩
      · rw [e]; exact ⟨rfl, fun _ => rfl⟩
      · rw [e]
        refine ⟨by rw [len_pA, if_pos (h a List.mem_cons_self)], fun k => ?_⟩
        rw [gA_put]
        split
        · rename_i e2
          rw [e2, h a List.mem_cons_self]; rfl
        · rfl
    have ih := fold_same f hf (l := t) (S := f S a) (fun k hk => by rw [h1.2]; exact h k (List.mem_cons_of_mem _ hk))
    rw [List.foldl_cons]
    exact ⟨ih.1.trans h1.1, fun k => (ih.2 k).trans (h1.2 k)⟩
theorem fpG_same {rest : Ix} {S : List (Int × Pl)} {l : List Int} (h : ∀ k ∈ l, (gA S k).isSome = true) : (fpG rest S l).length = S.length ∧ ∀ k, (gA (fpG rest S l) k).isSome = (gA S k).isSome := fold_same _ (fun S h => Or.inr ⟨_, rfl⟩) h
theorem fwG_same {rest : Ix} {S : List (ByteArray × Wt)} {l : List ByteArray} (h : ∀ k ∈ l, (gA S k).isSome = true) : (fwG rest S l).length = S.length ∧ ∀ k, (gA (fwG rest S l) k).isSome = (gA S k).isSome := fold_same _ (fun S h => by
  unfold fwS
  split
  · exact Or.inr ⟨_, rfl⟩
  · exact Or.inl rfl) h
theorem srtI_some {S : List (Int × Pl)} : ∀ k ∈ srtI (S.map Prod.fst), (gA S k).isSome = true := fun k hk => gA_keys.1 (srtI_mem.1 hk)
theorem srtS_some {S : List (ByteArray × Wt)} : ∀ k ∈ srtS (S.map Prod.fst), (gA S k).isSome = true := fun k hk => gA_keys.1 (srtS_mem.1 hk)
theorem follow_few {x rest : Ix} (h : Few x) : Few (followX x rest) := by
  rw [follow_eq]
  unfold Few
  dsimp only
  rw [(fpG_same srtI_some).1, (fwG_same srtS_some).1]
  exact h
/-- Where each key of some has been told anew. -/
theorem fpG_get {rest : Ix} : ∀ {l : List Int} {S : List (Int × Pl)} (k : Int), gA (fpG rest S l) k = if k ∈ l then some (atI rest k) else gA S k
  | [], S, k => by simp [fpG]
  | a :: t, S, k => by
    show gA (fpG rest (pA S a (atI rest a)) t) k = _
    rw [fpG_get, gA_put]
    by_cases h1 : k ∈ t
    · rw [if_pos h1, if_pos (List.mem_cons_of_mem _ h1)]
    · rw [if_neg h1]
      by_cases h2 : k = a
      · subst h2
        rw [if_pos rfl, if_pos List.mem_cons_self]
      · rw [if_neg h2, if_neg (by simp [h1, h2])]
theorem fwG_get {rest : Ix} : ∀ {l : List ByteArray} {S : List (ByteArray × Wt)} (k : ByteArray), gA (fwG rest S l) k = gA S k ∨ gA (fwG rest S l) k = some (waitI rest k)
  | [], S, k => Or.inl rfl
  | a :: t, S, k => by
    have e : fwG rest S (a :: t) = fwG rest (fwS rest S a) t := rfl
    rw [e]
    rcases fwG_get (rest := rest) (l := t) (S := fwS rest S a) k with h | h
    · rw [h]
      unfold fwS
      split
      · rw [gA_put]
        split
        · rename_i e; rw [e]; exact Or.inr rfl
        · exact Or.inl rfl
      · exact Or.inl rfl
    · exact Or.inr h
theorem waitI_ok {x : Ix} (h : IxOk x) (s : ByteArray) : PlOk (waitI x s).at_ ∧ 0 ≤ (waitI x s).till ∧ (waitI x s).till ≤ 9223372036854775807 := by
  unfold waitI
  cases hg : gA x.waits s with
  | none => exact ⟨plOk_zero, by decide, by decide⟩
  | some v => exact ⟨(h.waits s v hg).1, (h.waits s v hg).2.1, (h.waits s v hg).2.2.1⟩
theorem follow_ok {x rest : Ix} (h : IxOk x) (h4 : IxOk rest) : IxOk (followX x rest) := by
  rw [follow_eq]
  refine ⟨fun id p hp => ?_, fun s v hv => ?_, h.top0, h.top1⟩
  · have hs : (gA x.puts id).isSome = true := by
      rw [← (fpG_same (rest := rest) srtI_some).2 id]
      dsimp only at hp
      rw [hp]; rfl
    obtain ⟨q, hq⟩ := Option.isSome_iff_exists.1 hs
    dsimp only at hp
    rw [fpG_get] at hp
    split at hp
    · rw [← Option.some.inj hp]
      exact ⟨atI_ok h4 id, (h.puts id q hq).2⟩
    · rw [hq] at hp
      rw [← Option.some.inj hp]
      exact h.puts id q hq
  · dsimp only at hv
    have hs : (gA x.waits s).isSome = true := by
      rw [← (fwG_same (rest := rest) srtS_some).2 s, hv]; rfl
    obtain ⟨q, hq⟩ := Option.isSome_iff_exists.1 hs
    have k9 := h.waits s q hq
    rcases fwG_get (rest := rest) (l := srtS (x.waits.map Prod.fst)) (S := x.waits) s with e | e
    · rw [e, hq] at hv
      rw [← Option.some.inj hv]
      exact k9
    · rw [e] at hv
      rw [← Option.some.inj hv]
      obtain ⟨k1, k2, k3⟩ := waitI_ok h4 s
      exact ⟨k1, k2, k3, k9.2.2.2⟩
theorem IxM.turnedW {w w' : World} {B b o : Nat} {cs : Array Value} {t : TypeId} {pm m : Nat} {x : Ix} (h : IxM w B b o cs t pm (some m) x) (ht : w.mapTurned w' m) {S : List (ByteArray × Wt)} (hS : WtM1 w' m S) : IxM w' B b o cs t pm (some m) { x with waits := S } := by
  have hm : WtM1 w m x.waits := by
    rcases h.waits with ⟨e, _⟩ | ⟨m2, e, hm⟩
    · cases e
    · cases e; exact hm
  exact ⟨(turned_block ht h.box.lt (fun e => am_not_box hm h.box e.symm)).trans h.box, h.c0, h.c1, h.c2, h.puts.block (turned_block ht h.puts.lt (fun e => h.apart (by rw [e]))), Or.inr ⟨m, rfl, hS⟩, h.apart, h.bB, h.pB, h.wB⟩
structure FlS (w : World) (L d : Nat) (g : Lg) (pm : Nat) (wm : Option Nat) (rest : Ix) (pm4 : Nat) (wm4 : Option Nat) (b3 : Nat) (E : TypeId) (ka : Option Addr) (K kc : Nat) (xs : List Value) (x : Ix) (wr : World) : Prop where
  ix : IxM wr 0 L 2 (logC d g.n pm wm g.x.top) 66 pm wm x
  rp : PtM wr pm4 rest.puts
  rw_ : WtM wr wm4 rest.waits
  x3 : Box wr b3 (ixC pm4 wm4 rest.top) 61
  only : Only (MineI L pm wm) w wr
  kown : Own wr w.heap.size E 1 ka K kc xs
theorem FlS.later {w : World} {L d : Nat} {g : Lg} {pm : Nat} {wm : Option Nat} {rest : Ix} {pm4 : Nat} {wm4 : Option Nat} {b3 : Nat} {E : TypeId} {ka : Option Addr} {K kc : Nat} {xs : List Value} {x : Ix} {wr w' : World} (h : FlS w L d g pm wm rest pm4 wm4 b3 E ka K kc xs x wr) (hb : Below wr.heap.size wr w') : FlS w L d g pm wm rest pm4 wm4 b3 E ka K kc xs x w' :=
  ⟨h.ix.later hb, h.rp.later hb, h.rw_.later2 hb, h.x3.later hb, h.only.later hb, h.kown.later hb⟩
/-- A map of the log's is changed. -/
theorem FlS.turn {w : World} {L d : Nat} {g : Lg} {pm : Nat} {wm : Option Nat} {rest : Ix} {pm4 : Nat} {wm4 : Option Nat} {b3 : Nat} {E : TypeId} {ka : Option Addr} {K kc : Nat} {xs : List Value} {x x' : Ix} {wr w' : World} (h : FlS w L d g pm wm rest pm4 wm4 b3 E ka K kc xs x wr) (a1 : ¬ MineI L pm wm pm4) (a2 : ∀ m, wm4 = some m → ¬ MineI L pm wm m) (a3 : w.heap.size ≤ b3)
    (hl : ∀ k, MineI L pm wm k → k < w.heap.size) {m : Nat} (hm : MineI L pm wm m) (ht : wr.mapTurned w' m) (hx : IxM w' 0 L 2 (logC d g.n pm wm g.x.top) 66 pm wm x') : FlS w L d g pm wm rest pm4 wm4 b3 E ka K kc xs x' w' := by
  have hml := hl m hm
  refine ⟨hx, h.rp.block (turned_block ht h.rp.lt (fun e => a1 (e ▸ hm))), h.rw_.later (fun k hk => turned_block ht ?_ (fun e => a2 k hk (e ▸ hm))), (turned_block ht h.x3.lt (by omega)).trans h.x3, h.only.trans (Only.of_grown (R := fun k => k = m) ht.grown (fun k e => (Option.some.inj e).symm)) (fun k hk => Or.inl (hk ▸ hm)), h.kown.blocks (fun g9 hg => turned_block ht (by rw [hg] at h; exact h.kown.lt.2) (by rw [hg] at h; have := h.kown.lt.1; omega))⟩
  rcases h.rw_ with ⟨e, _⟩ | ⟨m2, e, hm2⟩
  · rw [e] at hk; cases hk
  · rw [e] at hk; cases hk; exact hm2.lt
/-- Own cells in place of other own ones. -/
theorem FlS.key {w : World} {L d : Nat} {g : Lg} {pm : Nat} {wm : Option Nat} {rest : Ix} {pm4 : Nat} {wm4 : Option Nat} {b3 : Nat} {E E2 : TypeId} {ka ka2 : Option Addr} {K kc K2 kc2 : Nat} {xs xs2 : List Value} {x : Ix} {wr : World} (h : FlS w L d g pm wm rest pm4 wm4 b3 E ka K kc xs x wr) (hk : Own wr w.heap.size E2 1 ka2 K2 kc2 xs2) : FlS w L d g pm wm rest pm4 wm4 b3 E2 ka2 K2 kc2 xs2 x wr := ⟨h.ix, h.rp, h.rw_, h.x3, h.only, hk⟩
set_option maxHeartbeats 8000000 in
theorem follow_at {w : World} {RD RL : Nat → Prop} {d L : Nat} {g : Lg} (h : LgM w RD RL d L g) (hf : Few g.x) {pm4 : Nat} {wm4 : Option Nat} {rest : Ix} (h4 : IvM w pm4 wm4 rest) (n1 : ¬ RL pm4) (n2 : ∀ m, wm4 = some m → ¬ RL m) :
    Calls Tryz.prog 67 #[.pointer (some ⟨L, 0, none⟩), .agg (ixC pm4 wm4 rest.top)] w fun e w' => e = .returned (.tuple #[]) ∧ AftL RD RL d L w ⟨g.D, g.n, followX g.x rest⟩ w' := by
  obtain ⟨pm, wm, hi, hmi⟩ := h.lx.ix
  have A1 : Hid (¬ MineI L pm wm pm4) := Lib.hid (fun e => n1 (hmi _ e))
  have A2 : Hid (∀ m, wm4 = some m → ¬ MineI L pm wm m) := Lib.hid (fun m hm e => n2 m hm (hmi _ e))
  have HL : Hid (∀ k, MineI L pm wm k → k < w.heap.size) := Lib.hid (fun k hk => (hi.lt hk).1)
  obtain ⟨K, hK⟩ : ∃ K, g.x.puts.length = K := ⟨_, rfl⟩
  obtain ⟨ks, hks⟩ : ∃ ks, srtI (g.x.puts.map Prod.fst) = ks := ⟨_, rfl⟩
  obtain ⟨K2, hK2⟩ : ∃ K, g.x.waits.length = K := ⟨_, rfl⟩
  obtain ⟨hs, hhs⟩ : ∃ hs, srtS (g.x.waits.map Prod.fst) = hs := ⟨_, rfl⟩
  have hKn : K ≤ 900000 := hK ▸ hf.1
  have hK2n : K2 ≤ 900000 := hK2 ▸ hf.2
  have HKO := Lib.hid (hks ▸ h.keys_ok)
  have HHO := Lib.hid (hhs ▸ h.hosts_ok)
  have HKS : Hid (∀ k ∈ ks, (gA g.x.puts k).isSome = true) := Lib.hid (hks ▸ srtI_some)
  have HHS : Hid (∀ k ∈ hs, (gA g.x.waits k).isSome = true) := Lib.hid (hhs ▸ srtS_some)
  have HKL : Hid (ks.length = K) := Lib.hid (by rw [← hks, srtI_len, List.length_map, hK])
  have HHL : Hid (hs.length = K2) := Lib.hid (by rw [← hhs, srtS_len, List.length_map, hK2])
  have LPn : Hid (g.x.puts.length ≤ 900000) := Lib.hid hf.1
  have LWn : Hid (g.x.waits.length ≤ 900000) := Lib.hid hf.2
  have FIN : Hid (∀ W, IxM W 0 L 2 (logC d g.n pm wm g.x.top) 66 pm wm { g.x with puts := fpG rest g.x.puts ks, waits := fwG rest g.x.waits hs } → Only (MineI L pm wm) w W → AftL RD RL d L w ⟨g.D, g.n, followX g.x rest⟩ W) := Lib.hid (fun W hW hO => by
    rw [← hks, ← hhs, ← follow_eq] at hW
    exact h.index (LxM.turned hi hmi ⟨wm, _, hW, fun _ _ _ => rfl, hO, Or.inl rfl⟩ (follow_ok h.lx.ok h4.ok)))
  obtain ⟨Y, hY⟩ : ∃ Y : Lg, (⟨g.D, g.n, followX g.x rest⟩ : Lg) = Y := ⟨_, rfl⟩
  rw [hY] at FIN ⊢
  have I0 := Lib.hid hi
  have V4 := Lib.hid h4
  have KP := Lib.hid (fun (W : World) (hW : Below w.heap.size w W) => keysP_at (hi.later hW).puts K hK (by omega))
  rw [hks] at KP
  have KW := Lib.hid (fun (W : World) (hW : WtM W wm g.x.waits) => keysW_at hW K2 hK2 (by omega))
  rw [hhs] at KW
  have mixed : Tryz.prog.follows .mixedOrders = true := by kernel_rfl
  clear hks hK hhs hK2 hi hmi h hf h4 hY n1 n2
  unfold ixC
  go_enter Tryz.func67, Tryz.ntmps67
  go_upto_region 1 with fail
  refine code_forget (fun W => Hid (Box W w.heap.size (ixC pm4 wm4 rest.top) 61) ∧ Hid (Below w.heap.size w W)) ⟨Lib.hid (Box.new w _ _), Lib.hid ((Below.refl w.heap.size w).alloc (Nat.le_refl _) _)⟩ ?_
  obtain ⟨b3, hb3⟩ : ∃ p, w.heap.size = p := ⟨_, rfl⟩
  have A3 : Hid (w.heap.size ≤ b3) := Lib.hid (Nat.le_of_eq hb3)
  have A4 := Lib.hid hb3
  rw [hb3]
  rintro w1 ⟨X3, B1⟩
  rw [← A4.out] at B1
  clear hb3 A4
  have l2 : w1.cell? ⟨L, 2, none⟩ = some (.map (some pm)) := (I0.out.later B1.out).box.cell 2
  have KP1 := Lib.hid (KP.out w1 B1.out)
  clear KP
  go_wp2_with fail
  refine KP1.out.mono ?_
  rintro e w2 ⟨ka, kc, rfl, ho, hb⟩
  have hbb := B1.out.trans (hb.mono B1.out.size)
  have ST : Hid (FlS w L d g pm wm rest pm4 wm4 b3 3 ka K kc (inL ks) ({ g.x with puts := fpG rest g.x.puts (ks.take 0) }) w2) := Lib.hid ⟨I0.out.later hbb, V4.out.puts.later hbb, V4.out.waits.later2 hbb, X3.out.later hb, Only.of_below _ hbb, ho.mono B1.out.size⟩
  clear KP1 ho hb hbb l2 X3 I0 B1
  go_wp2_with fail
  go_loopw [16] (fun vi wr => ∃ (k : Nat), vi = .int .i64 (k : Int) ∧ k ≤ K ∧ Hid (FlS w L d g pm wm rest pm4 wm4 b3 3 ka K kc (inL ks) ({ g.x with puts := fpG rest g.x.puts (ks.take k) }) wr)) (fun vi _ => K - (intV vi).toNat)
  case atStart => exact ⟨0, rfl, Nat.zero_le _, ST⟩
  case round =>
    clear ST
    obtain ⟨k, rfl, hk, HS⟩ := hrel
    by_cases hkK : k < K
    · have d1 : decide ((k : Int) < (K : Int)) = true := decide_eq_true (by omega)
      have d1n : decide (k < K) = true := decide_eq_true hkK
      obtain ⟨id, hid⟩ : ∃ id, ks[k]? = some id := ⟨_, List.getElem?_eq_getElem (by rw [HKL.out]; exact hkK)⟩
      have hok := HKO.out id (List.mem_of_getElem? hid)
      obtain ⟨g9, hg9, _, _⟩ := HS.out.kown.some_ (by omega)
      have HSK := Lib.hid HS.out
      subst hg9
      have ck := HSK.out.kown.cell (j := k) (u := .int .i64 id) (by unfold inL; rw [List.getElem?_map, hid]; rfl)
      have ik0 : (0 : Int) ≤ (k : Int) := by omega
      obtain ⟨V, hV⟩ : ∃ V, plV (atI rest id) = V := ⟨_, rfl⟩
      have LK : Hid (∀ W, FlS w L d g pm wm rest pm4 wm4 b3 3 (some ⟨g9, 0, none⟩) K kc (inL ks) ({ g.x with puts := fpG rest g.x.puts (ks.take k) }) W → (Instr.lookup 58 (.map (some pm4)) (.int .i64 id) false).run Tryz.prog W = .ok V W) := Lib.hid (fun W hW => by
        rw [hW.rp.look tyP id hok, getD_map, ← hV]
        rfl)
      have STO : Hid (∀ W, FlS w L d g pm wm rest pm4 wm4 b3 3 (some ⟨g9, 0, none⟩) K kc (inL ks) ({ g.x with puts := fpG rest g.x.puts (ks.take k) }) W → ∃ w5, (Instr.mapUpdate 58 (.map (some pm)) (.int .i64 id) V).run Tryz.prog W = .ok () w5 ∧ PtM w5 pm (fpG rest g.x.puts (ks.take (k + 1))) ∧ W.mapTurned w5 pm) := Lib.hid (fun W hW => by
        have hl : (fpG rest g.x.puts (ks.take k)).length ≤ 100000000 := by
          rw [(fpG_same (fun q hq => HKS.out q (List.mem_of_mem_take hq))).1]
          have := LPn.out
          omega
        have h9 := hW.ix.puts.store tyP id hok (atI rest id) hl
        rw [hV] at h9
        have e9 : pA (fpG rest g.x.puts (ks.take k)) id (atI rest id) = fpG rest g.x.puts (ks.take (k + 1)) := by
          rw [List.take_add_one, hid]
          unfold fpG
          rw [List.foldl_append]
          rfl
        dsimp only at h9
        rw [e9] at h9
        exact h9)
      have HSn : Hid (∀ W w5, FlS w L d g pm wm rest pm4 wm4 b3 3 (some ⟨g9, 0, none⟩) K kc (inL ks) ({ g.x with puts := fpG rest g.x.puts (ks.take k) }) W → PtM w5 pm (fpG rest g.x.puts (ks.take (k + 1))) → W.mapTurned w5 pm → FlS w L d g pm wm rest pm4 wm4 b3 3 (some ⟨g9, 0, none⟩) K kc (inL ks) ({ g.x with puts := fpG rest g.x.puts (ks.take (k + 1)) }) w5) := Lib.hid (fun W w5 hW h1 h2 => hW.turn A1.out A2.out A3.out HL.out (Or.inr (Or.inl rfl)) h2 (hW.ix.turned h2 h1))
      clear hV
      go_upto_region 4 with fail
      refine wp_region_last 10 (fun w' => FlS w L d g pm wm rest pm4 wm4 b3 3 (some ⟨g9, 0, none⟩) K kc (inL ks) ({ g.x with puts := fpG rest g.x.puts (ks.take k) }) w') (by kernel_rfl) (HSK.out.later (Below.refl _ _).drew) (fun hHeld hClosed => ?_)
      refine wtk (i := 0) (v := ?_) rfl hClosed (Or.inl ⟨by rfl, ?_⟩) hHeld (fun hClosed => ?_)
      rotate_left
      · intro wv hSw; go_simp; all_goals (with_reducible rfl)
      (try simp only [List.getElem_toArray, List.getElem_cons_zero, put_at, List.set])
      refine wtk (i := 1) (v := ?_) rfl hClosed (Or.inl ⟨by rfl, ?_⟩) hHeld (fun hClosed => ?_)
      rotate_left
      · intro wv hSw; go_simp; all_goals (with_reducible rfl)
      (try simp only [List.getElem_toArray, List.getElem_cons_succ, List.getElem_cons_zero, put_at, List.set])
      refine wtk (i := 2) (v := ?_) rfl hClosed (Or.inl ⟨by rfl, ?_⟩) hHeld (fun hClosed => ?_)
      rotate_left
      · intro wv hSw; go_simp; all_goals (with_reducible rfl)
      (try simp only [List.getElem_toArray, List.getElem_cons_succ, List.getElem_cons_zero, put_at, List.set])
      refine wtk (i := 3) (v := ?_) rfl hClosed (Or.inl ⟨by rfl, ?_⟩) hHeld (fun hClosed => ?_)
      rotate_left
      · intro wv hSw; go_simp; all_goals (with_reducible rfl)
      (try simp only [List.getElem_toArray, List.getElem_cons_succ, List.getElem_cons_zero, put_at, List.set])
      refine wtk (i := 4) (v := ?_) rfl hClosed (Or.inl ⟨by rfl, ?_⟩) hHeld (fun hClosed => ?_)
      rotate_left
      · intro wv hSw; have l2 : wv.cell? ⟨L, 2, none⟩ = some (.map (some pm)) := hSw.ix.box.cell 2; have x30 : wv.cell? ⟨b3, 0, none⟩ = some (.map (some pm4)) := hSw.x3.cell 0; have lk9 := LK.out _ hSw; go_simp; all_goals (with_reducible rfl)
      (try simp only [List.getElem_toArray, List.getElem_cons_succ, List.getElem_cons_zero, put_at, List.set])
      refine wtk (i := 5) (v := ?_) rfl hClosed (Or.inl ⟨by rfl, ?_⟩) hHeld (fun hClosed => ?_)
      rotate_left
      · intro wv hSw; go_simp; all_goals (with_reducible rfl)
      (try simp only [List.getElem_toArray, List.getElem_cons_succ, List.getElem_cons_zero, put_at, List.set])
      refine wtk (i := 6) (v := ?_) rfl hClosed (Or.inl ⟨by rfl, ?_⟩) hHeld (fun hClosed => ?_)
      rotate_left
      · intro wv hSw; go_simp; all_goals (with_reducible rfl)
      (try simp only [List.getElem_toArray, List.getElem_cons_succ, List.getElem_cons_zero, put_at, List.set])
      refine wtk (i := 7) (v := ?_) rfl hClosed (Or.inl ⟨by rfl, ?_⟩) hHeld (fun hClosed => ?_)
      rotate_left
      · intro wv hSw; have l2 : wv.cell? ⟨L, 2, none⟩ = some (.map (some pm)) := hSw.ix.box.cell 2; have x30 : wv.cell? ⟨b3, 0, none⟩ = some (.map (some pm4)) := hSw.x3.cell 0; have lk9 := LK.out _ hSw; go_simp; all_goals (with_reducible rfl)
      (try simp only [List.getElem_toArray, List.getElem_cons_succ, List.getElem_cons_zero, put_at, List.set])
      refine wtk (i := 8) (v := ?_) rfl hClosed (Or.inl ⟨by rfl, ?_⟩) hHeld (fun hClosed => ?_)
      rotate_left
      · intro wv hSw; go_simp; all_goals (with_reducible rfl)
      (try simp only [List.getElem_toArray, List.getElem_cons_succ, List.getElem_cons_zero, put_at, List.set])
      refine wtk (i := 9) (v := ?_) rfl hClosed (Or.inl ⟨by rfl, ?_⟩) hHeld (fun hClosed => ?_)
      rotate_left
      · intro wv hSw; have l2 : wv.cell? ⟨L, 2, none⟩ = some (.map (some pm)) := hSw.ix.box.cell 2; have x30 : wv.cell? ⟨b3, 0, none⟩ = some (.map (some pm4)) := hSw.x3.cell 0; have lk9 := LK.out _ hSw; go_simp; all_goals (with_reducible rfl)
      (try simp only [List.getElem_toArray, List.getElem_cons_succ, List.getElem_cons_zero, put_at, List.set])
      refine wpAnyL_last rfl (by kernel_rfl) (by kernel_rfl) (fun KK hK => ?_)
      obtain ⟨w5, hrun5, hm5, ht5⟩ := STO.out _ hHeld
      go_simp
      refine hK.out _ _ ?_
      (try simp only [put_at, List.set])
      have NX := Lib.hid (HSn.out _ w5 hHeld hm5 ht5)
      clear hm5 ht5 hHeld HSn STO hrun5 HSK HS LK ck hid hok
      go_wp2_with fail
      go_roundw
      case rel => exact ⟨k + 1, by go_num, by omega, NX⟩
      case measure => simp [intV]; omega
    · have d1 : decide ((k : Int) < (K : Int)) = false := decide_eq_false (by omega)
      have hkk : k = K := by omega
      subst hkk
      have HS1 : Hid (FlS w L d g pm wm rest pm4 wm4 b3 3 ka k kc (inL ks) ({ g.x with puts := fpG rest g.x.puts ks }) wr) := Lib.hid (by
        have h9 := HS.out
        rw [List.take_of_length_le (by rw [HKL.out]; exact Nat.le_refl _)] at h9
        exact h9)
      have KW1 := Lib.hid (KW.out wr HS1.out.ix.waits)
      have l3 : wr.cell? ⟨L, 3, none⟩ = some (.map wm) := HS1.out.ix.box.cell 3
      clear HS KW
      go_wp2_with fail
      refine KW1.out.mono ?_
      rintro e w3 ⟨ka2, kc2, rfl, ho, hb⟩
      have ST : Hid (FlS w L d g pm wm rest pm4 wm4 b3 9 ka2 K2 kc2 (hs.map Value.string) ({ g.x with puts := fpG rest g.x.puts ks, waits := fwG rest g.x.waits (hs.take 0) }) w3) := Lib.hid ((HS1.out.later hb).key (ho.mono HS1.out.only.size))
      clear KW1 ho hb l3 HS1
      go_wp2_with fail
      go_loopw [38] (fun vi wr => ∃ (k : Nat), vi = .int .i64 (k : Int) ∧ k ≤ K2 ∧ Hid (FlS w L d g pm wm rest pm4 wm4 b3 9 ka2 K2 kc2 (hs.map Value.string) ({ g.x with puts := fpG rest g.x.puts ks, waits := fwG rest g.x.waits (hs.take k) }) wr)) (fun vi _ => K2 - (intV vi).toNat)
      case atStart => exact ⟨0, rfl, Nat.zero_le _, ST⟩
      case round =>
        clear ST
        obtain ⟨k, rfl, hk, HS⟩ := hrel
        by_cases hkK : k < K2
        · have d1 : decide ((k : Int) < (K2 : Int)) = true := decide_eq_true (by omega)
          have d1n : decide (k < K2) = true := decide_eq_true hkK
          obtain ⟨s, hid⟩ : ∃ id, hs[k]? = some id := ⟨_, List.getElem?_eq_getElem (by rw [HHL.out]; exact hkK)⟩
          have hok := HHO.out s (List.mem_of_getElem? hid)
          obtain ⟨g9, hg9, _, _⟩ := HS.out.kown.some_ (by omega)
          have HSK := Lib.hid HS.out
          subst hg9
          have ck := HSK.out.kown.cell (j := k) (u := .string s) (by rw [List.getElem?_map, hid]; rfl)
          have ik0 : (0 : Int) ≤ (k : Int) := by omega
          obtain ⟨v, hv⟩ : ∃ v, waitI rest s = v := ⟨_, rfl⟩
          obtain ⟨u, hu⟩ : ∃ u, (gA (fwG rest g.x.waits (hs.take k)) s).getD wt0 = u := ⟨_, rfl⟩
          have x31 : wr.cell? ⟨b3, 1, none⟩ = some (.map wm4) := HSK.out.x3.cell 1
          have lk : (Instr.lookup 59 (.map wm4) (.string s) false).run Tryz.prog wr = .ok (wtV v) wr := by rw [HSK.out.rw_.look s hok, ← hv]; rfl
          have LK2 : Hid (∀ W, FlS w L d g pm wm rest pm4 wm4 b3 9 (some ⟨g9, 0, none⟩) K2 kc2 (hs.map Value.string) ({ g.x with puts := fpG rest g.x.puts ks, waits := fwG rest g.x.waits (hs.take k) }) W → (Instr.lookup 59 (.map wm) (.string s) false).run Tryz.prog W = .ok (wtV u) W) := Lib.hid (fun W hW => by rw [hW.ix.waits.look s hok, ← hu])
          obtain ⟨a0, a1, a2, a3⟩ := v
          obtain ⟨c0, c1, c2, c3⟩ := u
          have NXT : Hid (fwG rest g.x.waits (hs.take (k + 1)) = if a0 = c0 then pA (fwG rest g.x.waits (hs.take k)) s ⟨a0, ⟨a1, a2, a3⟩⟩ else fwG rest g.x.waits (hs.take k)) := Lib.hid (by
            rw [List.take_add_one, hid]
            unfold fwG
            rw [List.foldl_append]
            show fwS rest (fwG rest g.x.waits (hs.take k)) s = _
            unfold fwS
            rw [hv, hu]
            rfl)
          have STO : Hid (∀ W, FlS w L d g pm wm rest pm4 wm4 b3 9 (some ⟨g9, 0, none⟩) K2 kc2 (hs.map Value.string) ({ g.x with puts := fpG rest g.x.puts ks, waits := fwG rest g.x.waits (hs.take k) }) W → ∃ m, wm = some m ∧ ∃ w5, (Instr.mapUpdate 59 (.map (some m)) (.string s) (wtV ⟨a0, ⟨a1, a2, a3⟩⟩)).run Tryz.prog W = .ok () w5 ∧ WtM1 w5 m (pA (fwG rest g.x.waits (hs.take k)) s ⟨a0, ⟨a1, a2, a3⟩⟩) ∧ W.mapTurned w5 m) := Lib.hid (fun W hW => by
            have hl : (fwG rest g.x.waits (hs.take k)).length = g.x.waits.length := (fwG_same (fun q hq => HHS.out q (List.mem_of_mem_take hq))).1
            rcases hW.ix.waits with ⟨_, e⟩ | ⟨m, e, hm⟩
            · exfalso
              dsimp only at e
              rw [e] at hl
              have h9 := HHS.out s (List.mem_of_getElem? hid)
              rw [List.length_nil] at hl
              rw [List.eq_nil_of_length_eq_zero hl.symm] at h9
              simp [gA] at h9
            · exact ⟨m, e, hm.store tyW s hok ⟨a0, ⟨a1, a2, a3⟩⟩ (by dsimp only; rw [hl]; have := LWn.out; omega)⟩)
          have HSn : Hid (a0 = c0 → ∀ W w5, FlS w L d g pm wm rest pm4 wm4 b3 9 (some ⟨g9, 0, none⟩) K2 kc2 (hs.map Value.string) ({ g.x with puts := fpG rest g.x.puts ks, waits := fwG rest g.x.waits (hs.take k) }) W → ∀ m, wm = some m → WtM1 w5 m (pA (fwG rest g.x.waits (hs.take k)) s ⟨a0, ⟨a1, a2, a3⟩⟩) → W.mapTurned w5 m → FlS w L d g pm wm rest pm4 wm4 b3 9 (some ⟨g9, 0, none⟩) K2 kc2 (hs.map Value.string) ({ g.x with puts := fpG rest g.x.puts ks, waits := fwG rest g.x.waits (hs.take (k + 1)) }) w5) := Lib.hid (fun ht W w5 hW m hm h1 h2 => by
            subst hm
            rw [NXT.out, if_pos ht]
            exact hW.turn A1.out A2.out A3.out HL.out (Or.inr (Or.inr rfl)) h2 (hW.ix.turnedW h2 h1))
          have HSs : Hid (¬ a0 = c0 → ∀ W, FlS w L d g pm wm rest pm4 wm4 b3 9 (some ⟨g9, 0, none⟩) K2 kc2 (hs.map Value.string) ({ g.x with puts := fpG rest g.x.puts ks, waits := fwG rest g.x.waits (hs.take k) }) W → FlS w L d g pm wm rest pm4 wm4 b3 9 (some ⟨g9, 0, none⟩) K2 kc2 (hs.map Value.string) ({ g.x with puts := fpG rest g.x.puts ks, waits := fwG rest g.x.waits (hs.take (k + 1)) }) W) := Lib.hid (fun ht W hW => by
            rw [NXT.out, if_neg ht]
            exact hW)
          clear hv hu NXT
          unfold wtV at lk LK2
          dsimp only at lk LK2
          have fl4 : ∀ W : World, (Instr.field 142 (.agg #[.int .i64 c0, .int .i64 c1, .int .i64 c2, .int .i64 c3]) 0).run Tryz.prog W = .ok (.int .i64 c0) W := fun W => by kernel_rfl
          go_upto_region 10 with fail
          refine code_forget (fun W => Hid (FlS w L d g pm wm rest pm4 wm4 b3 9 (some ⟨g9, 0, none⟩) K2 kc2 (hs.map Value.string) ({ g.x with puts := fpG rest g.x.puts ks, waits := fwG rest g.x.waits (hs.take k) }) W) ∧ Hid (Box W wr.heap.size #[.int .i64 a0, .int .i64 a1, .int .i64 a2, .int .i64 a3] 142)) ⟨Lib.hid (HSK.out.later ((Below.refl _ _).alloc (Nat.le_refl _) _)), Lib.hid (Box.new _ _ _)⟩ ?_
          obtain ⟨tb, htb⟩ : ∃ p, wr.heap.size = p := ⟨_, rfl⟩
          rw [htb]
          clear htb lk x31
          rintro w5 ⟨HS5, BT5⟩
          refine wp_region_last 10 (fun w' => FlS w L d g pm wm rest pm4 wm4 b3 9 (some ⟨g9, 0, none⟩) K2 kc2 (hs.map Value.string) ({ g.x with puts := fpG rest g.x.puts ks, waits := fwG rest g.x.waits (hs.take k) }) w' ∧ Box w' tb #[.int .i64 a0, .int .i64 a1, .int .i64 a2, .int .i64 a3] 142) (by kernel_rfl) (⟨HS5.out.later (Below.refl _ _).drew, BT5.out.drew⟩) (fun hHeld hClosed => ?_)
          refine wtk (i := 0) (v := ?_) rfl hClosed (Or.inl ⟨by rfl, ?_⟩) hHeld (fun hClosed => ?_)
          rotate_left
          · intro wv hSw; go_simp; all_goals (with_reducible rfl)
          (try simp only [List.getElem_toArray, List.getElem_cons_zero, put_at, List.set])
          refine wtk (i := 1) (v := ?_) rfl hClosed (Or.inl ⟨by rfl, ?_⟩) hHeld (fun hClosed => ?_)
          rotate_left
          · intro wv hSw; have l3 : wv.cell? ⟨L, 3, none⟩ = some (.map wm) := hSw.1.ix.box.cell 3; have t0 : wv.cell? ⟨tb, 0, none⟩ = some (.int .i64 a0) := hSw.2.cell 0; have lk9 := LK2.out _ hSw.1; go_simp; all_goals (with_reducible rfl)
          (try simp only [List.getElem_toArray, List.getElem_cons_succ, List.getElem_cons_zero, put_at, List.set])
          refine wtk (i := 2) (v := ?_) rfl hClosed (Or.inl ⟨by rfl, ?_⟩) hHeld (fun hClosed => ?_)
          rotate_left
          · intro wv hSw; go_simp; all_goals (with_reducible rfl)
          (try simp only [List.getElem_toArray, List.getElem_cons_succ, List.getElem_cons_zero, put_at, List.set])
          refine wtk (i := 3) (v := ?_) rfl hClosed (Or.inl ⟨by rfl, ?_⟩) hHeld (fun hClosed => ?_)
          rotate_left
          · intro wv hSw; go_simp; all_goals (with_reducible rfl)
          (try simp only [List.getElem_toArray, List.getElem_cons_succ, List.getElem_cons_zero, put_at, List.set])
          refine wtk (i := 4) (v := ?_) rfl hClosed (Or.inl ⟨by rfl, ?_⟩) hHeld (fun hClosed => ?_)
          rotate_left
          · intro wv hSw; go_simp; all_goals (with_reducible rfl)
          (try simp only [List.getElem_toArray, List.getElem_cons_succ, List.getElem_cons_zero, put_at, List.set])
          refine wtk (i := 5) (v := ?_) rfl hClosed (Or.inl ⟨by rfl, ?_⟩) hHeld (fun hClosed => ?_)
          rotate_left
          · intro wv hSw; go_simp; all_goals (with_reducible rfl)
          (try simp only [List.getElem_toArray, List.getElem_cons_succ, List.getElem_cons_zero, put_at, List.set])
          refine wtk (i := 6) (v := ?_) rfl hClosed (Or.inl ⟨by rfl, ?_⟩) hHeld (fun hClosed => ?_)
          rotate_left
          · intro wv hSw; have l3 : wv.cell? ⟨L, 3, none⟩ = some (.map wm) := hSw.1.ix.box.cell 3; have t0 : wv.cell? ⟨tb, 0, none⟩ = some (.int .i64 a0) := hSw.2.cell 0; have lk9 := LK2.out _ hSw.1; go_simp; all_goals (with_reducible rfl)
          (try simp only [List.getElem_toArray, List.getElem_cons_succ, List.getElem_cons_zero, put_at, List.set])
          refine wtk (i := 7) (v := ?_) rfl hClosed (Or.inl ⟨by rfl, ?_⟩) hHeld (fun hClosed => ?_)
          rotate_left
          · intro wv hSw; go_simp; all_goals (with_reducible rfl)
          (try simp only [List.getElem_toArray, List.getElem_cons_succ, List.getElem_cons_zero, put_at, List.set])
          refine wtk (i := 8) (v := ?_) rfl hClosed (Or.inl ⟨by rfl, ?_⟩) hHeld (fun hClosed => ?_)
          rotate_left
          · intro wv hSw; have l3 : wv.cell? ⟨L, 3, none⟩ = some (.map wm) := hSw.1.ix.box.cell 3; have t0 : wv.cell? ⟨tb, 0, none⟩ = some (.int .i64 a0) := hSw.2.cell 0; have lk9 := LK2.out _ hSw.1; go_simp; all_goals (with_reducible rfl)
          (try simp only [List.getElem_toArray, List.getElem_cons_succ, List.getElem_cons_zero, put_at, List.set])
          refine wtk (i := 9) (v := ?_) rfl hClosed (Or.inl ⟨by rfl, ?_⟩) hHeld (fun hClosed => ?_)
          rotate_left
          · intro wv hSw; go_simp; all_goals (with_reducible rfl)
          (try simp only [List.getElem_toArray, List.getElem_cons_succ, List.getElem_cons_zero, put_at, List.set])
          refine wpAnyL_last rfl (by kernel_rfl) (by kernel_rfl) (fun KK hK => ?_)
          go_simp
          refine hK.out _ _ ?_
          (try simp only [put_at, List.set])
          have HS6 := Lib.hid hHeld
          clear hHeld
          by_cases ht : a0 = c0
          · subst ht
            have de : (a0 == a0) = true := by simp
            clear HSK HS LK2 ck hid hok hClosed
            go_upto_region 11 with fail
            refine wp_region_last 7 (fun w' => FlS w L d g pm wm rest pm4 wm4 b3 9 (some ⟨g9, 0, none⟩) K2 kc2 (hs.map Value.string) ({ g.x with puts := fpG rest g.x.puts ks, waits := fwG rest g.x.waits (hs.take k) }) w' ∧ Box w' tb #[.int .i64 a0, .int .i64 a1, .int .i64 a2, .int .i64 a3] 142) (by kernel_rfl) (⟨HS6.out.1.later (Below.refl _ _).drew, HS6.out.2.drew⟩) (fun hHeld hClosed => ?_)
            refine wtk (i := 0) (v := ?_) rfl hClosed (Or.inl ⟨by rfl, ?_⟩) hHeld (fun hClosed => ?_)
            rotate_left
            · intro wv hSw; go_simp; all_goals (with_reducible rfl)
            (try simp only [List.getElem_toArray, List.getElem_cons_zero, put_at, List.set])
            refine wtk (i := 1) (v := ?_) rfl hClosed (Or.inl ⟨by rfl, ?_⟩) hHeld (fun hClosed => ?_)
            rotate_left
            · intro wv hSw; go_simp; all_goals (with_reducible rfl)
            (try simp only [List.getElem_toArray, List.getElem_cons_succ, List.getElem_cons_zero, put_at, List.set])
            refine wtk (i := 2) (v := ?_) rfl hClosed (Or.inl ⟨by rfl, ?_⟩) hHeld (fun hClosed => ?_)
            rotate_left
            · intro wv hSw; go_simp; all_goals (with_reducible rfl)
            (try simp only [List.getElem_toArray, List.getElem_cons_succ, List.getElem_cons_zero, put_at, List.set])
            refine wtk (i := 3) (v := ?_) rfl hClosed (Or.inl ⟨by rfl, ?_⟩) hHeld (fun hClosed => ?_)
            rotate_left
            · intro wv hSw; go_simp; all_goals (with_reducible rfl)
            (try simp only [List.getElem_toArray, List.getElem_cons_succ, List.getElem_cons_zero, put_at, List.set])
            refine wtk (i := 4) (v := ?_) rfl hClosed (Or.inl ⟨by rfl, ?_⟩) hHeld (fun hClosed => ?_)
            rotate_left
            · intro wv hSw; have l3 : wv.cell? ⟨L, 3, none⟩ = some (.map wm) := hSw.1.ix.box.cell 3; go_simp; all_goals (with_reducible rfl)
            (try simp only [List.getElem_toArray, List.getElem_cons_succ, List.getElem_cons_zero, put_at, List.set])
            refine wtk (i := 5) (v := ?_) rfl hClosed (Or.inl ⟨by rfl, ?_⟩) hHeld (fun hClosed => ?_)
            rotate_left
            · intro wv hSw; go_simp; all_goals (with_reducible rfl)
            (try simp only [List.getElem_toArray, List.getElem_cons_succ, List.getElem_cons_zero, put_at, List.set])
            refine wtk (i := 6) (v := (wtV ⟨a0, ⟨a1, a2, a3⟩⟩)) rfl hClosed (Or.inl ⟨by rfl, ?_⟩) hHeld (fun hClosed => ?_)
            · intro wv hSw; exact exec_load_box (by rfl) (by rfl) hSw.2 Tryz.underlying142 rfl (by kernel_rfl)
            (try simp only [List.getElem_toArray, List.getElem_cons_succ, List.getElem_cons_zero, put_at, List.set])
            refine wpAnyL_last rfl (by kernel_rfl) (by kernel_rfl) (fun KK hK => ?_)
            obtain ⟨m, hm, w5, hrun5, hm5, ht5⟩ := STO.out _ hHeld.1
            subst hm
            unfold wtV at hrun5 ⊢
            dsimp only at hrun5 ⊢
            go_simp
            refine hK.out _ _ ?_
            (try simp only [put_at, List.set])
            have NX := Lib.hid (HSn.out rfl _ w5 hHeld.1 m rfl hm5 ht5)
            clear hm5 ht5 hHeld HSn STO hrun5 HSs HS6
            go_wp2_with fail
            go_roundw
            case rel => exact ⟨k + 1, by go_num, by omega, NX⟩
            case measure => simp [intV]; omega
          · have de : (a0 == c0) = false := by simpa using ht
            have NX := Lib.hid (HSs.out ht _ HS6.out.1)
            clear HSK HS LK2 ck hid hok hClosed HSs HSn STO HS6
            go_wp2_with fail
            go_roundw
            case rel => exact ⟨k + 1, by go_num, by omega, NX⟩
            case measure => simp [intV]; omega
        · have d1 : decide ((k : Int) < (K2 : Int)) = false := decide_eq_false (by omega)
          have hkk : k = K2 := by omega
          subst hkk
          have FN := Lib.hid (FIN.out wr (by
            have h9 := HS.out.ix
            rw [List.take_of_length_le (by rw [HHL.out]; exact Nat.le_refl _)] at h9
            exact h9) HS.out.only)
          clear HS
          go_wp2_with fail
          go_end0
          exact ⟨rfl, FN.out⟩
end Go.Proofs.YtimkgaokcldgkaaGreatDoor
/- The library's DeleteFunc over ints, with the question of prune. -/
namespace Go.Proofs.YtimkgaokcldgkaaGreatDoor
open Go Go.RowKit Go.Maps
set_option linter.unusedVariables false
set_option linter.unusedSimpArgs false
set_option maxRecDepth 10000

def inB (id : Int) (q : Int) : Bool := decide (q = id)
def keepN (id : Int) (u : List Int) : List Int := u.filter fun q => !inB id q
theorem prune1_at (q : Int) (id : Int) (g : Nat) (w : World) (hbx : Box w g #[.int .i64 id] 3) :
    Calls Tryz.prog 65 #[.int .i64 q, .pointer (some ⟨g, 0, none⟩)] w fun e w' => e = .returned (.bool (inB id q)) ∧ Below w.heap.size w w' := by
  have k0 := hbx.cell 0
  have hv : (q == id) = inB id q := int_eq
  obtain ⟨b, hb⟩ : ∃ b, inB id q = b := ⟨_, rfl⟩
  rw [hb] at hv ⊢
  have BB := Lib.hid (Below.refl w.heap.size w)
  clear hb hbx
  go_enter Tryz.func65, Tryz.ntmps65
  go_wp2
  go_ret
  exact ⟨rfl, BB.out⟩
theorem egN : ∀ args w, (callFunc 65 args).run Tryz.prog w = .ok (.enter 65 args) w := enters_of Tryz.func65 (by kernel_rfl) rfl
def IdxN (u : List Int) (id : Int) (w : World) (e : Ending) (w' : World) : Prop := ∃ i : Int, e = .returned (.int .i64 i) ∧ Below w.heap.size w w' ∧
  ((i = -1 ∧ ∀ q ∈ u, inB id q = false) ∨ ∃ k : Nat, i = (k : Int) ∧ k < u.length ∧ (∀ j q, j < k → u[j]? = some q → inB id q = false) ∧ ∃ q, u[k]? = some q ∧ inB id q = true)
theorem inL_get {u : List Int} {k : Nat} {z : Int} (h : u[k]? = some z) : (inL u)[k]? = some (.int .i64 z) := by unfold inL; rw [List.getElem?_map, h]; rfl
set_option maxHeartbeats 2000000 in
theorem idxN_at (u : List Int) (n : Nat) (hn : u.length = n) {w : World} {B uc idb : Nat} {ua : Option Addr} (ho : Own w B 3 1 ua n uc (inL u)) (id : Int) (hbx : Box w idb #[.int .i64 id] 3) :
    Calls Tryz.prog 80 #[.slice ua n uc, .func (.func 65) #[] #[.pointer (some ⟨idb, 0, none⟩)]] w (IdxN u id w) := by
  have eg := egN
  have hn2 : n ≤ 9223372036854775807 := Nat.le_trans ho.cap_le ho.max
  have HO := Lib.hid ho
  have HB := Lib.hid hbx
  have HN := Lib.hid hn
  clear ho hbx hn
  go_enter Tryz.func80, Tryz.ntmps80
  go_wp2
  go_loopw [4, 8] (fun r j wr => ∃ k : Nat, k ≤ n ∧ r = .int .i64 0 ∧ j = .int .i64 (k : Int) ∧ Hid (Below w.heap.size w wr) ∧ Hid (∀ i z, i < k → u[i]? = some z → inB id z = false)) (fun _ j _ => n - (vJ j).toNat)
  case atStart => exact ⟨0, by omega, rfl, rfl, Lib.hid (Below.refl _ _), Lib.hid (fun i z hi => by omega)⟩
  case round =>
    obtain ⟨k, hk, rfl, rfl, BR, HP⟩ := hrel
    by_cases hlt : k < n
    · have hkd : decide ((k : Int) < (n : Int)) = true := decide_eq_true (by omega)
      have hkdn : decide (k < n) = true := decide_eq_true hlt
      obtain ⟨z, hz⟩ : ∃ z, u[k]? = some z := ⟨_, List.getElem?_eq_getElem (by rw [HN.out]; exact hlt)⟩
      obtain ⟨r, rfl, _⟩ := HO.out.some_ (by omega)
      have ol := HO.out.later BR.out
      have c0 := ol.cell (inL_get hz)
      have M := Lib.hid (prune1_at z id idb wr (HB.out.later BR.out))
      have hx0 : (0 : Int) ≤ (k : Int) := by omega
      have hx1 : (k : Int) < (n : Int) := by omega
      have HZ := Lib.hid hz
      obtain ⟨b, hb⟩ : ∃ b, inB id z = b := ⟨_, rfl⟩
      rw [hb] at M
      have HBB := Lib.hid hb
      clear ol hz hb
      go_wp2_with fail
      refine (M.out).mono ?_
      rintro e wx ⟨rfl, hwx⟩
      have B2 := Lib.hid (BR.out.trans (hwx.mono BR.out.size))
      clear hwx
      cases b with
      | true =>
        go_wp2
        go_ret
        exact ⟨(k : Int), rfl, B2.out, Or.inr ⟨k, rfl, by rw [HN.out]; exact hlt, HP.out, _, HZ.out, HBB.out⟩⟩
      | false =>
        go_wp2
        go_roundw
        case rel => exact ⟨k + 1, by omega, rfl, by go_num, B2, Lib.hid (fun i y hi hy => by
          by_cases h : i = k
          · subst h
            rw [HZ.out] at hy
            injection hy with hy
            rw [← hy, HBB.out]
          · exact HP.out i y (by omega) hy)⟩
        case measure =>
          simp only [vJ]
          omega
    · have hkd : decide ((k : Int) < (n : Int)) = false := decide_eq_false (by omega)
      go_wp2
      go_ret
      refine ⟨-1, rfl, BR.out, Or.inl ⟨rfl, fun q hq => ?_⟩⟩
      obtain ⟨i, hi, e⟩ := List.getElem_of_mem hq
      exact HP.out i q (by rw [HN.out] at hi; omega) (by rw [List.getElem?_eq_getElem hi, e])
theorem keepN_none {id : Int} {u : List Int} (h : ∀ q ∈ u, inB id q = false) : keepN id u = u := by
  unfold keepN
  rw [List.filter_eq_self]
  intro q hq
  rw [h q hq]
  rfl
theorem keepN_snoc (id : Int) {u : List Int} {j : Nat} {q : Int} (h : u[j]? = some q) : keepN id (u.take (j + 1)) = keepN id (u.take j) ++ if inB id q then [] else [q] := by
  unfold keepN
  rw [List.take_add_one, h, List.filter_append]
  cases hb : inB id q <;> simp [hb]
/-- The row while elements are moved up. -/
structure DeN (w wr : World) (B g n uc : Nat) (u : List Int) (id : Int) (i j : Nat) (xs : List Int) : Prop where
  own : Own wr B 3 1 (some ⟨g, 0, none⟩) n uc (inL xs)
  only : Only (fun k => k = g) w wr
  head : xs.take i = keepN id (u.take j)
  tail : xs.drop j = u.drop j
  len : (keepN id (u.take j)).length = i
theorem DeN.later {w wr w' : World} {B g n uc i j : Nat} {u xs : List Int} {id : Int} (h : DeN w wr B g n uc u id i j xs) (hb : Below wr.heap.size wr w') : DeN w w' B g n uc u id i j xs :=
  ⟨h.own.later hb, h.only.later hb, h.head, h.tail, h.len⟩
theorem DeN.skip {w wr : World} {B g n uc i j : Nat} {u xs : List Int} {id : Int} (h : DeN w wr B g n uc u id i j xs) {q : Int} (hq : u[j]? = some q) (hp : inB id q = true) : DeN w wr B g n uc u id i (j + 1) xs := by
  have hk := keepN_snoc id hq
  rw [hp, if_pos rfl, List.append_nil] at hk
  refine ⟨h.own, h.only, by rw [hk]; exact h.head, ?_, by rw [hk]; exact h.len⟩
  rw [← List.drop_drop, h.tail, List.drop_drop]
theorem DeN.move {w wr w' : World} {B g n uc i j : Nat} {u xs : List Int} {id : Int} (h : DeN w wr B g n uc u id i j xs) {q : Int} (hq : u[j]? = some q) (hp : inB id q = false) (hij : i < j) (hjn : j < n)
    (ho : Own w' B 3 1 (some ⟨g, 0, none⟩) n uc ((inL xs).set i (.int .i64 q))) (hg : wr.grownBy w' (some g)) :
    DeN w w' B g n uc u id (i + 1) (j + 1) (xs.set i q) := by
  have hk := keepN_snoc id hq
  rw [hp, if_neg (by decide)] at hk
  have hl : xs.length = n := by have := h.own.len; unfold inL at this; rw [List.length_map] at this; omega
  refine ⟨by unfold inL at ho ⊢; rw [List.map_set]; exact ho, h.only.trans (Only.of_grown (R := fun k => k = g) hg fun k hk => (Option.some.inj hk).symm) (fun x hx => Or.inl hx), ?_, ?_, by rw [hk, List.length_append, h.len]; rfl⟩
  · rw [hk, ← h.head, List.take_add_one, List.getElem?_set_self (by omega), List.take_set_of_le (Nat.le_refl _)]
    rfl
  · rw [List.drop_set_of_lt (by omega), ← List.drop_drop, h.tail, List.drop_drop]
theorem DeN.at {w wr : World} {B g n uc i j : Nat} {u xs : List Int} {id : Int} (h : DeN w wr B g n uc u id i j xs) {q : Int} (hq : u[j]? = some q) : wr.cell? ⟨g, j, none⟩ = some (.int .i64 q) := by
  have h0 : xs[j]? = some q := by
    have ht : (xs.drop j)[0]? = (u.drop j)[0]? := by rw [h.tail]
    rw [List.getElem?_drop, List.getElem?_drop, Nat.add_zero, hq] at ht
    exact ht
  exact h.own.cell (inL_get h0)
theorem clearN {wr : World} {B g n uc i : Nat} {xs : List Int} (h : Own wr B 3 1 (some ⟨g, 0, none⟩) n uc (inL xs)) (hi : i < n) (ty : TypeId) :
    ∃ w', (Builtin.clear_ #[63] ty #[.slice (some ⟨g, i, none⟩) (n - i) (uc - i)]).run Tryz.prog wr = .ok (.tuple #[]) w' ∧ Own w' B 3 1 (some ⟨g, 0, none⟩) i uc (inL (xs.take i)) ∧ wr.grownBy w' (some g) := by
  obtain ⟨cur, hg, hs, ht, hnc, hm, hB⟩ := h.block
  have hv : ∀ w, (zeroValue 3).run Tryz.prog w = .ok (.int .i64 0) w := fun w => by kernel_rfl
  obtain ⟨cs, hcs⟩ : ∃ cs, (Builtin.zeroCells (Value.int .i64 0).cells (n - i)).toList = cs := ⟨_, rfl⟩
  have hcl : cs.length = n - i := by rw [← hcs]; simp [Builtin.zeroCells, Value.cells]
  have hc1 : ∀ v ∈ cs, v.oneCell' = true := fun v hv' => by
    rw [← hcs] at hv'
    simp [Builtin.zeroCells, Value.cells] at hv'
    obtain ⟨x, hx, rfl⟩ := hv'
    have h2 : x % 1 = 0 := by omega
    simp only [h2]
    rfl
  have hfit : i + 0 + cs.length ≤ cur.size := by
    rw [hcl, hs]
    omega
  have hst := run_storeCells_at Tryz.prog g i 3 cs 0 cur wr hg hfit hc1
  obtain ⟨m, hm2⟩ : ∃ m, n - i = m + 1 := ⟨n - i - 1, by omega⟩
  refine ⟨wr.setRow g (cur.toList.take (i + 0) ++ cs ++ cur.toList.drop (i + 0 + cs.length)).toArray, ?_, ?_, ?_⟩
  · rw [hm2] at hcs ⊢
    simp [Builtin.clear_, run_underlying Tryz.underlying63, hv, hcs, hst]
  · refine Own.of_block (setRow_heap _ _ _ _ _ _ hg) ?_ ?_ (by omega) hm hB
    · simp [hs] at hfit ⊢
      omega
    · have hlt : (cur.toList.take (i + 0)).length = i := by
        rw [List.length_take, Array.length_toList]
        omega
      simp only [List.append_assoc]
      have e1 : inL (xs.take i) = (inL xs).take i := by unfold inL; rw [List.map_take]
      rw [List.take_append_of_le_length (by rw [hlt]; omega), e1, ← ht, List.take_take, List.take_take]
      congr 1
      omega
  · exact ⟨rfl, rfl, rfl, by simp, fun k _ hk => setRow_other wr g k _ (fun e => hk (by rw [e]))⟩
def DelN (B : Nat) (u : List Int) (id : Int) (uc : Nat) (ua : Option Addr) (w : World) (e : Ending) (w' : World) : Prop := ∃ m, e = .returned (.slice ua m uc) ∧ (keepN id u).length = m ∧ Own w' B 3 1 ua m uc (inL (keepN id u)) ∧ Only (fun k => ua = some ⟨k, 0, none⟩) w w'
set_option maxHeartbeats 4000000 in
theorem delN_at (u : List Int) (n : Nat) (hn : u.length = n) {w : World} {B uc idb : Nat} {ua : Option Addr} (ho : Own w B 3 1 ua n uc (inL u)) (id : Int) (hbx : Box w idb #[.int .i64 id] 3) (hni : ∀ g, ua = some ⟨g, 0, none⟩ → idb ≠ g) :
    Calls Tryz.prog 64 #[.slice ua n uc, .func (.func 65) #[] #[.pointer (some ⟨idb, 0, none⟩)]] w (DelN B u id uc ua w) := by
  have eg := egN
  have hn2 : n ≤ 9223372036854775807 := Nat.le_trans ho.cap_le ho.max
  have hnc := ho.cap_le
  have IX := Lib.hid (idxN_at u n hn ho id hbx)
  have HO := Lib.hid ho
  have HB := Lib.hid hbx
  have HN := Lib.hid hn
  have NI := Lib.hid hni
  clear ho hbx hn hni
  go_enter Tryz.func64, Tryz.ntmps64
  go_wp2_with fail
  refine IX.out.mono ?_
  rintro e w1 ⟨i0, rfl, b1, hc⟩
  have B1 := Lib.hid b1
  clear b1 IX
  rcases hc with ⟨rfl, hno⟩ | ⟨k, rfl, hkn, hpre, q, hq, hpq⟩
  · have FIN : Hid (DelN B u id uc ua w (.returned (.slice ua n uc)) w1) := Lib.hid ⟨n, rfl, by rw [keepN_none hno]; exact HN.out, by rw [keepN_none hno]; exact HO.out.later B1.out, Only.of_below _ B1.out⟩
    clear hno HO HB
    go_wp2
    go_ret
    exact FIN.out
  · rw [HN.out] at hkn
    obtain ⟨g, rfl, _⟩ := HO.out.some_ (by omega)
    have hk1 : ((k : Int) == -1) = false := by simp
    have D0 : Hid (DeN w w1 B g n uc u id k (k + 1) u) := Lib.hid (by
      have h1 : keepN id (u.take k) = u.take k := keepN_none fun q hq => by
        obtain ⟨j, hj⟩ := List.mem_iff_getElem?.1 hq
        rw [List.getElem?_take] at hj
        split at hj
        · rename_i hlt
          exact hpre j q hlt hj
        · cases hj
      have h2 := keepN_snoc id hq
      rw [hpq, if_pos rfl, List.append_nil, h1] at h2
      exact ⟨HO.out.later B1.out, Only.of_below _ B1.out, h2.symm, rfl, by rw [h2, List.length_take, HN.out]; omega⟩)
    have NB : Hid (idb ≠ g) := Lib.hid (NI.out g rfl)
    clear hpre hq hpq NI
    go_wp2_with fail
    go_loopw [5, 6] (fun vi vj wr => ∃ (i j : Nat) (xs : List Int), i < j ∧ j ≤ n ∧ vi = .int .i64 (i : Int) ∧ vj = .int .i64 (j : Int) ∧ Hid (DeN w wr B g n uc u id i j xs)) (fun _ vj _ => n - (vJ vj).toNat)
    case atStart => exact ⟨k, k + 1, _, by omega, by omega, rfl, by go_num, D0⟩
    case round =>
      obtain ⟨i, j, xs, hij, hjn, rfl, rfl, HS⟩ := hrel
      clear D0
      obtain ⟨wl, rfl⟩ : ∃ W, W = wr := ⟨_, rfl⟩
      by_cases hlt : j < n
      · have hkd : decide ((j : Int) < (n : Int)) = true := decide_eq_true (by omega)
        have hkdn : decide (j < n) = true := decide_eq_true hlt
        obtain ⟨q, hq⟩ : ∃ q, u[j]? = some q := ⟨_, List.getElem?_eq_getElem (by rw [HN.out]; exact hlt)⟩
        have m0 := HS.out.at hq
        have hj0 : (0 : Int) ≤ (j : Int) := by omega
        have hj1 : (j : Int) < (n : Int) := by omega
        have hi0 : (0 : Int) ≤ (i : Int) := by omega
        have hi1 : (i : Int) < (n : Int) := by omega
        have hi2 : decide (i < n) = true := decide_eq_true (by omega)
        have HQ := Lib.hid hq
        clear hq
        have BXI := Lib.hid (HB.out.only HS.out.only NB.out)
        obtain ⟨b, hb⟩ : ∃ b, inB id q = b := ⟨_, rfl⟩
        have HBB := Lib.hid hb
        have MQ : Hid (Calls Tryz.prog 65 #[.int .i64 q, .pointer (some ⟨idb, 0, none⟩)] wl fun e w' => e = .returned (.bool b) ∧ Below wl.heap.size wl w') := Lib.hid (by rw [← hb]; exact prune1_at q id idb wl BXI.out)
        have MV : Hid (b = false → ∀ W, Below wl.heap.size wl W → DeN w (W.setCell ⟨g, i, none⟩ (.int .i64 q)) B g n uc u id (i + 1) (j + 1) (xs.set i q)) := Lib.hid (fun hb' W hW => (HS.out.later hW).move HQ.out (by rw [HBB.out]; exact hb') hij hlt (((HS.out.later hW).own).set i _) ⟨rfl, rfl, rfl, by simp [World.setCell], fun k _ hk => Below.heap_setCell W _ _ k (fun e => hk (by rw [e]))⟩)
        have SK : Hid (b = true → ∀ W, Below wl.heap.size wl W → DeN w W B g n uc u id i (j + 1) xs) := Lib.hid (fun hb' W hW => (HS.out.later hW).skip HQ.out (by rw [HBB.out]; exact hb'))
        have FR : Hid (∀ W, Below wl.heap.size wl W → W.frozen? ⟨g, i, none⟩ = false ∧ ∃ v0, W.cell? ⟨g, i, none⟩ = some v0) := Lib.hid (fun W hW => by
          have h9 := (HS.out.later hW).own
          have hl : (inL xs).length = n := by have := h9.len; omega
          exact ⟨h9.free i, _, h9.cell (List.getElem?_eq_getElem (by rw [hl]; omega))⟩)
        clear hb HS
        go_wp2_with fail
        refine (MQ.out).mono ?_
        rintro e w5 ⟨rfl, b5⟩
        have B5 := Lib.hid b5
        clear b5 MQ m0
        cases b with
        | true =>
          have NX := Lib.hid (SK.out rfl w5 B5.out)
          clear MV SK FR
          go_wp2
          go_roundw
          case rel => exact ⟨i, j + 1, xs, by omega, by omega, rfl, by go_num, NX⟩
          case measure => exact del_ms n j hlt
        | false =>
          have NX := Lib.hid (MV.out rfl w5 B5.out)
          obtain ⟨f9, v9, c9⟩ := FR.out w5 B5.out
          clear MV SK FR
          go_wp2_with fail
          go_roundw
          case rel => exact ⟨i + 1, j + 1, _, by omega, by omega, by go_num, by go_num, NX⟩
          case measure => exact del_ms n j hlt
      · have hkd : decide ((j : Int) < (n : Int)) = false := decide_eq_false (by omega)
        obtain rfl : j = n := by omega
        obtain ⟨w6, hcl, o6, g6⟩ := clearN HS.out.own (by omega : i < j) 3
        have hcl2 : ∀ ty, (Builtin.clear_ #[63] ty #[.slice (some ⟨g, i, none⟩) (j - i) (uc - i)]).run Tryz.prog wl = .ok (.tuple #[]) w6 := fun ty => hcl
        have hsf : ∀ W, (Instr.sliceAt 63 (.slice (some ⟨g, 0, none⟩) j uc) (some (.int .i64 (i : Int))) none none).run Tryz.prog W = .ok (.slice (some ⟨g, i, none⟩) (j - i) (uc - i)) W := fun W => by
          obtain ⟨off, h1, h2⟩ := sliceFrom_off rowI g j uc i (by omega) hnc
          rw [h1 W, h2 (by omega), Nat.mul_one]
        have hsl : ∀ W, (Instr.sliceAt 63 (.slice (some ⟨g, 0, none⟩) j uc) none (some (.int .i64 (i : Int))) none).run Tryz.prog W = .ok (.slice (some ⟨g, 0, none⟩) i uc) W := fun W => sliceTo_run rowI (some ⟨g, 0, none⟩) j uc i (by omega) W (fun e => by cases e)
        have FIN : Hid (DelN B u id uc (some ⟨g, 0, none⟩) w (.returned (.slice (some ⟨g, 0, none⟩) i uc)) w6) := Lib.hid (by
          have hh := HS.out.head
          have hl := HS.out.len
          have e9 : u.take j = u := List.take_of_length_le (by rw [HN.out]; exact Nat.le_refl _)
          rw [e9] at hh hl
          rw [hh] at o6
          refine ⟨i, rfl, hl, o6, ?_⟩
          have hO := HS.out.only.trans (Only.of_grown (R := fun k => k = g) g6 fun k hk => (Option.some.inj hk).symm) (fun x hx => Or.inl hx)
          exact ⟨hO.os, hO.tape, hO.output, hO.size, fun k hk hne => hO.block k hk fun e => hne (by rw [e])⟩)
        clear HS o6 g6 hcl HB HO
        go_wp2
        go_ret
        exact FIN.out
end Go.Proofs.YtimkgaokcldgkaaGreatDoor
/- Package spill: prune. Written by gen_prune.py out of prune.txt. -/
namespace Go.Proofs.YtimkgaokcldgkaaGreatDoor
open Go Go.RowKit Go.Maps Go.Sort
set_option linter.unusedVariables false
set_option linter.unusedSimpArgs false
set_option maxRecDepth 100000

/-- An index in a box of one's own. -/
structure VxM (B ab : Nat) (x : Ix) (pm : Nat) (wm : Option Nat) (R1 R2 : Nat → Prop) (wr : World) : Prop where
  box : Box wr ab (ixC pm wm x.top) 61
  iv : IvM wr pm wm x
  off : ∀ m, (m = ab ∨ m = pm ∨ wm = some m) → ¬ R1 m ∧ ¬ R2 m ∧ B ≤ m
theorem VxM.lt {B ab : Nat} {x : Ix} {pm : Nat} {wm : Option Nat} {R1 R2 : Nat → Prop} {wr : World} (h : VxM B ab x pm wm R1 R2 wr) {m : Nat} (hm : m = ab ∨ m = pm ∨ wm = some m) : m < wr.heap.size := by
  rcases hm with rfl | rfl | hm
  · exact h.box.lt
  · exact h.iv.puts.lt
  · rcases h.iv.waits with ⟨e, _⟩ | ⟨m2, e, hm2⟩
    · rw [e] at hm; cases hm
    · rw [e] at hm; cases hm; exact hm2.lt
theorem VxM.keep {B ab : Nat} {x : Ix} {pm : Nat} {wm : Option Nat} {R1 R2 R1' R2' : Nat → Prop} {wr w' : World} (h : VxM B ab x pm wm R1 R2 wr) (hb : ∀ m, (m = ab ∨ m = pm ∨ wm = some m) → w'.heap[m]? = wr.heap[m]?) (ho : ∀ m, (m = ab ∨ m = pm ∨ wm = some m) → ¬ R1' m ∧ ¬ R2' m) : VxM B ab x pm wm R1' R2' w' :=
  ⟨(hb ab (Or.inl rfl)).trans h.box, ⟨h.iv.puts.block (hb pm (Or.inr (Or.inl rfl))), h.iv.waits.later (fun m hm => hb m (Or.inr (Or.inr hm))), h.iv.ok, h.iv.few⟩, fun m hm => ⟨(ho m hm).1, (ho m hm).2, (h.off m hm).2.2⟩⟩
theorem VxM.later {B ab : Nat} {x : Ix} {pm : Nat} {wm : Option Nat} {R1 R2 : Nat → Prop} {wr w' : World} (h : VxM B ab x pm wm R1 R2 wr) (hb : Below wr.heap.size wr w') : VxM B ab x pm wm R1 R2 w' :=
  h.keep (fun m hm => hb.block m (h.lt hm)) (fun m hm => ⟨(h.off m hm).1, (h.off m hm).2.1⟩)
theorem VxM.aft {B ab : Nat} {x : Ix} {pm : Nat} {wm : Option Nat} {R1 R2 R1' R2' : Nat → Prop} {wr w' : World} {d L : Nat} {g' : Lg} (h : VxM B ab x pm wm R1 R2 wr) (ha : AftG R1 R2 d L wr g' w' R1' R2') : VxM B ab x pm wm R1' R2' w' :=
  h.keep (fun m hm => ha.keep (h.lt hm) (h.off m hm).1 (h.off m hm).2.1) (fun m hm => ⟨fun e => by
    have := h.lt hm
    rcases ha.newD m e with e | e
    · exact (h.off m hm).1 e
    · omega, fun e => by
    have := h.lt hm
    rcases ha.newL m e with e | e
    · exact (h.off m hm).2.1 e
    · omega⟩)
/-- One takes the place of another. -/
theorem VxM.over {B ab rb : Nat} {x y : Ix} {pm pm2 : Nat} {wm wm2 : Option Nat} {R1 R2 : Nat → Prop} {wr : World} (h : VxM B ab x pm wm R1 R2 wr) (k : VxM B rb y pm2 wm2 R1 R2 wr) : VxM B ab y pm2 wm2 R1 R2 (wr.setRow ab (ixC pm2 wm2 y.top)) :=
  ⟨h.box.setRow _, ⟨k.iv.puts.block (setRow_other _ _ _ _ (am_not_box k.iv.puts h.box)), k.iv.waits.later (fun m hm => setRow_other _ _ _ _ (by
    rcases k.iv.waits with ⟨e, _⟩ | ⟨m2, e, hm2⟩
    · rw [e] at hm; cases hm
    · rw [e] at hm; cases hm; exact am_not_box hm2 h.box)), k.iv.ok, k.iv.few⟩, fun m hm => by
    rcases hm with hm | hm
    · exact h.off m (Or.inl hm)
    · exact k.off m (Or.inr hm)⟩
/-- A row of ints of one's own. -/
structure RwO (B N kc : Nat) (ka : Option Addr) (l : List Int) (R1 R2 : Nat → Prop) (wr : World) : Prop where
  own : Own wr B 3 1 ka N kc (inL l)
  off : ∀ m, ka = some ⟨m, 0, none⟩ → ¬ R1 m ∧ ¬ R2 m
theorem RwO.later {B N kc : Nat} {ka : Option Addr} {l : List Int} {R1 R2 : Nat → Prop} {wr w' : World} (h : RwO B N kc ka l R1 R2 wr) (hb : Below wr.heap.size wr w') : RwO B N kc ka l R1 R2 w' := ⟨h.own.later hb, h.off⟩
theorem RwO.aft {B N kc : Nat} {ka : Option Addr} {l : List Int} {R1 R2 R1' R2' : Nat → Prop} {wr w' : World} {d L : Nat} {g' : Lg} (h : RwO B N kc ka l R1 R2 wr) (ha : AftG R1 R2 d L wr g' w' R1' R2') : RwO B N kc ka l R1' R2' w' := by
  have hl : ∀ m, ka = some ⟨m, 0, none⟩ → m < wr.heap.size := fun m hm => by subst hm; exact h.own.lt.2
  refine ⟨h.own.blocks (fun m hm => ha.keep (hl m hm) (h.off m hm).1 (h.off m hm).2), fun m hm => ⟨fun e => ?_, fun e => ?_⟩⟩
  · have := hl m hm
    rcases ha.newD m e with e | e
    · exact (h.off m hm).1 e
    · omega
  · have := hl m hm
    rcases ha.newL m e with e | e
    · exact (h.off m hm).2 e
    · omega
theorem RwO.over {B N kc ab : Nat} {ka : Option Addr} {l : List Int} {R1 R2 : Nat → Prop} {wr : World} {cs : Array Value} (h : RwO B N kc ka l R1 R2 wr) (hb : Box wr ab cs 61) (cs2 : Array Value) : RwO B N kc ka l R1 R2 (wr.setRow ab cs2) :=
  ⟨h.own.blocks (fun m hm => setRow_other _ _ _ _ (by subst hm; exact own_not_box h.own hb (by decide))), h.off⟩
theorem kreplayV {w : World} {R : Nat → Prop} {d : Nat} {D : Ds} (h : DkM w R d D) (l : List Int) (N cap : Nat) (a : Option Addr) (hl : l.length = N) (hN : N ≤ 16) (hr : RdC w a (inL l)) (hw : ∀ s ∈ l, okI s) :
    Calls Tryz.prog 24 #[.pointer (some ⟨d, 0, none⟩), .slice a N cap] w fun e w' => ∃ (pm : Nat) (wm : Option Nat), e = .returned (.agg (ixC pm wm (replL D.S l).top)) ∧ IvM w' pm wm (replL D.S l) ∧ w.heap.size ≤ pm ∧ (∀ m, wm = some m → w.heap.size ≤ m) ∧ Below w.heap.size w w' := by
  have hok := replL_ok h.byt h.seg (l := l) hw
  refine (kreplay_at h l N cap a hl hN hr hw).mono ?_
  rintro e w' ⟨pm, wm, rfl, h1, h2, h3, h4, h5, h6⟩
  refine ⟨pm, wm, rfl, ⟨h1, h2, hok.1, ⟨?_, ?_⟩⟩, h4, h5, h6⟩
  · have := hok.2.1; omega
  · have := hok.2.2; omega
/-- A new box for an index. -/
theorem vx_new {w2 W : World} {RD2 RL2 : Nat → Prop} {d L : Nat} {g1 : Lg} (hg : LgM w2 RD2 RL2 d L g1) (hb : Below w2.heap.size w2 W) {ab pm : Nat} {wm : Option Nat} {x : Ix} {cs : Array Value} (hz : Box W ab cs 61) (hv : IvM W pm wm x) (hge : w2.heap.size ≤ ab) (hgp : w2.heap.size ≤ pm) (hgw : ∀ m, wm = some m → w2.heap.size ≤ m) :
    VxM w2.heap.size ab x pm wm RD2 RL2 (W.setRow ab (ixC pm wm x.top)) :=
  ⟨hz.setRow _, ⟨hv.puts.block (setRow_other _ _ _ _ (am_not_box hv.puts hz)), hv.waits.later (fun m hm => setRow_other _ _ _ _ (by
    rcases hv.waits with ⟨e, _⟩ | ⟨m2, e, hm2⟩
    · rw [e] at hm; cases hm
    · rw [e] at hm; cases hm; exact am_not_box hm2 hz)), hv.ok, hv.few⟩, fun m hm => by
    have h9 : w2.heap.size ≤ m := by
      rcases hm with rfl | rfl | hm
      · exact hge
      · exact hgp
      · exact hgw m hm
    exact ⟨fun e => by have := hg.dk.lt m e; omega, fun e => by have := hg.lx.lt m e; omega, h9⟩⟩
theorem rd_one {w : World} {b : Nat} {s : Int} (h : Box w b #[.int .i64 s] 3) : RdC w (some ⟨b, 0, none⟩) (inL [s]) := fun j u hj => by
  match j, hj with
  | 0, hj => exact ⟨b, 0, rfl, (h.cell 0).trans hj⟩
  | j + 1, hj => simp [inL] at hj
theorem AftG.step {RD RL RD1 RL1 R1 R2 : Nat → Prop} {d L : Nat} {w w1 w' : World} {g1 g' : Lg} (h : AftG RD RL d L w g1 w1 RD1 RL1) (k : AftG RD1 RL1 d L w1 g' w' R1 R2) : AftG RD RL d L w g' w' R1 R2 := by
  refine ⟨k.lg, h.only.trans k.only fun x hx => ?_, fun x hx => ?_, fun x hx => ?_⟩
  · rcases hx with hx | hx
    · rcases h.newD x hx with e | e
      · exact Or.inl (Or.inl e)
      · exact Or.inr e
    · rcases h.newL x hx with e | e
      · exact Or.inl (Or.inr e)
      · exact Or.inr e
  · rcases k.newD x hx with e | e
    · exact h.newD x e
    · exact Or.inr (Nat.le_trans h.only.size e)
  · rcases k.newL x hx with e | e
    · exact h.newL x e
    · exact Or.inr (Nat.le_trans h.only.size e)
/-- A box that is no block of the log's is written. -/
theorem AftG.over {RD RL R1 R2 : Nat → Prop} {d L : Nat} {w wr : World} {g : Lg} (h : AftG RD RL d L w g wr R1 R2) {ab B : Nat} (hn : ¬ R1 ab ∧ ¬ R2 ab ∧ B ≤ ab) (hw : w.heap.size ≤ ab) (hN : gNow < w.heap.size) (cs : Array Value) : AftG RD RL d L w g (wr.setRow ab cs) R1 R2 :=
  ⟨h.lg.keep (by simp) (fun k hk hm => setRow_other _ _ _ _ (fun e => by
    subst e
    rcases hm with hm | hm | hm
    · exact hn.1 hm
    · exact hn.2.1 hm
    · omega)), h.only.setRow (Or.inr hw) _, h.newD, h.newL⟩
structure PrS (w : World) (RD RL : Nat → Prop) (d L : Nat) (F : Lg × Int) (l : List Int) (B ab N kc : Nat) (ka : Option Addr) (k : Nat) (gk : Lg) (all : Ix) (pm : Nat) (wm : Option Nat) (R1 R2 : Nat → Prop) (wr : World) : Prop where
  aft : AftG RD RL d L w gk wr R1 R2
  few : Few gk.x
  vx : VxM B ab all pm wm R1 R2 wr
  row : RwO B N kc ka l R1 R2 wr
  eq : pruneGo (l.drop k) gk all = F
theorem AftG.later {RD RL R1 R2 : Nat → Prop} {d L : Nat} {w wr w' : World} {g : Lg} (h : AftG RD RL d L w g wr R1 R2) (hb : Below wr.heap.size wr w') : AftG RD RL d L w g w' R1 R2 :=
  ⟨h.lg.later hb, h.only.later hb, h.newD, h.newL⟩
theorem PrS.later {w : World} {RD RL : Nat → Prop} {d L : Nat} {F : Lg × Int} {l : List Int} {B ab N kc : Nat} {ka : Option Addr} {k : Nat} {gk : Lg} {all : Ix} {pm : Nat} {wm : Option Nat} {R1 R2 : Nat → Prop} {wr w' : World} (h : PrS w RD RL d L F l B ab N kc ka k gk all pm wm R1 R2 wr) (hb : Below wr.heap.size wr w') : PrS w RD RL d L F l B ab N kc ka k gk all pm wm R1 R2 w' :=
  ⟨h.aft.later hb, h.few, h.vx.later hb, h.row.later hb, h.eq⟩
theorem keepN_eq (s : Int) (l : List Int) : keepN s l = l.filter fun k => decide (k ≠ s) := by
  unfold keepN inB
  congr 1
  funext k
  simp
set_option maxHeartbeats 8000000 in
theorem prune_at {w : World} {RD RL : Nat → Prop} {d L : Nat} {g : Lg} (h : LgM w RD RL d L g) (hf : Few g.x) :
    Calls Tryz.prog 47 #[.pointer (some ⟨L, 0, none⟩)] w fun e w' => e = .returned (.int .i64 (pruneL g).2) ∧ AftL RD RL d L w (pruneL g).1 w' := by
  obtain ⟨F, hF⟩ : ∃ F, pruneL g = F := ⟨_, rfl⟩
  rw [hF]
  have G := Lib.hid h
  have HFW := Lib.hid hf
  have SY := Lib.hid (ksync_at h.dk)
  have HF : Hid (F = if (syncD g.D).2 = 0 then pruneGo (segsL (syncD g.D).1) ⟨(syncD g.D).1, g.n, g.x⟩ (replL (syncD g.D).1.S (segsL (syncD g.D).1)) else (⟨(syncD g.D).1, g.n, g.x⟩, (syncD g.D).2)) := Lib.hid hF.symm
  obtain ⟨X, hX⟩ : ∃ X, syncD g.D = X := ⟨_, rfl⟩
  rw [hX] at SY HF
  obtain ⟨D1, e1⟩ := X
  dsimp only at SY HF
  have l0 := h.disk_cell
  have mixed : Tryz.prog.follows .mixedOrders = true := by kernel_rfl
  have HNW : Hid (gNow < w.heap.size) := Lib.hid h.now.lt
  clear hX hF h hf
  go_enter Tryz.func47, Tryz.ntmps47
  go_wp2_with fail
  refine SY.out.mono ?_
  rintro e w2 ⟨rfl, ha⟩
  have HA : Hid (AftL RD RL d L w ⟨D1, g.n, g.x⟩ w2) := Lib.hid (G.out.disk ha)
  clear ha SY l0 G
  by_cases hz : e1 = 0
  · have dz : (e1 != 0) = false := by simp [hz]
    have HF2 : Hid (pruneGo (segsL D1) ⟨D1, g.n, g.x⟩ (replL D1.S (segsL D1)) = F) := Lib.hid (by rw [HF.out, if_pos hz])
    clear hz HF
    obtain ⟨RD2, RL2, A2⟩ := HA.out
    obtain ⟨g1, hg1⟩ : ∃ g1 : Lg, (⟨D1, g.n, g.x⟩ : Lg) = g1 := ⟨_, rfl⟩
    have HFW1 : Hid (Few g1.x) := Lib.hid (by rw [← hg1]; exact HFW.out)
    have ED : Hid (g1.D = D1) := Lib.hid (by rw [← hg1])
    rw [hg1] at A2 HF2
    rw [← ED.out] at HF2
    have AF := Lib.hid A2
    have G2 := Lib.hid A2.lg
    have HSB : Hid (w.heap.size ≤ w2.heap.size) := Lib.hid A2.only.size
    clear HA HFW hg1 A2 ED
    obtain ⟨N, hN⟩ : ∃ N, g1.D.S.length = N := ⟨_, rfl⟩
    have hN16 : N ≤ 16 := hN ▸ G2.out.dk.cnt
    have HNL : Hid ((segsL g1.D).length = N) := Lib.hid (by unfold segsL; rw [List.length_map, hN])
    have SG := Lib.hid (fun (W : World) (hW : DkM W RD2 d g1.D) => ksegs_at hW N hN)
    have RP := Lib.hid (fun (W : World) (a : Option Addr) (c : Nat) (hW : DkM W RD2 d g1.D) (hr : RdC W a (inL (segsL g1.D))) => kreplayV hW (segsL g1.D) N c a HNL.out hN16 hr (fun s hs => (hW.segs_ok s hs).1))
    clear hN
    go_upto_region 4 with fail
    go_cut [4] (fun v wc => ∃ (ab pm : Nat) (wm : Option Nat), v = .pointer (some ⟨ab, 0, none⟩) ∧ Hid (VxM w2.heap.size ab (replL g1.D.S (segsL g1.D)) pm wm RD2 RL2 wc) ∧ Hid (Below w2.heap.size w2 wc))
    case first =>
      refine wp_region_last 11 (fun w' => LgM w' RD2 RL2 d L g1 ∧ Below w2.heap.size w2 w') (by kernel_rfl) (⟨G2.out.drew, (Below.refl _ _).drew⟩) (fun hHeld hClosed => ?_)
      refine wtk (i := 0) (v := ?_) rfl hClosed (Or.inl ⟨by rfl, ?_⟩) hHeld (fun hClosed => ?_)
      rotate_left
      · intro wv hSw; go_simp; all_goals (with_reducible rfl)
      (try simp only [List.getElem_toArray, List.getElem_cons_zero, put_at, List.set])
      refine wtk (i := 1) (v := ?_) rfl hClosed (Or.inl ⟨by rfl, ?_⟩) hHeld (fun hClosed => ?_)
      rotate_left
      · intro wv hSw; go_simp; all_goals (with_reducible rfl)
      (try simp only [List.getElem_toArray, List.getElem_cons_succ, List.getElem_cons_zero, put_at, List.set])
      refine wtk (i := 2) (v := ?_) rfl hClosed (Or.inl ⟨by rfl, ?_⟩) hHeld (fun hClosed => ?_)
      rotate_left
      · intro wv hSw; go_simp; all_goals (with_reducible rfl)
      (try simp only [List.getElem_toArray, List.getElem_cons_succ, List.getElem_cons_zero, put_at, List.set])
      refine wtk (i := 3) (v := ?_) rfl hClosed (Or.inl ⟨by rfl, ?_⟩) hHeld (fun hClosed => ?_)
      rotate_left
      · intro wv hSw; have l0 := hSw.1.disk_cell; go_simp; all_goals (with_reducible rfl)
      (try simp only [List.getElem_toArray, List.getElem_cons_succ, List.getElem_cons_zero, put_at, List.set])
      refine wtk (i := 4) (v := ?_) rfl hClosed (Or.inl ⟨by rfl, ?_⟩) hHeld (fun hClosed => ?_)
      rotate_left
      · intro wv hSw; go_simp; all_goals (with_reducible rfl)
      (try simp only [List.getElem_toArray, List.getElem_cons_succ, List.getElem_cons_zero, put_at, List.set])
      refine wtk (i := 5) (v := ?_) rfl hClosed (Or.inl ⟨by rfl, ?_⟩) hHeld (fun hClosed => ?_)
      rotate_left
      · intro wv hSw; go_simp; all_goals (with_reducible rfl)
      (try simp only [List.getElem_toArray, List.getElem_cons_succ, List.getElem_cons_zero, put_at, List.set])
      refine wtk (i := 6) (v := ?_) rfl hClosed (Or.inl ⟨by rfl, ?_⟩) hHeld (fun hClosed => ?_)
      rotate_left
      · intro wv hSw; go_simp; all_goals (with_reducible rfl)
      (try simp only [List.getElem_toArray, List.getElem_cons_succ, List.getElem_cons_zero, put_at, List.set])
      refine wtk (i := 7) (v := ?_) rfl hClosed (Or.inl ⟨by rfl, ?_⟩) hHeld (fun hClosed => ?_)
      rotate_left
      · intro wv hSw; have l0 := hSw.1.disk_cell; go_simp; all_goals (with_reducible rfl)
      (try simp only [List.getElem_toArray, List.getElem_cons_succ, List.getElem_cons_zero, put_at, List.set])
      refine wpAnyL_two (i := 8) (j := 10) rfl rfl (by kernel_rfl) (by kernel_rfl) (by kernel_rfl) hClosed (fun KK hK => ?_) (fun KK hK => ?_)
      · go_simp
        refine (SG.out _ hHeld.1.dk).mono ?_
        rintro e w8 ⟨a8, c8, rfl, ho8, hb8⟩
        go_wp2_with fail
        refine hK.out _ _ ?_ (fun hClosed hHeld => ?_)
        · exact ⟨hHeld.1.later hb8, hHeld.2.trans (hb8.mono hHeld.2.size)⟩
        clear hK KK
        (first | simp only [List.getElem_toArray, List.getElem_cons_succ, List.getElem_cons_zero, put_at, List.set] | (try simp only [put_at, List.set]))
        refine wpAnyL_two (i := 9) (j := 10) rfl rfl (by kernel_rfl) (by kernel_rfl) (by kernel_rfl) hClosed (fun KK hK => ?_) (fun KK hK => ?_)
        · go_simp
          refine (RP.out _ a8 c8 hHeld.1.dk (rdC_of_own ho8 (by decide))).mono ?_
          rintro e w9 ⟨pm, wm, rfl, hv9, hp9, hq9, hb9⟩
          go_wp2_with fail
          refine hK.out _ _ ?_ (fun hClosed hHeld => ?_)
          · exact ⟨hHeld.1.later hb9, hHeld.2.trans (hb9.mono hHeld.2.size)⟩
          clear hK KK
          (first | simp only [List.getElem_toArray, List.getElem_cons_succ, List.getElem_cons_zero, put_at, List.set] | (try simp only [put_at, List.set]))
          refine wpAnyL_one (i := 10) rfl (by kernel_rfl) (by kernel_rfl) hClosed (fun KK hK => ?_)
          go_simp
          refine hK.out _ _ ?_ (fun hClosed hHeld => ?_)
          · exact ⟨hHeld.1.later ((Below.refl _ _).alloc (Nat.le_refl _) _), hHeld.2.alloc hHeld.2.size _⟩
          clear hK KK
          (first | simp only [List.getElem_toArray, List.getElem_cons_succ, List.getElem_cons_zero, put_at, List.set] | (try simp only [put_at, List.set]))
          refine wpAnyL_last rfl (by kernel_rfl) (by kernel_rfl) (fun KK hK => ?_)
          have hz := Box.new w9 #[.map none, .map none, .int .i64 0] 61
          have hv := hv9.later ((Below.refl w9.heap.size w9).alloc (Nat.le_refl _) (.cells #[.map none, .map none, .int .i64 0] 61))
          have hge : w2.heap.size ≤ w9.heap.size := Nat.le_trans (show w2.heap.size ≤ w8.heap.size from hb8.size) hb9.size
          have hgp : w2.heap.size ≤ pm := Nat.le_trans (show w2.heap.size ≤ w8.heap.size from hb8.size) hp9
          have hgw : ∀ m, wm = some m → w2.heap.size ≤ m := fun m hm => Nat.le_trans (show w2.heap.size ≤ w8.heap.size from hb8.size) (hq9 m hm)
          refine step_store_row rfl rfl rfl rfl hz rfl (by kernel_rfl) (by simp [ixC, Value.oneCell']) ?_
          refine hK.out _ _ ?_
          (try simp only [put_at, List.set])
          have VX := Lib.hid (vx_new G2.out hHeld.2 hz hv hge hgp hgw)
          have B9 := Lib.hid (below_row hHeld.2 hge (ixC pm wm (replL g1.D.S (segsL g1.D)).top))
          clear hHeld hz hv hv9 hp9 hq9 hge hgp hgw ho8 hb8 hb9
          go_wp2_with fail
          go_meet
          exact ⟨_, pm, wm, rfl, VX, B9⟩
        · go_simp
          refine hK.out _ _ ?_ (fun hClosed hHeld => ?_)
          · exact ⟨hHeld.1.later ((Below.refl _ _).alloc (Nat.le_refl _) _), hHeld.2.alloc hHeld.2.size _⟩
          clear hK KK
          (first | simp only [List.getElem_toArray, List.getElem_cons_succ, List.getElem_cons_zero, put_at, List.set] | (try simp only [put_at, List.set]))
          refine wpAnyL_one (i := 9) rfl (by kernel_rfl) (by kernel_rfl) hClosed (fun KK hK => ?_)
          go_simp
          refine (RP.out _ a8 c8 hHeld.1.dk (rdC_of_own (ho8.alloc _) (by decide))).mono ?_
          rintro e w9 ⟨pm, wm, rfl, hv9, hp9, hq9, hb9⟩
          go_wp2_with fail
          refine hK.out _ _ ?_ (fun hClosed hHeld => ?_)
          · exact ⟨hHeld.1.later hb9, hHeld.2.trans (hb9.mono hHeld.2.size)⟩
          clear hK KK
          (first | simp only [List.getElem_toArray, List.getElem_cons_succ, List.getElem_cons_zero, put_at, List.set] | (try simp only [put_at, List.set]))
          refine wpAnyL_last rfl (by kernel_rfl) (by kernel_rfl) (fun KK hK => ?_)
          have hz := (Box.new w8 #[.map none, .map none, .int .i64 0] 61).later hb9
          have hv := hv9
          have hge : w2.heap.size ≤ w8.heap.size := hb8.size
          have hgp : w2.heap.size ≤ pm := Nat.le_trans (show w2.heap.size ≤ (w8.alloc _).heap.size by rw [World.size_alloc]; have h9 : w2.heap.size ≤ w8.heap.size := hb8.size; omega) hp9
          have hgw : ∀ m, wm = some m → w2.heap.size ≤ m := fun m hm => Nat.le_trans (show w2.heap.size ≤ (w8.alloc _).heap.size by rw [World.size_alloc]; have h9 : w2.heap.size ≤ w8.heap.size := hb8.size; omega) (hq9 m hm)
          refine step_store_row rfl rfl rfl rfl hz rfl (by kernel_rfl) (by simp [ixC, Value.oneCell']) ?_
          refine hK.out _ _ ?_
          (try simp only [put_at, List.set])
          have VX := Lib.hid (vx_new G2.out hHeld.2 hz hv hge hgp hgw)
          have B9 := Lib.hid (below_row hHeld.2 hge (ixC pm wm (replL g1.D.S (segsL g1.D)).top))
          clear hHeld hz hv hv9 hp9 hq9 hge hgp hgw ho8 hb8 hb9
          go_wp2_with fail
          go_meet
          exact ⟨_, pm, wm, rfl, VX, B9⟩
      · go_simp
        refine hK.out _ _ ?_ (fun hClosed hHeld => ?_)
        · exact ⟨hHeld.1.later ((Below.refl _ _).alloc (Nat.le_refl _) _), hHeld.2.alloc hHeld.2.size _⟩
        clear hK KK
        (first | simp only [List.getElem_toArray, List.getElem_cons_succ, List.getElem_cons_zero, put_at, List.set] | (try simp only [put_at, List.set]))
        refine wpAnyL_one (i := 8) rfl (by kernel_rfl) (by kernel_rfl) hClosed (fun KK hK => ?_)
        go_simp
        refine (SG.out _ hHeld.1.dk).mono ?_
        rintro e w8 ⟨a8, c8, rfl, ho8, hb8⟩
        go_wp2_with fail
        refine hK.out _ _ ?_ (fun hClosed hHeld => ?_)
        · exact ⟨hHeld.1.later hb8, hHeld.2.trans (hb8.mono hHeld.2.size)⟩
        clear hK KK
        (first | simp only [List.getElem_toArray, List.getElem_cons_succ, List.getElem_cons_zero, put_at, List.set] | (try simp only [put_at, List.set]))
        refine wpAnyL_one (i := 9) rfl (by kernel_rfl) (by kernel_rfl) hClosed (fun KK hK => ?_)
        go_simp
        refine (RP.out _ a8 c8 hHeld.1.dk (rdC_of_own ho8 (by decide))).mono ?_
        rintro e w9 ⟨pm, wm, rfl, hv9, hp9, hq9, hb9⟩
        go_wp2_with fail
        refine hK.out _ _ ?_ (fun hClosed hHeld => ?_)
        · exact ⟨hHeld.1.later hb9, hHeld.2.trans (hb9.mono hHeld.2.size)⟩
        clear hK KK
        (first | simp only [List.getElem_toArray, List.getElem_cons_succ, List.getElem_cons_zero, put_at, List.set] | (try simp only [put_at, List.set]))
        refine wpAnyL_last rfl (by kernel_rfl) (by kernel_rfl) (fun KK hK => ?_)
        have hz := ((Box.new w2.drew #[.map none, .map none, .int .i64 0] 61).later hb8).later hb9
        have hv := hv9
        have h9 : w2.heap.size ≤ w8.heap.size := by have h9 := hb8.size; simp at h9; omega
        have hge : w2.heap.size ≤ w2.drew.heap.size := Nat.le_refl _
        have hgp : w2.heap.size ≤ pm := Nat.le_trans h9 hp9
        have hgw : ∀ m, wm = some m → w2.heap.size ≤ m := fun m hm => Nat.le_trans h9 (hq9 m hm)
        refine step_store_row rfl rfl rfl rfl hz rfl (by kernel_rfl) (by simp [ixC, Value.oneCell']) ?_
        refine hK.out _ _ ?_
        (try simp only [put_at, List.set])
        have VX := Lib.hid (vx_new G2.out hHeld.2 hz hv hge hgp hgw)
        have B9 := Lib.hid (below_row hHeld.2 hge (ixC pm wm (replL g1.D.S (segsL g1.D)).top))
        clear hHeld hz hv hv9 hp9 hq9 hge hgp hgw ho8 hb8 hb9
        go_wp2_with fail
        go_meet
        exact ⟨_, pm, wm, rfl, VX, B9⟩
    obtain ⟨ab, pm, wm, rfl, VX, B4⟩ := hcut
    have G4 := Lib.hid (G2.out.later B4.out)
    have l0 := G4.out.disk_cell
    have SG4 := Lib.hid (SG.out wc G4.out.dk)
    have HLO : Hid (∀ s ∈ segsL g1.D, okI s) := Lib.hid (fun s hs => (G2.out.dk.segs_ok s hs).1)
    clear SG RP
    go_wp2_with fail
    refine SG4.out.mono ?_
    rintro e w3 ⟨ka, kc, rfl, ho, hb⟩
    have ST : Hid (PrS w RD RL d L F (segsL g1.D) w2.heap.size ab N kc ka 0 g1 (replL g1.D.S (segsL g1.D)) pm wm RD2 RL2 w3) := Lib.hid ⟨AF.out.later (B4.out.trans (hb.mono B4.out.size)), HFW1.out, VX.out.later hb, ⟨ho.mono B4.out.size, fun m hm => by
      subst hm
      have h9 := ho.lt.1
      exact ⟨fun e => by have := G4.out.dk.lt m e; omega, fun e => by have := G4.out.lx.lt m e; omega⟩⟩, HF2.out⟩
    clear ho hb SG4 l0 G4 VX B4 AF HF2 HFW1 G2
    obtain ⟨l, hl⟩ : ∃ l, segsL g1.D = l := ⟨_, rfl⟩
    rw [hl] at ST HNL HLO
    obtain ⟨all0, hall⟩ : ∃ x, replL g1.D.S l = x := ⟨_, rfl⟩
    rw [hall] at ST
    clear hl hall
    go_wp2_with fail
    go_loopw [34] (fun vi wr => ∃ (k : Nat) (gk : Lg) (all : Ix) (pm : Nat) (wm : Option Nat) (R1 R2 : Nat → Prop), vi = .int .i64 (k : Int) ∧ k ≤ N ∧ Hid (PrS w RD RL d L F l w2.heap.size ab N kc ka k gk all pm wm R1 R2 wr)) (fun vi _ => N - (intV vi).toNat)
    case atStart => exact ⟨0, g1, all0, pm, wm, RD2, RL2, rfl, Nat.zero_le _, ST⟩
    case round =>
      clear ST
      obtain ⟨k, gk, all, pm, wm, R1, R2, rfl, hk, HS⟩ := hrel
      by_cases hkN : k < N
      · have d1 : decide ((k : Int) < (N : Int)) = true := decide_eq_true (by omega)
        have d1n : decide (k < N) = true := decide_eq_true hkN
        obtain ⟨s, hs⟩ : ∃ s, l[k]? = some s := ⟨_, List.getElem?_eq_getElem (by rw [HNL.out]; exact hkN)⟩
        have hok := Lib.hid (HLO.out s (List.mem_of_getElem? hs))
        obtain ⟨g9, hg9, _, _⟩ := HS.out.row.own.some_ (by omega)
        have HSK := Lib.hid HS.out
        subst hg9
        have ck := HSK.out.row.own.cell (inL_get hs)
        have ik0 : (0 : Int) ≤ (k : Int) := by omega
        obtain ⟨rest, hrest⟩ : ∃ x, replL gk.D.S (keepN s (segsL gk.D)) = x := ⟨_, rfl⟩
        obtain ⟨q, hq⟩ : ∃ q, holdsL gk rest all = q := ⟨_, rfl⟩
        have HEQ : Hid (F = if q = true then (if (dropsD gk.D [s]).2 = 0 then pruneGo (l.drop (k + 1)) ⟨(dropsD gk.D [s]).1, gk.n, followX gk.x rest⟩ rest else (⟨(dropsD gk.D [s]).1, gk.n, gk.x⟩, (dropsD gk.D [s]).2)) else pruneGo (l.drop (k + 1)) gk all) := Lib.hid (by
          rw [← HSK.out.eq]
          obtain ⟨hlt9, hge⟩ := List.getElem?_eq_some_iff.1 hs
          rw [List.drop_eq_getElem_cons hlt9, hge, ← hq, ← hrest, keepN_eq]
          rfl)
        have HRE := Lib.hid hrest
        have HQ := Lib.hid hq
        clear hs HS hrest hq
        go_upto_region 8 with fail
        refine code_forget (fun W => Hid (PrS w RD RL d L F l w2.heap.size ab N kc (some ⟨g9, 0, none⟩) k gk all pm wm R1 R2 W) ∧ Hid (Box W wr.heap.size #[.int .i64 s] 3)) ⟨Lib.hid (HSK.out.later ((Below.refl _ _).alloc (Nat.le_refl _) _)), Lib.hid (Box.new _ _ _)⟩ ?_
        obtain ⟨sb, hsb⟩ : ∃ p, wr.heap.size = p := ⟨_, rfl⟩
        rw [hsb]
        clear hsb ck HSK
        rintro w4 ⟨HS4, BS4⟩
        obtain ⟨N2, hN2⟩ : ∃ N2, gk.D.S.length = N2 := ⟨_, rfl⟩
        have hN16b : N2 ≤ 16 := hN2 ▸ HS4.out.aft.lg.dk.cnt
        have SG5 := Lib.hid (ksegs_at HS4.out.aft.lg.dk N2 hN2)
        have HL2 : Hid ((segsL gk.D).length = N2) := Lib.hid (by unfold segsL; rw [List.length_map, hN2])
        have HO2 : Hid (∀ v ∈ segsL gk.D, okI v) := Lib.hid (fun v hv => (HS4.out.aft.lg.dk.segs_ok v hv).1)
        have l0 := HS4.out.aft.lg.disk_cell
        clear hN2
        go_wp2_with fail
        refine SG5.out.mono ?_
        rintro e w5 ⟨a5, c5, rfl, ho5, hb5⟩
        have DL := Lib.hid (delN_at (segsL gk.D) N2 HL2.out ho5 s (BS4.out.later hb5) (fun g hg e => by
          subst hg
          have := ho5.lt.1
          have := BS4.out.lt
          omega))
        have HB5 := Lib.hid hb5
        have H5 : Hid (∀ m, a5 = some ⟨m, 0, none⟩ → w4.heap.size ≤ m) := Lib.hid (fun m hm => by subst hm; exact ho5.lt.1)
        clear ho5 hb5 SG5 l0
        go_wp2_with fail
        refine DL.out.mono ?_
        rintro e w6 ⟨m6, rfl, hm6, ho6, hO6⟩
        have b6 : Below w4.heap.size w4 w6 := HB5.out.trans (hO6.below HB5.out.size H5.out)
        have HS6 := Lib.hid (HS4.out.later b6)
        have BS6 := Lib.hid (BS4.out.later b6)
        have RP6 := Lib.hid (kreplayV HS6.out.aft.lg.dk (keepN s (segsL gk.D)) m6 c5 a5 hm6 (by have := List.length_filter_le (fun q => !inB s q) (segsL gk.D); have := HL2.out; unfold keepN at hm6; omega) (rdC_of_own ho6 (by decide)) (fun v hv => HO2.out v (List.mem_filter.1 hv).1))
        have l0 := HS6.out.aft.lg.disk_cell
        clear DL HB5 H5 hm6 ho6 hO6 b6 HS4 BS4 HL2 HO2
        rw [HRE.out] at RP6
        go_wp2_with fail
        refine RP6.out.mono ?_
        rintro e w7 ⟨pm7, wm7, rfl, hv7, hp7, hq7, hb7⟩
        have HS7 := Lib.hid (HS6.out.later hb7)
        have BS7 := Lib.hid (BS6.out.later hb7)
        have VX7 : Hid (VxM w2.heap.size w7.heap.size rest pm7 wm7 R1 R2 (w7.alloc (.cells (ixC pm7 wm7 rest.top) 61))) := Lib.hid (by
          have al := (Below.refl w7.heap.size w7).alloc (Nat.le_refl _) (.cells (ixC pm7 wm7 rest.top) 61)
          refine ⟨Box.new _ _ _, hv7.later al, fun m hm => ?_⟩
          have h9 : w6.heap.size ≤ m := by
            rcases hm with rfl | rfl | hm
            · exact hb7.size
            · exact hp7
            · exact hq7 m hm
          have h8 := HS6.out.vx.box.lt
          have h7 := (HS6.out.vx.off ab (Or.inl rfl)).2.2
          exact ⟨fun e => by have := HS6.out.aft.lg.dk.lt m e; omega, fun e => by have := HS6.out.aft.lg.lx.lt m e; omega, by omega⟩)
        clear RP6 hv7 hp7 hq7 hb7 HS6 BS6 l0 HRE
        unfold ixC
        go_upto_region 10 with fail
        refine code_forget (fun W => Hid (PrS w RD RL d L F l w2.heap.size ab N kc (some ⟨g9, 0, none⟩) k gk all pm wm R1 R2 W) ∧ Hid (Box W sb #[.int .i64 s] 3) ∧ Hid (VxM w2.heap.size w7.heap.size rest pm7 wm7 R1 R2 W)) ⟨Lib.hid (HS7.out.later ((Below.refl _ _).alloc (Nat.le_refl _) _)), Lib.hid (BS7.out.alloc _), VX7⟩ ?_
        obtain ⟨rb, hrb⟩ : ∃ p, w7.heap.size = p := ⟨_, rfl⟩
        rw [hrb]
        clear hrb HS7 BS7 VX7
        rintro w8 ⟨HS8, BS8, VX8⟩
        have HD := Lib.hid (holds_at HS8.out.aft.lg HS8.out.few VX8.out.iv HS8.out.vx.iv)
        rw [HQ.out] at HD
        have r0 : w8.cell? ⟨rb, 0, none⟩ = some (.map (some pm7)) := VX8.out.box.cell 0
        have r1 : w8.cell? ⟨rb, 1, none⟩ = some (.map wm7) := VX8.out.box.cell 1
        have r2 : w8.cell? ⟨rb, 2, none⟩ = some (.int .i64 rest.top) := VX8.out.box.cell 2
        have q0 : w8.cell? ⟨ab, 0, none⟩ = some (.map (some pm)) := HS8.out.vx.box.cell 0
        have q1 : w8.cell? ⟨ab, 1, none⟩ = some (.map wm) := HS8.out.vx.box.cell 1
        have q2 : w8.cell? ⟨ab, 2, none⟩ = some (.int .i64 all.top) := HS8.out.vx.box.cell 2
        clear HQ
        go_wp2_with fail
        refine HD.out.mono ?_
        rintro e w9 ⟨rfl, hb⟩
        have HS9 := Lib.hid (HS8.out.later hb)
        have BS9 := Lib.hid (BS8.out.later hb)
        have VX9 := Lib.hid (VX8.out.later hb)
        clear HS8 BS8 VX8 hb HD r0 r1 r2 q0 q1 q2
        cases q with
        | false =>
          have NX : Hid (PrS w RD RL d L F l w2.heap.size ab N kc (some ⟨g9, 0, none⟩) (k + 1) gk all pm wm R1 R2 w9) := Lib.hid ⟨HS9.out.aft, HS9.out.few, HS9.out.vx, HS9.out.row, HEQ.out.symm⟩
          clear HS9 BS9 VX9 HEQ
          go_wp2_with fail
          go_roundw
          case rel => exact ⟨k + 1, gk, all, pm, wm, R1, R2, by go_num, by omega, NX⟩
          case measure => simp [intV]; omega
        | true =>
          obtain ⟨X, hX⟩ : ∃ X, dropsD gk.D [s] = X := ⟨_, rfl⟩
          have DRP : Hid (∀ W a c, LgM W R1 R2 d L gk → RdC W a (inL [s]) → (∀ g off, a = some ⟨g, off, none⟩ → ¬ R1 g) → Calls Tryz.prog 49 #[.pointer (some ⟨d, 0, none⟩), .slice a 1 c] W fun e w' => e = .returned (.int .i64 X.2) ∧ AftK R1 d W X.1 w') := Lib.hid (fun W a c hW h1 h2 => by
            have h9 := drops_at hW.dk [s] 1 c a rfl (by decide) h1 (fun v hv => by rw [List.mem_singleton.1 hv]; exact hok.out) h2
            rw [hX] at h9
            exact h9)
          rw [hX] at HEQ
          obtain ⟨D2, e2⟩ := X
          dsimp only at DRP HEQ
          clear hX
          go_upto_region 11 with fail
          refine wp_region_lastM [6, 7] (fun w' => LgM w' R1 R2 d L gk ∧ Box w' sb #[.int .i64 s] 3 ∧ Below w9.heap.size w9 w') (by kernel_rfl) (⟨HS9.out.aft.lg.drew, BS9.out.drew, (Below.refl _ _).drew⟩) (fun hHeld hClosed => ?_)
          refine wpAnyM_takeP (i := 0) (v := ?_) rfl (by kernel_rfl) (by kernel_rfl) (by kernel_rfl) (fun _ _ _ h => h) (by kernel_rfl) hClosed (Or.inl ⟨by rfl, ?_⟩) (fun _ => hHeld) (fun hClosed => ?_)
          rotate_left
          · intro wv hSw; go_simp; all_goals (with_reducible rfl)
          (try simp only [List.getElem_toArray, List.getElem_cons_zero, put_at, List.set])
          refine wpAnyM_takeP (i := 1) (v := ?_) rfl (by kernel_rfl) (by kernel_rfl) (by kernel_rfl) (fun _ _ _ h => h) (by kernel_rfl) hClosed (Or.inl ⟨by rfl, ?_⟩) (fun _ => hHeld) (fun hClosed => ?_)
          rotate_left
          · intro wv hSw; go_simp; all_goals (with_reducible rfl)
          (try simp only [List.getElem_toArray, List.getElem_cons_succ, List.getElem_cons_zero, put_at, List.set])
          refine wpAnyM_takeP (i := 2) (v := ?_) rfl (by kernel_rfl) (by kernel_rfl) (by kernel_rfl) (fun _ _ _ h => h) (by kernel_rfl) hClosed (Or.inl ⟨by rfl, ?_⟩) (fun _ => hHeld) (fun hClosed => ?_)
          rotate_left
          · intro wv hSw; go_simp; all_goals (with_reducible rfl)
          (try simp only [List.getElem_toArray, List.getElem_cons_succ, List.getElem_cons_zero, put_at, List.set])
          refine wpAnyM_take (i := 3) (v := ?_) rfl (by kernel_rfl) (by kernel_rfl) (by kernel_rfl) (by kernel_rfl) (fun _ _ _ h => h) (by kernel_rfl) hClosed (Or.inl ⟨by rfl, ?_⟩) (fun _ => hHeld) (fun hClosed => ?_)
          rotate_left
          · intro wv hSw; have l0 := hSw.1.disk_cell; have s0 := hSw.2.1.cell 0; go_simp; all_goals (with_reducible rfl)
          (try simp only [List.getElem_toArray, List.getElem_cons_succ, List.getElem_cons_zero, put_at, List.set])
          refine wpAnyM_take (i := 4) (v := ?_) rfl (by kernel_rfl) (by kernel_rfl) (by kernel_rfl) (by kernel_rfl) (fun _ _ _ h => h) (by kernel_rfl) hClosed (Or.inl ⟨by rfl, ?_⟩) (fun _ => hHeld) (fun hClosed => ?_)
          rotate_left
          · intro wv hSw; have l0 := hSw.1.disk_cell; have s0 := hSw.2.1.cell 0; go_simp; all_goals (with_reducible rfl)
          (try simp only [List.getElem_toArray, List.getElem_cons_succ, List.getElem_cons_zero, put_at, List.set])
          refine wpAnyM_one (i := 5) rfl (by kernel_rfl) hClosed (fun KK hK => ?_)
          go_simp
          refine hK.out _ _ ?_ (fun hClosed hHeld => ?_)
          · exact ⟨hHeld.1.later ((Below.refl _ _).alloc (Nat.le_refl _) _), hHeld.2.1.alloc _, hHeld.2.2.alloc hHeld.2.2.size _⟩
          clear hK KK
          (first | simp only [List.getElem_toArray, List.getElem_cons_succ, List.getElem_cons_zero, put_at, List.set] | (try simp only [put_at, List.set]))
          refine wpAnyM_end (i := 6) rfl (by kernel_rfl) (by kernel_rfl) hClosed (fun KK hK => ?_)
          go_simp
          have B5 : Box (w9.alloc (.cells #[.int .i64 s] 3)).drew w9.heap.size #[.int .i64 s] 3 := Box.new w9 _ _
          refine (DRP.out _ _ _ hHeld.1 (rd_one B5) (fun g off e hr => by cases e; exact absurd (HS9.out.aft.lg.dk.lt _ hr) (Nat.lt_irrefl _))).mono ?_
          rintro e w10 ⟨rfl, ha⟩
          have H10 := Lib.hid (And.intro hHeld.2.2 ha)
          clear ha B5 hHeld
          go_wp2_with fail
          refine hK.out _ _ (fun hClosed => ?_)
          clear hK KK
          (try simp only [List.getElem_toArray, List.getElem_cons_succ, List.getElem_cons_zero, put_at, List.set])
          refine wpAnyM_end (i := 7) rfl (by kernel_rfl) (by kernel_rfl) hClosed (fun KK hK => ?_)
          go_simp
          refine hK.out _ _ (fun hClosed => ?_)
          clear hK KK
          (try simp only [List.getElem_toArray, List.getElem_cons_succ, List.getElem_cons_zero, put_at, List.set])
          refine wpAnyM_over (by kernel_rfl) ?_
          have b5 := H10.out.1
          have HS5 := HS9.out.later b5
          have VX5 := VX9.out.later b5
          obtain ⟨Q1, Q2, A9⟩ := HS5.aft.lg.disk H10.out.2
          have A10 := Lib.hid (HS5.aft.step A9)
          have VA := Lib.hid (HS5.vx.aft A9)
          have VR := Lib.hid (VX5.aft A9)
          have RW := Lib.hid (HS5.row.aft A9)
          have FW := Lib.hid HS5.few
          clear H10 b5 HS5 VX5 A9 HS9 BS9 VX9 hClosed DRP
          by_cases hz2 : e2 = 0
          · have dz2 : (e2 != 0) = false := by simp [hz2]
            have HE2 : Hid (F = pruneGo (l.drop (k + 1)) ⟨D2, gk.n, followX gk.x rest⟩ rest) := Lib.hid (by rw [HEQ.out]; simp [hz2])
            have FO := Lib.hid (follow_at A10.out.lg FW.out VR.out.iv (VR.out.off pm7 (Or.inr (Or.inl rfl))).2.1 (fun m hm => (VR.out.off m (Or.inr (Or.inr hm))).2.1))
            have FW2 : Hid (Few (followX gk.x rest)) := Lib.hid (follow_few FW.out)
            have r0 : w10.cell? ⟨rb, 0, none⟩ = some (.map (some pm7)) := VR.out.box.cell 0
            have r1 : w10.cell? ⟨rb, 1, none⟩ = some (.map wm7) := VR.out.box.cell 1
            have r2 : w10.cell? ⟨rb, 2, none⟩ = some (.int .i64 rest.top) := VR.out.box.cell 2
            clear hz2 HEQ FW
            go_wp2_with fail
            refine FO.out.mono ?_
            rintro e w11 ⟨rfl, Q3, Q4, A11⟩
            have A12 := Lib.hid (A10.out.step A11)
            have VA2 := Lib.hid (VA.out.aft A11)
            have VR2 := Lib.hid (VR.out.aft A11)
            have RW2 := Lib.hid (RW.out.aft A11)
            clear A11 FO A10 VA VR RW r0 r1 r2
            have r0 : w11.cell? ⟨rb, 0, none⟩ = some (.map (some pm7)) := VR2.out.box.cell 0
            have r1 : w11.cell? ⟨rb, 1, none⟩ = some (.map wm7) := VR2.out.box.cell 1
            have r2 : w11.cell? ⟨rb, 2, none⟩ = some (.int .i64 rest.top) := VR2.out.box.cell 2
            have hst : (Instr.storeAt 61 (.pointer (some ⟨ab, 0, none⟩)) (.agg #[.map (some pm7), .map wm7, .int .i64 rest.top])).run Tryz.prog w11 = .ok () (w11.setRow ab (ixC pm7 wm7 rest.top)) := storeAt_row (cells := ixC pm7 wm7 rest.top) (by exact VA2.out.box.room) (by kernel_rfl) (by simp [ixC, Value.oneCell'])
            have NX : Hid (PrS w RD RL d L F l w2.heap.size ab N kc (some ⟨g9, 0, none⟩) (k + 1) ⟨D2, gk.n, followX gk.x rest⟩ rest pm7 wm7 Q3 Q4 (w11.setRow ab (ixC pm7 wm7 rest.top))) := Lib.hid ⟨A12.out.over (VA2.out.off ab (Or.inl rfl)) (Nat.le_trans HSB.out (VA2.out.off ab (Or.inl rfl)).2.2) HNW.out _, FW2.out, VA2.out.over VR2.out, RW2.out.over VA2.out.box _, HE2.out.symm⟩
            obtain ⟨w12, hw12⟩ : ∃ W, w11.setRow ab (ixC pm7 wm7 rest.top) = W := ⟨_, rfl⟩
            rw [hw12] at hst NX
            clear hw12 A12 VA2 VR2 RW2 FW2 HE2
            go_wp2_with (refine wpList_storeP rfl _ _ _ rfl rfl rfl hst ?_)
            go_roundw
            case rel => exact ⟨k + 1, _, rest, pm7, wm7, Q3, Q4, by go_num, by omega, NX⟩
            case measure => simp [intV]; omega
          · have dz2 : (e2 != 0) = true := by simp [hz2]
            have FIN : Hid (F = (⟨D2, gk.n, gk.x⟩, e2) ∧ AftL RD RL d L w ⟨D2, gk.n, gk.x⟩ w10) := Lib.hid ⟨by rw [HEQ.out]; simp [hz2], Q1, Q2, A10.out⟩
            clear hz2 HEQ A10 VA VR RW FW
            go_wp2_with fail
            go_ret
            obtain ⟨rfl, h9⟩ := FIN.out
            exact ⟨rfl, h9⟩
      · have d1 : decide ((k : Int) < (N : Int)) = false := decide_eq_false (by omega)
        have hkk : k = N := by omega
        subst hkk
        have FIN : Hid (F = (gk, 0) ∧ AftL RD RL d L w gk wr) := Lib.hid ⟨by
          rw [← HS.out.eq, List.drop_of_length_le (by rw [HNL.out]; exact Nat.le_refl _)]
          rfl, ⟨R1, R2, HS.out.aft⟩⟩
        clear HS
        go_wp2_with fail
        go_ret
        obtain ⟨rfl, h9⟩ := FIN.out
        exact ⟨rfl, h9⟩
  · have dz : (e1 != 0) = true := by simp [hz]
    have FIN : Hid (F = (⟨D1, g.n, g.x⟩, e1) ∧ AftL RD RL d L w ⟨D1, g.n, g.x⟩ w2) := Lib.hid ⟨by rw [HF.out, if_neg hz], HA.out⟩
    clear hz HF HA
    go_wp2_with fail
    go_ret
    obtain ⟨rfl, h9⟩ := FIN.out
    exact ⟨rfl, h9⟩
end Go.Proofs.YtimkgaokcldgkaaGreatDoor
/- Package spill: Compact. Written by gen_compact.py out of compact.txt. -/
namespace Go.Proofs.YtimkgaokcldgkaaGreatDoor
open Go Go.RowKit Go.Maps Go.Sort
set_option linter.unusedVariables false
set_option linter.unusedSimpArgs false
set_option maxRecDepth 100000

/-- At most so many entries. -/
def FewK (K : Nat) (x : Ix) : Prop := x.puts.length ≤ K ∧ x.waits.length ≤ K
theorem follow_fewK {K : Nat} {x rest : Ix} (h : FewK K x) : FewK K (followX x rest) := by
  rw [follow_eq]
  unfold FewK
  dsimp only
  rw [(fpG_same srtI_some).1, (fwG_same srtS_some).1]
  exact h
theorem pruneGo_few {K : Nat} : ∀ (l : List Int) (g : Lg) (all : Ix), FewK K g.x → FewK K (pruneGo l g all).1.x ∧ (pruneGo l g all).1.n = g.n
  | [], g, all, h => ⟨h, rfl⟩
  | s :: t, g, all, h => by
    unfold pruneGo
    split
    · split
      · exact pruneGo_few t _ _ (follow_fewK h)
      · exact ⟨h, rfl⟩
    · exact pruneGo_few t _ _ h
theorem prune_few {K : Nat} {g : Lg} (h : FewK K g.x) : FewK K (pruneL g).1.x ∧ (pruneL g).1.n = g.n := by
  unfold pruneL
  split
  · exact pruneGo_few _ _ _ h
  · exact ⟨h, rfl⟩
/-! New segments lie behind all others. -/
theorem pS_last : ∀ {S : Sgs} {n : Int} (b : List Int), (∀ p ∈ S, p.1 < n) → pS S n b = S ++ [(n, b)]
  | [], n, b, _ => rfl
  | (m, c) :: t, n, b, h => by
    have h1 : m < n := h (m, c) List.mem_cons_self
    unfold pS
    rw [if_neg (by omega), if_neg (by omega), pS_last b (fun p hp => h p (List.mem_cons_of_mem _ hp))]
    rfl
theorem follow_last {S : Sgs} (hs : SS S) {l : List Int} (hl : S.map Prod.fst = l) (h2 : (followL l).2 = true) : ∀ p ∈ S, p.1 < (followL l).1 := by
  intro p hp
  have hm : p.1 ∈ l := hl ▸ List.mem_map_of_mem hp
  have hsrt : l.Pairwise (· < ·) := by
    rw [← hl, List.pairwise_map]
    exact hs
  unfold followL at h2 ⊢
  cases hg : l.getLast? with
  | none =>
    rw [List.getLast?_eq_none_iff] at hg
    rw [hg] at hm
    cases hm
  | some v =>
    rw [hg] at h2
    dsimp only at h2 ⊢
    by_cases hv : v = 9223372036854775807
    · rw [if_pos hv] at h2; cases h2
    · rw [if_neg hv]
      dsimp only
      obtain ⟨t, ht⟩ := List.getLast?_eq_some_iff.1 hg
      rw [ht] at hm hsrt
      rw [List.pairwise_append] at hsrt
      rcases List.mem_append.1 hm with hm | hm
      · have := hsrt.2.2 _ hm v (by simp)
        omega
      · rw [List.mem_singleton] at hm
        omega
theorem sync_S (D : Ds) : (syncD D).1.S = D.S := by
  unfold syncD
  split <;> rfl
theorem app_S (D : Ds) (n : Int) (b : List Int) : ((appD D n b).2 = 0 → (appD D n b).1.S = pS D.S n (gD D.S n ++ b)) ∧ ((appD D n b).2 ≠ 0 → (appD D n b).1.S = D.S) := by
  unfold appD
  split
  · exact ⟨fun h => absurd (show (5 : Int) = 0 from h) (by decide), fun _ => rfl⟩
  · split
    · exact ⟨fun h => absurd (show (7 : Int) = 0 from h) (by decide), fun _ => rfl⟩
    · exact ⟨fun _ => rfl, fun h => absurd rfl h⟩
theorem rewL_segs : ∀ (cs : List (List Int)) (D : Ds) (l : List Int), SS D.S → segsL D = l → (rewL D l cs).2.1 = segsL (rewL D l cs).1 ∧ l <+: (rewL D l cs).2.1
  | [], D, l, hs, hl => by
    unfold rewL
    refine ⟨?_, List.prefix_refl _⟩
    rw [← hl]
    unfold segsL
    rw [sync_S]
  | c :: t, D, l, hs, hl => by
    unfold rewL
    by_cases h2 : (followL l).2 = true
    · rw [if_pos h2]
      have hf := follow_last hs hl h2
      by_cases h3 : (appD D (followL l).1 c).2 = 0
      · rw [if_pos h3]
        have e := (app_S D (followL l).1 c).1 h3
        have ih := rewL_segs t (appD D (followL l).1 c).1 (l ++ [(followL l).1]) (by rw [e]; exact SS_put hs _ _) (by
          unfold segsL
          rw [e, pS_last _ hf, List.map_append]
          show segsL D ++ _ = _
          rw [hl]
          rfl)
        exact ⟨ih.1, (List.prefix_append _ _).trans ih.2⟩
      · rw [if_neg h3]
        refine ⟨?_, List.prefix_refl _⟩
        unfold segsL
        rw [(app_S D (followL l).1 c).2 h3]
        exact hl.symm
    · rw [if_neg h2]
      exact ⟨hl.symm, List.prefix_refl _⟩
theorem rewrite_len {g : Lg} (hs : SS g.D.S) {w' : World} {R : Nat → Prop} {d : Nat} (h : DkM w' R d (rewriteL g).1) : (rewriteL g).2.1.length ≤ 16 := by
  have hc := h.cnt
  unfold rewriteL at hc ⊢
  split
  · exact Nat.zero_le _
  · rename_i hn
    rw [if_neg hn] at hc
    dsimp only at hc ⊢
    rw [(rewL_segs (packL g) g.D (segsL g.D) hs rfl).1, List.length_drop]
    unfold segsL at hc ⊢
    rw [List.length_map]
    omega
section
variable {w w' : World} {RD RL : Nat → Prop} {d L : Nat} {g : Lg}
theorem LgM.diskG {D' : Ds} {R2 : Nat → Prop} (h : LgM w RD RL d L g) (hd : DkM w' R2 d D') (ht : TurnR RD w R2 w') : AftG RD RL d L w ⟨D', g.n, g.x⟩ w' R2 RL :=
  ⟨⟨hd, h.lx.only ht.only (fun k h1 h2 => h.ap k h2 h1), fun k hk hl => by
    rcases ht.new k hk with e | e
    · exact h.ap k e hl
    · have := h.lx.lt k hl
      omega, h.now.only ht.only h.nD, fun e => by
    rcases ht.new _ e with e | e
    · exact h.nD e
    · have := h.now.lt
      omega, h.nL⟩, ht.only.wide (fun k hk => Or.inl hk), ht.new, fun k hk => Or.inl hk⟩
theorem LgM.n_cell (h : LgM w RD RL d L g) : w.cell? ⟨L, 1, none⟩ = some (.int .i64 g.n) := by
  obtain ⟨pm, wm, hi, hmi⟩ := h.lx.ix
  exact hi.box.cell 1
theorem ksize_at (h : LgM w RD RL d L g) (N : Nat) (hN : g.D.S.length = N) : Calls Tryz.prog 46 #[.pointer (some ⟨L, 0, none⟩)] w fun e w' => e = .returned (.int .i64 (N : Int)) ∧ Below w.heap.size w w' := by
  obtain ⟨pm, wm, hi, hmi⟩ := h.lx.ix
  obtain ⟨bm, uc, V, ua, hd, hm⟩ := h.dk.dm
  exact size_at hd hi.box N hN
/-- A new index is stored. -/
theorem LgM.reindex {W : World} (h : LgM w RD RL d L g) (hb : Below w.heap.size w W) {pm : Nat} {wm : Option Nat} {y : Ix} (hp : PtM W pm y.puts) (hw : WtM W wm y.waits) (hne : wm ≠ some pm) (g1 : w.heap.size ≤ pm) (g2 : ∀ m, wm = some m → w.heap.size ≤ m) (hok : IxOk y) :
    ((Instr.storeAt 61 (.pointer (some ⟨L, 2, none⟩)) (.agg #[.map (some pm), .map wm, .int .i64 y.top])).run Tryz.prog W = .ok () (W.setRow L (logC d g.n pm wm y.top))) ∧ AftL RD RL d L w ⟨g.D, g.n, y⟩ (W.setRow L (logC d g.n pm wm y.top)) := by
  obtain ⟨pm0, wm0, hi, hmi⟩ := h.lx.ix
  have hB := hi.box.later hb
  have hg : W.heap[L]? = some (.cells (logC d g.n pm0 wm0 g.x.top) 66 (0, 0)) := hB
  have hst := run_storeCells_at Tryz.prog L 2 66 [.map (some pm), .map wm, .int .i64 y.top] 0 (logC d g.n pm0 wm0 g.x.top) W hg (show 5 ≤ 5 by decide) (fun v hv => by
    rcases List.mem_cons.1 hv with rfl | hv
    · rfl
    · rcases List.mem_cons.1 hv with rfl | hv
      · rfl
      · rw [List.mem_singleton] at hv
        rw [hv]; rfl)
  have hsz : (Tryz.prog.info? 61).map (·.size) = some 3 := by kernel_rfl
  obtain ⟨inf, hq, hi2⟩ := Option.map_eq_some_iff.1 hsz
  have hRL : RL L := hmi L (Or.inl rfl)
  have hp' : PtM (W.setRow L (logC d g.n pm wm y.top)) pm y.puts := hp.block (setRow_other _ _ _ _ (am_not_box hp hB))
  have hw' : WtM (W.setRow L (logC d g.n pm wm y.top)) wm y.waits := hw.later (fun m hm => setRow_other _ _ _ _ (by
    rcases hw with ⟨e, _⟩ | ⟨m2, e, hm2⟩
    · rw [e] at hm; cases hm
    · rw [e] at hm; cases hm; exact am_not_box hm2 hB))
  have hx : IxM (W.setRow L (logC d g.n pm wm y.top)) 0 L 2 (logC d g.n pm wm y.top) 66 pm wm y := ⟨hB.setRow _, rfl, rfl, rfl, hp', hw', hne, Nat.zero_le _, Nat.zero_le _, fun m _ => Nat.zero_le _⟩
  refine ⟨?_, h.index ⟨MineI L pm wm, ⟨⟨pm, wm, hx, fun k hk => hk⟩, fun k hk => (hx.lt hk).1, hok⟩, ⟨(Only.of_below _ hb).setRow (Or.inl hRL) _, fun k hk => ?_⟩⟩⟩
  · simp only [Instr.storeAt, Instr.sureAddr, Sem.run_bind, Sem.run_pure, Result.andThen]
    simp [storeVar, sizeOf, typeInfo, hq, Value.cells, hi2]
    simpa [logC] using hst
  · rcases hk with hk | hk | hk
    · exact Or.inl (hk ▸ hRL)
    · exact Or.inr (hk ▸ g1)
    · exact Or.inr (g2 k hk)
end
theorem compact_eq (g : Lg) : compactL g = if g.n < (g.D.S.length : Int) then (if (pruneL g).2 = 0 then compactGo (pruneL g).1 else pruneL g) else compactGo g := rfl
theorem cgo_eq (g : Lg) : compactGo g = if (rewriteL g).2.2 = 0 then (⟨(dropsD (rewriteL g).1 (segsL g.D)).1, g.n, replL (rewriteL g).1.S (rewriteL g).2.1⟩, (dropsD (rewriteL g).1 (segsL g.D)).2)
  else (⟨(dropsD (rewriteL g).1 (rewriteL g).2.1).1, g.n, g.x⟩, (rewriteL g).2.2) := rfl
def CmP (w : World) (RD RL : Nat → Prop) (d L K : Nat) (g1 : Lg) (w' : World) : Prop := AftL RD RL d L w g1 w' ∧ FewK K g1.x
set_option maxHeartbeats 8000000 in
theorem compact_at {w : World} {RD RL : Nat → Prop} {d L : Nat} {g : Lg} (h : LgM w RD RL d L g) {K : Nat} (hf : FewK K g.x) (hK1 : 32768 ≤ K) (hK2 : K ≤ 900000) (hgn : g.n ≤ 1000) :
    Calls Tryz.prog 28 #[.pointer (some ⟨L, 0, none⟩)] w fun e w' => e = .returned (.int .i64 (compactL g).2) ∧ CmP w RD RL d L K (compactL g).1 w' := by
  obtain ⟨F, hF⟩ : ∃ F, compactL g = F := ⟨_, rfl⟩
  have HF : Hid (F = if g.n < (g.D.S.length : Int) then (if (pruneL g).2 = 0 then compactGo (pruneL g).1 else pruneL g) else compactGo g) := Lib.hid (by rw [← hF]; exact compact_eq g)
  rw [hF]
  have G := Lib.hid h
  have HFK := Lib.hid hf
  have HGN := Lib.hid hgn
  have HKK := Lib.hid hK1
  obtain ⟨N, hN⟩ : ∃ N, g.D.S.length = N := ⟨_, rfl⟩
  have SZ := Lib.hid (fun (W : World) (hW : LgM W RD RL d L g) => ksize_at hW N hN)
  have hFew : Few g.x := ⟨Nat.le_trans hf.1 hK2, Nat.le_trans hf.2 hK2⟩
  have PR := Lib.hid (fun (W : World) (hW : LgM W RD RL d L g) => prune_at hW hFew)
  have PF := Lib.hid (prune_few hf)
  rw [hN] at HF
  obtain ⟨X, hX⟩ : ∃ X, pruneL g = X := ⟨_, rfl⟩
  rw [hX] at PR PF HF
  obtain ⟨gp, ep⟩ := X
  dsimp only at PR PF HF
  have mixed : Tryz.prog.follows .mixedOrders = true := by kernel_rfl
  clear hX hF h hf hgn hK1 hN hFew
  go_enter Tryz.func28, Tryz.ntmps28
  go_upto_region 3 with fail
  refine wp_region_last 6 (fun w' => LgM w' RD RL d L g ∧ Below w.heap.size w w') (by kernel_rfl) (⟨G.out.drew, (Below.refl _ _).drew⟩) (fun hHeld hClosed => ?_)
  refine wtk (i := 0) (v := ?_) rfl hClosed (Or.inl ⟨by rfl, ?_⟩) hHeld (fun hClosed => ?_)
  rotate_left
  · intro wv hSw; go_simp; all_goals (with_reducible rfl)
  (try simp only [List.getElem_toArray, List.getElem_cons_zero, put_at, List.set])
  refine wtk (i := 2) (v := ?_) rfl hClosed (Or.inl ⟨by rfl, ?_⟩) hHeld (fun hClosed => ?_)
  rotate_left
  · intro wv hSw; go_simp; all_goals (with_reducible rfl)
  (try simp only [List.getElem_toArray, List.getElem_cons_succ, List.getElem_cons_zero, put_at, List.set])
  refine wtk (i := 3) (v := ?_) rfl hClosed (Or.inl ⟨by rfl, ?_⟩) hHeld (fun hClosed => ?_)
  rotate_left
  · intro wv hSw; go_simp; all_goals (with_reducible rfl)
  (try simp only [List.getElem_toArray, List.getElem_cons_succ, List.getElem_cons_zero, put_at, List.set])
  refine wtk (i := 4) (v := ?_) rfl hClosed (Or.inl ⟨by rfl, ?_⟩) hHeld (fun hClosed => ?_)
  rotate_left
  · intro wv hSw; go_simp; all_goals (with_reducible rfl)
  (try simp only [List.getElem_toArray, List.getElem_cons_succ, List.getElem_cons_zero, put_at, List.set])
  refine wtk (i := 5) (v := ?_) rfl hClosed (Or.inl ⟨by rfl, ?_⟩) hHeld (fun hClosed => ?_)
  rotate_left
  · intro wv hSw; have l1 := hSw.1.n_cell; go_simp; all_goals (with_reducible rfl)
  (try simp only [List.getElem_toArray, List.getElem_cons_succ, List.getElem_cons_zero, put_at, List.set])
  refine wpAnyL_one (i := 1) rfl (by kernel_rfl) (by kernel_rfl) hClosed (fun KK hK => ?_)
  go_simp
  refine (SZ.out _ hHeld.1).mono ?_
  rintro e w2 ⟨rfl, hb2⟩
  go_wp2_with fail
  refine hK.out _ _ ?_ (fun hClosed hHeld => ?_)
  · exact ⟨hHeld.1.later hb2, hHeld.2.trans (hb2.mono hHeld.2.size)⟩
  clear hK KK
  (first | simp only [List.getElem_toArray, List.getElem_cons_succ, List.getElem_cons_zero, put_at, List.set] | (try simp only [put_at, List.set]))
  refine wpAnyL_last rfl (by kernel_rfl) (by kernel_rfl) (fun KK hK => ?_)
  go_simp
  refine hK.out _ _ ?_
  (try simp only [put_at, List.set])
  have GW := Lib.hid hHeld.1
  have BW := Lib.hid hHeld.2
  clear hHeld hClosed SZ
  go_upto_if 15 with fail
  go_cut [] (fun wc => ∃ (g1 : Lg) (R1 R2 : Nat → Prop), Hid (AftG RD RL d L w g1 wc R1 R2 ∧ FewK K g1.x ∧ g1.n ≤ 1000 ∧ compactGo g1 = F))
  case first =>
    by_cases hq : g.n < (N : Int)
    · have dq : decide (g.n < (N : Int)) = true := decide_eq_true hq
      have HF2 : Hid (F = if ep = 0 then compactGo gp else (gp, ep)) := Lib.hid (by rw [HF.out, if_pos hq])
      have PR2 := Lib.hid (PR.out _ GW.out)
      clear HF PR
      go_wp2_with fail
      refine PR2.out.mono ?_
      rintro e w3 ⟨rfl, ha⟩
      have A3 : Hid (AftL RD RL d L w gp w3) := Lib.hid (AftL.before BW.out ha)
      clear ha PR2 GW BW
      by_cases hz : ep = 0
      · have dz : (ep != 0) = false := by simp [hz]
        obtain ⟨R1, R2, A4⟩ := A3.out
        have NX : Hid (AftG RD RL d L w gp w3 R1 R2 ∧ FewK K gp.x ∧ gp.n ≤ 1000 ∧ compactGo gp = F) := Lib.hid ⟨A4, PF.out.1, by rw [PF.out.2]; exact HGN.out, by rw [HF2.out, if_pos hz]⟩
        clear A4 A3 hz HF2
        go_wp2_with fail
        go_meet
        exact ⟨gp, R1, R2, NX⟩
      · have dz : (ep != 0) = true := by simp [hz]
        have FIN : Hid (F = (gp, ep) ∧ CmP w RD RL d L K gp w3) := Lib.hid ⟨by rw [HF2.out, if_neg hz], A3.out, PF.out.1⟩
        clear A3 hz HF2
        go_wp2_with fail
        go_ret
        obtain ⟨rfl, h9⟩ := FIN.out
        exact ⟨rfl, h9⟩
    · have dq : decide (g.n < (N : Int)) = false := decide_eq_false hq
      have NX : Hid (AftG RD RL d L w g w2 RD RL ∧ FewK K g.x ∧ g.n ≤ 1000 ∧ compactGo g = F) := Lib.hid ⟨⟨GW.out, Only.of_below _ BW.out, fun k hk => Or.inl hk, fun k hk => Or.inl hk⟩, HFK.out, HGN.out, by rw [HF.out, if_neg hq]⟩
      clear HF PR GW BW
      go_wp2_with fail
      go_meet
      exact ⟨g, RD, RL, NX⟩
  obtain ⟨g1, R1, R2, A1⟩ := hcut
  clear HF PR PF GW BW HFK HGN G
  obtain ⟨N1, hN1⟩ : ∃ N1, g1.D.S.length = N1 := ⟨_, rfl⟩
  have SG := Lib.hid (ksegs_at A1.out.1.lg.dk N1 hN1)
  have HNL : Hid ((segsL g1.D).length = N1) := Lib.hid (by unfold segsL; rw [List.length_map, hN1])
  have hN16 : N1 ≤ 16 := hN1 ▸ A1.out.1.lg.dk.cnt
  have l0 := A1.out.1.lg.disk_cell
  clear hN1
  go_wp2_with fail
  refine SG.out.mono ?_
  rintro e w3 ⟨oa, oc, rfl, ho, hb⟩
  have A3 := Lib.hid (A1.out.1.later hb)
  have FK1 := Lib.hid A1.out.2.1
  have OW : Hid (RwO wc.heap.size N1 oc oa (segsL g1.D) R1 R2 w3) := Lib.hid ⟨ho, fun m hm => by
    subst hm
    have h9 := ho.lt.1
    exact ⟨fun e => by have := A1.out.1.lg.dk.lt m e; omega, fun e => by have := A1.out.1.lg.lx.lt m e; omega⟩⟩
  have RW := Lib.hid (rewrite_at A3.out.lg ⟨Nat.le_trans A1.out.2.1.1 hK2, Nat.le_trans A1.out.2.1.2 hK2⟩ (rdC_of_own ho (by decide)) HNL.out (fun e => by
    rcases ho.form with ⟨_, h1, h2⟩ | ⟨g9, h1, _⟩
    · exact ⟨h1, h2⟩
    · rw [e] at h1; cases h1) A1.out.2.2.1)
  have HSS := Lib.hid A1.out.1.lg.dk.ss
  have HF1 : Hid (F = if (rewriteL g1).2.2 = 0 then (⟨(dropsD (rewriteL g1).1 (segsL g1.D)).1, g1.n, replL (rewriteL g1).1.S (rewriteL g1).2.1⟩, (dropsD (rewriteL g1).1 (segsL g1.D)).2) else (⟨(dropsD (rewriteL g1).1 (rewriteL g1).2.1).1, g1.n, g1.x⟩, (rewriteL g1).2.2)) := Lib.hid (by rw [← A1.out.2.2.2]; exact cgo_eq g1)
  have HLN := Lib.hid (fun (W : World) (R : Nat → Prop) (hW : DkM W R d (rewriteL g1).1) => rewrite_len HSS.out hW)
  have SOK : Hid (∀ s ∈ segsL g1.D, okI s) := Lib.hid (fun s hs => (A1.out.1.lg.dk.segs_ok s hs).1)
  clear ho hb SG l0 A1
  obtain ⟨X, hX⟩ : ∃ X, rewriteL g1 = X := ⟨_, rfl⟩
  rw [hX] at RW HF1 HLN
  obtain ⟨D2, fr, e2⟩ := X
  dsimp only at RW HF1 HLN
  clear hX HSS
  go_wp2_with fail
  refine RW.out.mono ?_
  rintro e w4 ⟨M, fc, fa, rfl, Q1, hd, ht, hlen, hrd, hok, hM, hap⟩
  have hM16 : M ≤ 16 := hlen ▸ HLN.out _ _ hd
  have A4 := A3.out.lg.diskG hd ht
  have A5 := Lib.hid (A3.out.step A4)
  have OW2 := Lib.hid (OW.out.aft A4)
  have DK4 := Lib.hid hd
  have FRL := Lib.hid hlen
  have FRD := Lib.hid hrd
  have FOK : Hid (∀ s ∈ fr, okI s) := Lib.hid (fun s hs => (hok s hs).1)
  have FAP : Hid (∀ g off, fa = some ⟨g, off, none⟩ → ¬ Q1 g) := Lib.hid (fun g off e => (hap g off e).2)
  clear hd ht hlen hrd hok hM hap A4 A3 OW RW HLN
  by_cases hz : e2 = 0
  · have dz : (e2 != 0) = false := by simp [hz]
    have HF2 : Hid (F = (⟨(dropsD D2 (segsL g1.D)).1, g1.n, replL D2.S fr⟩, (dropsD D2 (segsL g1.D)).2)) := Lib.hid (by rw [HF1.out, if_pos hz])
    clear hz HF1
    obtain ⟨g2, hg2⟩ : ∃ g2 : Lg, (⟨D2, g1.n, g1.x⟩ : Lg) = g2 := ⟨_, rfl⟩
    rw [hg2] at A5
    have ED : Hid (g2.D = D2 ∧ g2.n = g1.n) := Lib.hid (by rw [← hg2]; exact ⟨rfl, rfl⟩)
    rw [← ED.out.1] at DK4 HF2
    have G5 := Lib.hid A5.out.lg
    have RX : Hid (IxOk (replL g2.D.S fr) ∧ FewK K (replL g2.D.S fr)) := Lib.hid (by
      have h9 := replL_ok DK4.out.byt DK4.out.seg FOK.out
      rw [FRL.out] at h9
      exact ⟨h9.1, by have := HKK.out; have := h9.2.1; omega, by have := HKK.out; have := h9.2.2; omega⟩)
    have RP := Lib.hid (kreplay_at DK4.out fr M fc fa FRL.out hM16 FRD.out FOK.out)
    have l0 := G5.out.disk_cell
    obtain ⟨rx, hrx⟩ : ∃ rx, replL g2.D.S fr = rx := ⟨_, rfl⟩
    rw [hrx] at RX RP HF2
    clear hrx hg2 DK4 FRD FAP
    go_wp2_with fail
    refine RP.out.mono ?_
    rintro e w6 ⟨pm, wm, rfl, hp6, hw6, hne6, hp6b, hw6b, hb6⟩
    obtain ⟨hst, hre⟩ := G5.out.reindex hb6 hp6 hw6 hne6 hp6b hw6b RX.out.1
    clear l0 hp6 hw6 hne6 hp6b hw6b hb6
    obtain ⟨Q3, Q4, A6⟩ := hre
    have OW3 := Lib.hid (OW2.out.aft A6)
    have A7 := Lib.hid (A5.out.step A6)
    obtain ⟨w7, hw7⟩ : ∃ W, w6.setRow L (logC d g2.n pm wm rx.top) = W := ⟨_, rfl⟩
    rw [hw7] at A7 OW3 hst
    have DR := Lib.hid (drops_at A7.out.lg.dk (segsL g1.D) N1 oc oa HNL.out (by omega) (rdC_of_own OW3.out.own (by decide)) SOK.out (fun g off e => (OW3.out.off g (by
      rcases OW3.out.own.form with ⟨h1, _⟩ | ⟨g9, h1, _⟩
      · rw [h1] at e; cases e
      · rw [h1] at e ⊢; cases e; rfl)).1))
    dsimp only at DR
    have l0 := A7.out.lg.disk_cell
    have FIN : Hid (∀ W, AftK Q3 d w7 (dropsD g2.D (segsL g1.D)).1 W → F = (⟨(dropsD g2.D (segsL g1.D)).1, g1.n, rx⟩, (dropsD g2.D (segsL g1.D)).2) ∧ CmP w RD RL d L K ⟨(dropsD g2.D (segsL g1.D)).1, g1.n, rx⟩ W) := Lib.hid (fun W hW => ⟨HF2.out, by
      obtain ⟨Q5, Q6, A8⟩ := A7.out.lg.disk hW
      have A9 := A7.out.step A8
      dsimp only at A9
      rw [ED.out.2] at A9
      exact ⟨Q5, Q6, A9⟩, RX.out.2⟩)
    clear A6 hw7 A7 OW3 OW2 A5 RX HF2 ED FK1 SOK HNL G5 RP
    go_wp2_with (refine wpList_storeP rfl _ _ _ rfl rfl rfl hst ?_)
    refine DR.out.mono ?_
    rintro e w8 ⟨rfl, ha⟩
    have FN := Lib.hid (FIN.out w8 ha)
    clear FIN ha DR
    go_wp2_with fail
    go_ret
    obtain ⟨rfl, h9⟩ := FN.out
    exact ⟨rfl, h9⟩
  · have dz : (e2 != 0) = true := by simp [hz]
    have DR := Lib.hid (drops_at DK4.out fr M fc fa FRL.out (by omega) FRD.out FOK.out FAP.out)
    have FIN : Hid (∀ W, AftK Q1 d w4 (dropsD D2 fr).1 W → F = (⟨(dropsD D2 fr).1, g1.n, g1.x⟩, e2) ∧ CmP w RD RL d L K ⟨(dropsD D2 fr).1, g1.n, g1.x⟩ W) := Lib.hid (fun W hW => ⟨by rw [HF1.out, if_neg hz], by
      obtain ⟨Q3, Q4, A6⟩ := A5.out.lg.disk hW
      exact ⟨Q3, Q4, A5.out.step A6⟩, FK1.out⟩)
    have l0 := A5.out.lg.disk_cell
    clear hz HF1 A5 OW2 FK1
    go_wp2_with fail
    refine DR.out.mono ?_
    rintro e w5 ⟨rfl, ha⟩
    have FN := Lib.hid (FIN.out w5 ha)
    clear FIN ha DR
    go_wp2_with fail
    go_ret
    obtain ⟨rfl, h9⟩ := FN.out
    exact ⟨rfl, h9⟩
end Go.Proofs.YtimkgaokcldgkaaGreatDoor
/- Package spill: note: a record is written, or all is. Written by gen_note.py. -/
namespace Go.Proofs.YtimkgaokcldgkaaGreatDoor
open Go Go.RowKit Go.Maps
set_option linter.unusedVariables false
set_option linter.unusedSimpArgs false
set_option maxRecDepth 100000

section
variable {w w' : World} {RD RL : Nat → Prop} {d L K : Nat} {g g1 : Lg}
theorem room_ok (h : LgM w RD RL d L g) {size : Nat} (hs : size ≤ 100000) {P : Pl} (hP : roomL g.D g.n size = (P, true)) : PlOk P ∧ 0 ≤ P.seg := by
  have hk := h.dk.segs_ok
  have hf := followL_ok hk
  unfold roomL at hP
  split at hP
  · cases hP
  · split at hP
    · rename_i p hp
      obtain ⟨v, hv, hl⟩ := Option.bind_eq_some_iff.1 hp
      unfold lastP at hl
      split at hl
      · rename_i hq
        injection hl with hl
        injection hP with hP _
        subst hP
        subst hl
        have h9 := hk v (List.mem_of_getLast? hv)
        exact ⟨⟨h9.1, Int.natCast_nonneg _, by show ((usedL _ : Nat) : Int) ≤ _; have := hq.2; omega, Int.natCast_nonneg _, by show (size : Int) ≤ _; omega⟩, h9.2⟩
      · cases hl
    · unfold freshP at hP
      injection hP with hP _
      subst hP
      exact ⟨⟨hf.1, Int.le_refl 0, by show (0 : Int) ≤ _; decide, Int.natCast_nonneg _, by show (size : Int) ≤ _; omega⟩, hf.2⟩
theorem CmP.later {w2 : World} (h : CmP w RD RL d L K g1 w') (hb : Below w'.heap.size w' w2) : CmP w RD RL d L K g1 w2 := ⟨h.1.later hb, h.2⟩
theorem CmP.before {w0 : World} (hb : Below w0.heap.size w0 w) (h : CmP w RD RL d L K g1 w') : CmP w0 RD RL d L K g1 w' := ⟨AftL.before hb h.1, h.2⟩
/-- A box of one's own stays. -/
theorem AftL.box {b : Nat} {cs : Array Value} {t : TypeId} (h : AftL RD RL d L w g1 w') (hb : Box w b cs t) (hn : ¬ (RD b ∨ RL b)) : Box w' b cs t := by
  obtain ⟨R1, R2, k⟩ := h
  exact hb.only k.only hn
theorem AftL.now (h : AftL RD RL d L w g1 w') : NowM w' := by
  obtain ⟨R1, R2, k⟩ := h
  exact k.lg.now
theorem AftL.over {w0 : World} {z : Nat} (hb : Below w0.heap.size w0 w) (h : AftL RD RL d L w g1 w') (hn : ¬ (RD z ∨ RL z)) (hz : z < w.heap.size) (hw : w0.heap.size ≤ z) (hN : gNow < w0.heap.size) (cs : Array Value) : AftL RD RL d L w0 g1 (w'.setRow z cs) := by
  obtain ⟨R1, R2, k⟩ := h
  have k0 : AftG RD RL d L w0 g1 w' R1 R2 := ⟨k.lg, (Only.of_below _ hb).trans k.only (fun x hx => Or.inl hx), fun x hx => by
    rcases k.newD x hx with e | e
    · exact Or.inl e
    · exact Or.inr (Nat.le_trans hb.size e), fun x hx => by
    rcases k.newL x hx with e | e
    · exact Or.inl e
    · exact Or.inr (Nat.le_trans hb.size e)⟩
  refine ⟨R1, R2, k0.over (B := 0) ⟨fun e => ?_, fun e => ?_, Nat.zero_le _⟩ hw hN cs⟩
  · rcases k.newD z e with e | e
    · exact hn (Or.inl e)
    · omega
  · rcases k.newL z e with e | e
    · exact hn (Or.inr e)
    · omega
theorem LgM.not_own (h : LgM w RD RL d L g) {z : Nat} (hz : w.heap.size ≤ z) : ¬ (RD z ∨ RL z) := by
  rintro (e | e)
  · have := h.dk.lt z e; omega
  · have := h.lx.lt z e; omega
end
theorem note_yes {g : Lg} {r : Rc} (h : soundR r) (hr : (roomL g.D g.n (encR r).length).2 = true) : noteL g r = (⟨(writeD g.D (roomL g.D g.n (encR r).length).1.seg (encR r)).1, g.n, g.x⟩, (if (writeD g.D (roomL g.D g.n (encR r).length).1.seg (encR r)).2 = 0 then (roomL g.D g.n (encR r).length).1 else nowh), (writeD g.D (roomL g.D g.n (encR r).length).1.seg (encR r)).2) := by
  unfold noteL; rw [if_pos h, if_pos hr]
end Go.Proofs.YtimkgaokcldgkaaGreatDoor
/- Package spill: Done. -/
namespace Go.Proofs.YtimkgaokcldgkaaGreatDoor
open Go Go.RowKit Go.Maps
set_option linter.unusedVariables false
set_option linter.unusedSimpArgs false
set_option maxRecDepth 100000

section
variable {w w' : World} {RD RL : Nat → Prop} {d L K : Nat} {g g1 : Lg}
theorem LgM.puts {pm : Nat} {wm : Option Nat} (h : LgM w RD RL d L g) (hi : IxM w 0 L 2 (logC d g.n pm wm g.x.top) 66 pm wm g.x) (hm : ∀ k, MineI L pm wm k → RL k) {S : List (Int × Pl)} (ht : w.mapTurned w' pm) (hS : PtM w' pm S) (ho : IxOk { g.x with puts := S }) : AftL RD RL d L w ⟨g.D, g.n, { g.x with puts := S }⟩ w' :=
  h.index (LxM.turned hi hm ⟨wm, _, hi.turned ht hS, fun _ _ _ => rfl, Only.of_grown ht.grown (fun k e => Or.inr (Or.inl (Option.some.inj e).symm)), Or.inl rfl⟩ ho)
theorem LgM.topset {pm : Nat} {wm : Option Nat} (h : LgM w RD RL d L g) (hi : IxM w 0 L 2 (logC d g.n pm wm g.x.top) 66 pm wm g.x) (hm : ∀ k, MineI L pm wm k → RL k) (v : Int) (ho : IxOk { g.x with top := v }) : AftL RD RL d L w ⟨g.D, g.n, { g.x with top := v }⟩ (w.setCell ⟨L, 4, none⟩ (.int .i64 v)) :=
  h.index (LxM.turned hi hm ⟨wm, _, hi.top_ v, fun i _ h2 => set_ne h2, (Only.refl _ w).setCell (Or.inl (Or.inl rfl)) _, Or.inl rfl⟩ ho)
theorem AftL.step {w1 : World} (h : AftL RD RL d L w g w1) (k : ∀ R1 R2, LgM w1 R1 R2 d L g → AftL R1 R2 d L w1 g1 w') : AftL RD RL d L w g1 w' := by
  obtain ⟨R1, R2, a⟩ := h
  exact AftL.trans a (k R1 R2 a.lg)
end
end Go.Proofs.YtimkgaokcldgkaaGreatDoor
/- Package spill: Put. Written by gen_put.py. -/
namespace Go.Proofs.YtimkgaokcldgkaaGreatDoor
open Go Go.RowKit Go.Maps
set_option linter.unusedVariables false
set_option linter.unusedSimpArgs false
set_option maxRecDepth 100000

/-- What Put does once room was asked for. -/
def putTail (g1 : Lg) (r : Rc) (ec : Int) (ok : Bool) (P : Pl) : Lg × Int :=
  if ec = 0 then (if ok = true then putAt (topped g1 r.id) r P else (topped g1 r.id, 5)) else (topped g1 r.id, ec)
theorem put_no {g : Lg} {r : Rc} (h : ¬ soundR r) : putL g r = (g, 2) := by unfold putL; rw [if_neg h]
theorem put_yes {g : Lg} {r : Rc} {P : Pl} (h : soundR r) (hr : roomL g.D g.n (encR r).length = (P, true)) : putL g r = putTail g r 0 true P := by
  unfold putL putTail; rw [if_pos h, hr, if_pos rfl, if_pos rfl, if_pos rfl]
theorem put_full {g : Lg} {r : Rc} (h : soundR r) (hr : (roomL g.D g.n (encR r).length).2 = false) : putL g r = putTail (compactL g).1 r (compactL g).2 (roomL (compactL g).1.D (compactL g).1.n (encR r).length).2 (roomL (compactL g).1.D (compactL g).1.n (encR r).length).1 := by
  unfold putL putTail; rw [if_pos h, hr, if_neg (by decide)]
theorem few_top {K : Nat} {g : Lg} {id : Int} (h : FewK K g.x) : FewK K (topped g id).x := h
theorem few_mono {K M : Nat} {x : Ix} (h : FewK K x) (hm : K ≤ M) : FewK M x := ⟨Nat.le_trans h.1 hm, Nat.le_trans h.2 hm⟩
theorem few_put {K : Nat} {x : Ix} (h : FewK K x) (id : Int) (p : Pl) : FewK (K + 1) { x with puts := pA x.puts id p } := ⟨by show (pA _ _ _).length ≤ _; have := h.1; rw [len_pA]; split <;> omega, Nat.le_trans h.2 (Nat.le_succ _)⟩
/-- Put under way: the log, the place's box, the request's box, the record's bytes. -/
structure PutS (w : World) (RD RL : Nat → Prop) (d L pb rb B1 m c : Nat) (a : Option Addr) (b : List Int) (r : Rc) (P1 : Pl) (g1 : Lg) (R1 R2 : Nat → Prop) (wc : World) : Prop where
  aft : AftG RD RL d L w g1 wc R1 R2
  bp : Box wc pb #[.int .i64 P1.seg, .int .i64 P1.off, .int .i64 P1.size] 81
  br : Box wc rb #[.int .i64 r.id, .string r.host, .string r.path, .int .i64 r.prio, .int .i64 r.till] 35
  own : Own wc B1 5 1 a m c (u8L b)
  off : ∀ z, (z = pb ∨ z = rb ∨ a = some ⟨z, 0, none⟩) → ¬ (R1 z ∨ R2 z) ∧ w.heap.size ≤ z
  hpr : pb ≠ rb
  hpa : ∀ z, a = some ⟨z, 0, none⟩ → z ≠ pb
section
variable {w wc w' : World} {RD RL R1 R2 R3 R4 : Nat → Prop} {d L pb rb B1 m c : Nat} {a : Option Addr} {b : List Int} {r : Rc} {P1 : Pl} {g1 g2 : Lg}
theorem PutS.lt (h : PutS w RD RL d L pb rb B1 m c a b r P1 g1 R1 R2 wc) {z : Nat} (hz : z = pb ∨ z = rb ∨ a = some ⟨z, 0, none⟩) : z < wc.heap.size := by
  rcases hz with rfl | rfl | hz
  · exact h.bp.lt
  · exact h.br.lt
  · have h9 := h.own; rw [hz] at h9; exact h9.lt.2
theorem PutS.later (h : PutS w RD RL d L pb rb B1 m c a b r P1 g1 R1 R2 wc) (hb : Below wc.heap.size wc w') : PutS w RD RL d L pb rb B1 m c a b r P1 g1 R1 R2 w' :=
  ⟨h.aft.later hb, h.bp.later hb, h.br.later hb, h.own.later hb, h.off, h.hpr, h.hpa⟩
theorem PutS.step (h : PutS w RD RL d L pb rb B1 m c a b r P1 g1 R1 R2 wc) (k : AftG R1 R2 d L wc g2 w' R3 R4) : PutS w RD RL d L pb rb B1 m c a b r P1 g2 R3 R4 w' :=
  ⟨h.aft.step k, h.bp.only k.only (h.off pb (Or.inl rfl)).1, h.br.only k.only (h.off rb (Or.inr (Or.inl rfl))).1, h.own.only k.only (fun z hz => (h.off z (Or.inr (Or.inr hz))).1), fun z hz => ⟨fun e => by
    have h1 := h.lt hz
    have h2 := (h.off z hz).1
    rcases e with e | e
    · rcases k.newD z e with e | e
      · exact h2 (Or.inl e)
      · omega
    · rcases k.newL z e with e | e
      · exact h2 (Or.inr e)
      · omega, (h.off z hz).2⟩, h.hpr, h.hpa⟩
theorem PutS.stepL (h : PutS w RD RL d L pb rb B1 m c a b r P1 g1 R1 R2 wc) (k : AftL R1 R2 d L wc g2 w') : ∃ R3 R4, PutS w RD RL d L pb rb B1 m c a b r P1 g2 R3 R4 w' := by
  obtain ⟨R3, R4, k⟩ := k
  exact ⟨R3, R4, h.step k⟩
theorem PutS.place (h : PutS w RD RL d L pb rb B1 m c a b r P1 g1 R1 R2 wc) (hN : gNow < w.heap.size) (P2 : Pl) : PutS w RD RL d L pb rb B1 m c a b r P2 g1 R1 R2 (wc.setRow pb #[.int .i64 P2.seg, .int .i64 P2.off, .int .i64 P2.size]) :=
  ⟨h.aft.over (B := 0) ⟨fun e => (h.off pb (Or.inl rfl)).1 (Or.inl e), fun e => (h.off pb (Or.inl rfl)).1 (Or.inr e), Nat.zero_le _⟩ (h.off pb (Or.inl rfl)).2 hN _, h.bp.setRow _, h.br.otherRow h.hpr.symm _, h.own.blocks (fun z hz => setRow_other _ _ _ _ (fun e => h.hpa z hz (by omega))), h.off, h.hpr, h.hpa⟩
end
set_option maxHeartbeats 4000000 in
theorem put_at_ {w : World} {RD RL : Nat → Prop} {d L : Nat} {g : Lg} (h : LgM w RD RL d L g) (r : Rc) (hk : r.kind = 1) (hid : okI r.id) {K : Nat} (hf : FewK K g.x) (hK1 : 32768 ≤ K) (hK2 : K ≤ 900000) (hgn : g.n ≤ 1000) (X : Lg × Int) (hX : putL g r = X) :
    Calls Tryz.prog 9 #[.pointer (some ⟨L, 0, none⟩), .agg (reqL r).toArray] w fun e w' => e = .returned (.int .i64 X.2) ∧ CmP w RD RL d L (K + 1) X.1 w' := by
  have EN := Lib.hid (fun (W : World) => kenc_at r W)
  have HX := Lib.hid hX.symm
  have HID := Lib.hid hid
  have G := Lib.hid h
  have CP := Lib.hid (fun (W : World) (hW : Below w.heap.size w W) => compact_at (h.later hW) hf hK1 hK2 hgn)
  have HFK := Lib.hid hf
  have HBY := Lib.hid (encO_byts r)
  have HLE := encO_len r
  obtain ⟨b, hb⟩ : ∃ b, encO r = b := ⟨_, rfl⟩
  have HB := Lib.hid hb
  rw [hb] at EN HBY HLE
  obtain ⟨m, hm⟩ : ∃ m, b.length = m := ⟨_, rfl⟩
  have HM := Lib.hid hm
  rw [hm] at EN HLE
  obtain ⟨⟨P, ok⟩, hP⟩ : ∃ Q, roomL g.D g.n m = Q := ⟨_, rfl⟩
  have RM := Lib.hid (fun (W : World) (hW : Below w.heap.size w W) => room_at (h.later hW) m (by omega) P ok hP)
  have HP := Lib.hid hP
  obtain ⟨G1, E1⟩ := X
  dsimp only
  show Calls Tryz.prog 9 #[.pointer (some ⟨L, 0, none⟩), .agg #[.int .i64 r.id, .string r.host, .string r.path, .int .i64 r.prio, .int .i64 r.till]] w _
  have EN2 : Hid (∀ W, Calls Tryz.prog 26 #[.agg #[.int .i64 1, .int .i64 r.id, .string r.host, .string r.path, .int .i64 r.prio, .int .i64 r.till]] W fun e w' => ∃ a c k, e = .returned (.tuple #[.slice a m c, .int .i64 k]) ∧ Own w' W.heap.size 5 1 a m c (u8L b) ∧ Below W.heap.size W w' ∧ ((soundR r ∧ k = 0) ∨ (¬ soundR r ∧ k = 2))) := Lib.hid (fun W => by
    have h9 := EN.out W
    unfold recL reqL at h9
    rw [hk] at h9
    exact h9)
  clear EN hX hf hb hm hP h hk hid
  go_enter Tryz.func9, Tryz.ntmps9
  go_upto_region 1 with fail
  refine code_forget (fun W => Hid (Box W w.heap.size #[.int .i64 r.id, .string r.host, .string r.path, .int .i64 r.prio, .int .i64 r.till] 35) ∧ Hid (Below w.heap.size w W)) ⟨Lib.hid (Box.new w _ _), Lib.hid ((Below.refl w.heap.size w).alloc (Nat.le_refl _) _)⟩ ?_
  obtain ⟨rb, hrb⟩ : ∃ p, w.heap.size = p := ⟨_, rfl⟩
  have HRB := Lib.hid hrb
  rw [hrb]
  rintro w1 ⟨BR1, B1⟩
  rw [← HRB.out] at B1
  clear hrb
  have HNR : Hid (¬ (RD rb ∨ RL rb)) := Lib.hid (G.out.not_own (by have := HRB.out; omega))
  have r0 := BR1.out.cell 0
  have r1 := BR1.out.cell 1
  have r2 := BR1.out.cell 2
  have r3 := BR1.out.cell 3
  have r4 := BR1.out.cell 4
  go_wp2_with fail
  refine (EN2.out w1).mono ?_
  rintro e w2 ⟨a, c, k, rfl, ho, hb, hk⟩
  have B2 := Lib.hid (B1.out.trans (hb.mono B1.out.size))
  have BR2 := Lib.hid (BR1.out.later hb)
  have HO := Lib.hid ho
  have HS1 := Lib.hid B1.out.size
  clear ho hb r0 r1 r2 r3 r4 EN2 BR1 B1
  rcases hk with ⟨hk1, rfl⟩ | ⟨hk1, rfl⟩
  · have HSO := Lib.hid hk1
    have HEB : Hid (encR r = b) := Lib.hid (by rw [← HB.out, encO_sound hk1])
    have RM2 := Lib.hid (RM.out w2 B2.out)
    clear hk1 RM
    obtain ⟨p1, p2, p3⟩ := P
    unfold plV plC at RM2
    dsimp only at RM2
    go_wp2_with fail
    refine RM2.out.mono ?_
    rintro e w3 ⟨rfl, hb⟩
    have B3 := Lib.hid (B2.out.trans (hb.mono B2.out.size))
    have BR3 := Lib.hid (BR2.out.later hb)
    have HO3 := Lib.hid (HO.out.later hb)
    have HS3 : Hid (rb < w3.heap.size) := Lib.hid BR3.out.lt
    clear RM2 hb BR2 B2 HO
    go_upto_region 7 with fail
    refine code_forget (fun W => Hid (Box W w3.heap.size #[.int .i64 p1, .int .i64 p2, .int .i64 p3] 81) ∧ Hid (Below w3.heap.size w3 W)) ⟨Lib.hid (Box.new w3 _ _), Lib.hid ((Below.refl w3.heap.size w3).alloc (Nat.le_refl _) _)⟩ ?_
    obtain ⟨pb, hpb⟩ : ∃ p, w3.heap.size = p := ⟨_, rfl⟩
    have HPB := Lib.hid hpb
    rw [hpb]
    rintro w4 ⟨BP4, hb4⟩
    rw [← HPB.out] at hb4
    have B4 := Lib.hid (B3.out.trans (hb4.out.mono B3.out.size))
    have BR4 := Lib.hid (BR3.out.later hb4.out)
    have HO4 := Lib.hid (HO3.out.later hb4.out)
    have S4 : Hid (PutS w RD RL d L pb rb w1.heap.size m c a b r ⟨p1, p2, p3⟩ g RD RL w4) := Lib.hid ⟨⟨G.out.later B4.out, Only.of_below _ B4.out, fun k hk => Or.inl hk, fun k hk => Or.inl hk⟩, BP4.out, BR4.out, HO4.out, fun z hz => by
      have hzz : w.heap.size ≤ z := by
        rcases hz with rfl | rfl | hz
        · have := HPB.out; have := B3.out.size; omega
        · have := HRB.out; omega
        · rcases HO4.out.form with ⟨h1, _⟩ | ⟨g8, h1, h2, h3⟩
          · rw [h1] at hz; cases hz
          · rw [h1] at hz
            cases hz
            exact Nat.le_trans HS1.out h2
      exact ⟨G.out.not_own hzz, hzz⟩, by have := HPB.out; have := HS3.out; omega, fun z hz => by
      rcases HO3.out.form with ⟨h1, _⟩ | ⟨g8, h1, h2, h3⟩
      · rw [h1] at hz; cases hz
      · rw [h1] at hz
        cases hz
        have := HPB.out; omega⟩
    clear hb4 hpb HS3 B3 BR3 HO3 BP4 BR4 HO4
    go_upto_if 29 with fail
    go_cut [6, 8] (fun u v wc => ∃ (g1 : Lg) (ec : Int) (ok1 : Bool) (P1 : Pl) (R1 R2 : Nat → Prop), u = .int .i64 ec ∧ v = .bool ok1 ∧ Hid (PutS w RD RL d L pb rb w1.heap.size m c a b r P1 g1 R1 R2 wc) ∧ Hid (FewK K g1.x) ∧ Hid (ok1 = true → PlOk P1 ∧ 0 ≤ P1.seg) ∧ Hid ((G1, E1) = putTail g1 r ec ok1 P1))
    case first =>
      cases ok with
      | true =>
        have HE : Hid ((G1, E1) = putTail g r 0 true ⟨p1, p2, p3⟩) := Lib.hid (by rw [HX.out]; exact put_yes HSO.out (by rw [HEB.out, HM.out, HP.out]))
        have HPO := Lib.hid (room_ok G.out (size := m) (by omega) HP.out)
        clear HX CP HP HM
        go_wp2_with fail
        go_meet
        exact ⟨g, 0, true, ⟨p1, p2, p3⟩, RD, RL, rfl, rfl, S4, HFK, Lib.hid (fun _ => HPO.out), HE⟩
      | false =>
        obtain ⟨⟨P2, ok2⟩, hP2⟩ : ∃ Q, roomL (compactL g).1.D (compactL g).1.n m = Q := ⟨_, rfl⟩
        have HE : Hid ((G1, E1) = putTail (compactL g).1 r (compactL g).2 ok2 P2) := Lib.hid (by rw [HX.out, put_full HSO.out (by rw [HEB.out, HM.out, HP.out]), HEB.out, HM.out, hP2])
        have HP2 := Lib.hid hP2
        have CP2 := Lib.hid (CP.out w4 B4.out)
        have GN : Hid (gNow < w.heap.size) := Lib.hid G.out.now.lt
        obtain ⟨⟨gc, ec⟩, hgc⟩ : ∃ Y, compactL g = Y := ⟨_, rfl⟩
        rw [hgc] at CP2 HE HP2
        dsimp only at CP2 HE HP2
        clear HX CP HP hP2 hgc
        go_wp2_with fail
        refine CP2.out.mono ?_
        rintro e w5 ⟨rfl, hc⟩
        have HFK5 := Lib.hid hc.2
        obtain ⟨R1, R2, k5⟩ := hc.1
        have S5 := Lib.hid (S4.out.step k5)
        have RM5 := Lib.hid (room_at k5.lg m (by omega) P2 ok2 HP2.out)
        have HPO : Hid (ok2 = true → PlOk P2 ∧ 0 ≤ P2.seg) := Lib.hid (fun e => room_ok k5.lg (size := m) (by omega) (by rw [HP2.out, e]))
        clear hc k5 CP2 S4 HP2
        obtain ⟨q1, q2, q3⟩ := P2
        unfold plV plC at RM5
        dsimp only at RM5
        have hlen : (m : Int) = (m : Int) := rfl
        go_wp2_with fail
        refine RM5.out.mono ?_
        rintro e w6 ⟨rfl, hb6⟩
        have S6 := Lib.hid (S5.out.later hb6)
        have BP6 := S6.out.bp
        have S7 := Lib.hid (S6.out.place GN.out ⟨q1, q2, q3⟩)
        clear S5 RM5 hb6
        go_wp2_with (refine wpList_storeRow rfl rfl rfl rfl BP6 rfl (by kernel_rfl) (by simp [Value.oneCell']) ?_)
        go_meet
        exact ⟨gc, ec, ok2, ⟨q1, q2, q3⟩, R1, R2, rfl, rfl, S7, HFK5, HPO, HE⟩
    case rest =>
      obtain ⟨g1, ec, ok1, P1, R1, R2, rfl, rfl, S5, HF1, HPO, HE⟩ := hcut
      clear CP HX HP S4 B4 G
      obtain ⟨pm, wm, hi, hmi⟩ := S5.out.aft.lg.lx.ix
      have HI := Lib.hid hi
      have HMI := Lib.hid hmi
      clear hi hmi
      obtain ⟨tp, htp⟩ : ∃ v, g1.x.top = v := ⟨_, rfl⟩
      have HTP := Lib.hid htp
      clear htp
      have TOP : Hid (∀ W, PutS w RD RL d L pb rb w1.heap.size m c a b r P1 g1 R1 R2 W → IxM W 0 L 2 (logC d g1.n pm wm g1.x.top) 66 pm wm g1.x → ∃ R3 R4, PutS w RD RL d L pb rb w1.heap.size m c a b r P1 (topped g1 r.id) R3 R4 (W.setCell ⟨L, 4, none⟩ (.int .i64 (max tp r.id)))) := Lib.hid (fun W hW h2 => by
        have h9 := hW.aft.lg.topset h2 HMI.out (max g1.x.top r.id) (hW.aft.lg.lx.ok.topped (okI_iff HID.out).2)
        rw [HTP.out] at h9
        obtain ⟨R3, R4, h8⟩ := hW.stepL h9
        refine ⟨R3, R4, ?_⟩
        unfold topped
        rw [HTP.out]
        exact h8)
      go_upto_region 10 with fail
      go_cut [] (fun wt => ∃ (R3 R4 : Nat → Prop), Hid (PutS w RD RL d L pb rb w1.heap.size m c a b r P1 (topped g1 r.id) R3 R4 wt))
      case first =>
        refine wp_region_last 12 (fun w' => PutS w RD RL d L pb rb w1.heap.size m c a b r P1 g1 R1 R2 w' ∧ IxM w' 0 L 2 (logC d g1.n pm wm g1.x.top) 66 pm wm g1.x) (by kernel_rfl) (⟨S5.out.later (Below.refl _ _).drew, HI.out.drew⟩) (fun hHeld hClosed => ?_)
        refine wtk (i := 0) (v := ?_) rfl hClosed (Or.inl ⟨by rfl, ?_⟩) hHeld (fun hClosed => ?_)
        rotate_left
        · intro wv hSw; go_simp; all_goals (with_reducible rfl)
        (try simp only [List.getElem_toArray, List.getElem_cons_zero, put_at, List.set])
        refine wtk (i := 1) (v := ?_) rfl hClosed (Or.inl ⟨by rfl, ?_⟩) hHeld (fun hClosed => ?_)
        rotate_left
        · intro wv hSw; go_simp; all_goals (with_reducible rfl)
        (try simp only [List.getElem_toArray, List.getElem_cons_succ, List.getElem_cons_zero, put_at, List.set])
        refine wtk (i := 2) (v := ?_) rfl hClosed (Or.inl ⟨by rfl, ?_⟩) hHeld (fun hClosed => ?_)
        rotate_left
        · intro wv hSw; go_simp; all_goals (with_reducible rfl)
        (try simp only [List.getElem_toArray, List.getElem_cons_succ, List.getElem_cons_zero, put_at, List.set])
        refine wtk (i := 3) (v := ?_) rfl hClosed (Or.inl ⟨by rfl, ?_⟩) hHeld (fun hClosed => ?_)
        rotate_left
        · intro wv hSw; go_simp; all_goals (with_reducible rfl)
        (try simp only [List.getElem_toArray, List.getElem_cons_succ, List.getElem_cons_zero, put_at, List.set])
        refine wtk (i := 4) (v := ?_) rfl hClosed (Or.inl ⟨by rfl, ?_⟩) hHeld (fun hClosed => ?_)
        rotate_left
        · intro wv hSw; go_simp; all_goals (with_reducible rfl)
        (try simp only [List.getElem_toArray, List.getElem_cons_succ, List.getElem_cons_zero, put_at, List.set])
        refine wtk (i := 5) (v := ?_) rfl hClosed (Or.inl ⟨by rfl, ?_⟩) hHeld (fun hClosed => ?_)
        rotate_left
        · intro wv hSw; have c2 : wv.cell? ⟨L, 4, none⟩ = some (.int .i64 g1.x.top) := hSw.2.box.cell 4; rw [HTP.out] at c2; have r0 := hSw.1.br.cell 0; go_simp; all_goals (with_reducible rfl)
        (try simp only [List.getElem_toArray, List.getElem_cons_succ, List.getElem_cons_zero, put_at, List.set])
        refine wtk (i := 6) (v := ?_) rfl hClosed (Or.inl ⟨by rfl, ?_⟩) hHeld (fun hClosed => ?_)
        rotate_left
        · intro wv hSw; go_simp; all_goals (with_reducible rfl)
        (try simp only [List.getElem_toArray, List.getElem_cons_succ, List.getElem_cons_zero, put_at, List.set])
        refine wtk (i := 7) (v := ?_) rfl hClosed (Or.inl ⟨by rfl, ?_⟩) hHeld (fun hClosed => ?_)
        rotate_left
        · intro wv hSw; have c2 : wv.cell? ⟨L, 4, none⟩ = some (.int .i64 g1.x.top) := hSw.2.box.cell 4; rw [HTP.out] at c2; have r0 := hSw.1.br.cell 0; go_simp; all_goals (with_reducible rfl)
        (try simp only [List.getElem_toArray, List.getElem_cons_succ, List.getElem_cons_zero, put_at, List.set])
        refine wtk (i := 8) (v := ?_) rfl hClosed (Or.inl ⟨by rfl, ?_⟩) hHeld (fun hClosed => ?_)
        rotate_left
        · intro wv hSw; go_simp; all_goals (with_reducible rfl)
        (try simp only [List.getElem_toArray, List.getElem_cons_succ, List.getElem_cons_zero, put_at, List.set])
        refine wtk (i := 9) (v := ?_) rfl hClosed (Or.inl ⟨by rfl, ?_⟩) hHeld (fun hClosed => ?_)
        rotate_left
        · intro wv hSw; go_simp; all_goals (with_reducible rfl)
        (try simp only [List.getElem_toArray, List.getElem_cons_succ, List.getElem_cons_zero, put_at, List.set])
        refine wtk (i := 10) (v := ?_) rfl hClosed (Or.inl ⟨by rfl, ?_⟩) hHeld (fun hClosed => ?_)
        rotate_left
        · intro wv hSw; go_simp; all_goals (with_reducible rfl)
        (try simp only [List.getElem_toArray, List.getElem_cons_succ, List.getElem_cons_zero, put_at, List.set])
        refine wtk (i := 11) (v := ?_) rfl hClosed (Or.inl ⟨by rfl, ?_⟩) hHeld (fun hClosed => ?_)
        rotate_left
        · intro wv hSw; go_simp; all_goals (with_reducible rfl)
        (try simp only [List.getElem_toArray, List.getElem_cons_succ, List.getElem_cons_zero, put_at, List.set])
        refine wpAnyL_last rfl (by kernel_rfl) (by kernel_rfl) (fun KK hK => ?_)
        have c2 : _ = some _ := hHeld.2.box.cell 4
        have f2 := hHeld.2.box.free 4
        have lb := hHeld.2.box.lt
        go_simp
        refine hK.out _ _ ?_
        (try simp only [put_at, List.set])
        have F5 := TOP.out _ hHeld.1 hHeld.2
        clear hHeld hClosed TOP
        obtain ⟨R3, R4, F6⟩ := F5
        go_wp2_with fail
        go_meet
        refine ⟨R3, R4, Lib.hid ?_⟩
        exact F6
      obtain ⟨R3, R4, S8⟩ := hcut
      clear TOP HI HMI S5 HTP
      by_cases hz : ec = 0
      · have dz : (ec != 0) = false := by simp [hz]
        cases ok1 with
        | false =>
          have HE2 : Hid ((G1, E1) = (topped g1 r.id, (5 : Int))) := Lib.hid (by rw [HE.out]; unfold putTail; rw [if_pos hz, if_neg (by decide)])
          clear HE hz HPO
          go_wp2_with fail
          go_ret
          have h9 := HE2.out
          injection h9 with e1 e2
          subst e1 e2
          exact ⟨rfl, ⟨R3, R4, S8.out.aft⟩, few_mono (few_top HF1.out) (Nat.le_succ K)⟩
        | true =>
          have HE2 : Hid ((G1, E1) = putAt (topped g1 r.id) r P1) := Lib.hid (by rw [HE.out]; unfold putTail; rw [if_pos hz, if_pos rfl])
          have HPL := Lib.hid (HPO.out rfl)
          have HB0 : 0 < b.length := by rw [← HEB.out]; have := encR_ge r; omega
          have WR := Lib.hid (write_at S8.out.aft.lg P1 HPL.out.2 HPL.out.1.seg b HBY.out HB0 m HM.out (by omega) a c (rdC_of_own S8.out.own (by decide)) (fun g9 off e => by
            rcases S8.out.own.form with ⟨h1, _⟩ | ⟨g8, h1, h2, _⟩
            · rw [h1] at e; cases e
            · rw [h1] at e
              cases e
              exact fun e => (S8.out.off _ (Or.inr (Or.inr h1))).1 (Or.inl e)))
          obtain ⟨⟨D2, e2⟩, hD2⟩ : ∃ Y, writeD (topped g1 r.id).D P1.seg b = Y := ⟨_, rfl⟩
          have HE3 : Hid ((G1, E1) = if e2 = 0 then (⟨D2, (topped g1 r.id).n, { (topped g1 r.id).x with puts := pA (topped g1 r.id).x.puts r.id P1 }⟩, 0) else (⟨D2, (topped g1 r.id).n, (topped g1 r.id).x⟩, e2)) := Lib.hid (by rw [HE2.out]; unfold putAt; rw [HEB.out, hD2])
          rw [hD2] at WR
          obtain ⟨p1', p2', p3'⟩ := P1
          unfold plV plC at WR
          dsimp only at WR
          have c0 := S8.out.bp.cell 0
          have c1 := S8.out.bp.cell 1
          have c2 := S8.out.bp.cell 2
          clear HE HE2 HPO HB0 hz hD2
          go_wp2_with fail
          refine WR.out.mono ?_
          rintro e w9 ⟨rfl, ha⟩
          obtain ⟨R5, R6, h9⟩ := S8.out.stepL ha
          have S9 := Lib.hid h9
          clear h9 ha WR c0 c1 c2
          by_cases hz : e2 = 0
          · have dz : (e2 != 0) = false := by simp [hz]
            subst hz
            have HE4 : Hid ((G1, E1) = ((⟨D2, (topped g1 r.id).n, { (topped g1 r.id).x with puts := pA (topped g1 r.id).x.puts r.id ⟨p1', p2', p3'⟩ }⟩ : Lg), (0 : Int))) := Lib.hid (by rw [HE3.out, if_pos rfl])
            obtain ⟨g9, hg9⟩ : ∃ g9 : Lg, (⟨D2, (topped g1 r.id).n, (topped g1 r.id).x⟩ : Lg) = g9 := ⟨_, rfl⟩
            have HG9 := Lib.hid hg9.symm
            have HF9 : Hid (FewK K g9.x) := Lib.hid (by rw [← hg9]; exact few_top HF1.out)
            rw [hg9] at S9
            have HE5 : Hid ((G1, E1) = ((⟨g9.D, g9.n, { g9.x with puts := pA g9.x.puts r.id ⟨p1', p2', p3'⟩ }⟩ : Lg), (0 : Int))) := Lib.hid (by rw [HE4.out, ← hg9])
            obtain ⟨pm2, wm2, hi, hmi⟩ := S9.out.aft.lg.lx.ix
            have HI := Lib.hid hi
            have HMI := Lib.hid hmi
            have HR0 : Hid (0 ≤ r.id) := Lib.hid HSO.out.2.2.1
            have STO : Hid (∀ W, PutS w RD RL d L pb rb w1.heap.size m c a b r ⟨p1', p2', p3'⟩ g9 R5 R6 W → IxM W 0 L 2 (logC d g9.n pm2 wm2 g9.x.top) 66 pm2 wm2 g9.x → ∃ w5, (Instr.mapUpdate 58 (.map (some pm2)) (.int .i64 r.id) (plV ⟨p1', p2', p3'⟩)).run Tryz.prog W = .ok () w5 ∧ CmP w RD RL d L (K + 1) ⟨g9.D, g9.n, { g9.x with puts := pA g9.x.puts r.id ⟨p1', p2', p3'⟩ }⟩ w5) := Lib.hid (fun W hW h2 => by
              obtain ⟨w5, h3, h4, h5⟩ := h2.puts.store tyP r.id HID.out ⟨p1', p2', p3'⟩ (by have := HF9.out.1; omega)
              refine ⟨w5, h3, ?_, few_put HF9.out _ _⟩
              exact AftL.trans hW.aft (hW.aft.lg.puts h2 HMI.out h5 h4 (hW.aft.lg.lx.ok.puts_ HPL.out.1 HR0.out)))
            clear hg9 hi hmi HE3 HE4 HPL S8 HF1 HG9
            go_upto_region 18 with fail
            refine wp_region_last 8 (fun w' => PutS w RD RL d L pb rb w1.heap.size m c a b r ⟨p1', p2', p3'⟩ g9 R5 R6 w' ∧ IxM w' 0 L 2 (logC d g9.n pm2 wm2 g9.x.top) 66 pm2 wm2 g9.x) (by kernel_rfl) (⟨S9.out.later (Below.refl _ _).drew, HI.out.drew⟩) (fun hHeld hClosed => ?_)
            refine wtk (i := 0) (v := ?_) rfl hClosed (Or.inl ⟨by rfl, ?_⟩) hHeld (fun hClosed => ?_)
            rotate_left
            · intro wv hSw; go_simp; all_goals (with_reducible rfl)
            (try simp only [List.getElem_toArray, List.getElem_cons_zero, put_at, List.set])
            refine wtk (i := 1) (v := ?_) rfl hClosed (Or.inl ⟨by rfl, ?_⟩) hHeld (fun hClosed => ?_)
            rotate_left
            · intro wv hSw; go_simp; all_goals (with_reducible rfl)
            (try simp only [List.getElem_toArray, List.getElem_cons_succ, List.getElem_cons_zero, put_at, List.set])
            refine wtk (i := 2) (v := ?_) rfl hClosed (Or.inl ⟨by rfl, ?_⟩) hHeld (fun hClosed => ?_)
            rotate_left
            · intro wv hSw; go_simp; all_goals (with_reducible rfl)
            (try simp only [List.getElem_toArray, List.getElem_cons_succ, List.getElem_cons_zero, put_at, List.set])
            refine wtk (i := 3) (v := ?_) rfl hClosed (Or.inl ⟨by rfl, ?_⟩) hHeld (fun hClosed => ?_)
            rotate_left
            · intro wv hSw; go_simp; all_goals (with_reducible rfl)
            (try simp only [List.getElem_toArray, List.getElem_cons_succ, List.getElem_cons_zero, put_at, List.set])
            refine wtk (i := 4) (v := ?_) rfl hClosed (Or.inl ⟨by rfl, ?_⟩) hHeld (fun hClosed => ?_)
            rotate_left
            · intro wv hSw; have c0 : wv.cell? ⟨L, 2, none⟩ = some (.map (some pm2)) := hSw.2.box.cell 2; have r0 := hSw.1.br.cell 0; have q0 := hSw.1.bp.cell 0; have q1 := hSw.1.bp.cell 1; have q2 := hSw.1.bp.cell 2; go_simp; all_goals (with_reducible rfl)
            (try simp only [List.getElem_toArray, List.getElem_cons_succ, List.getElem_cons_zero, put_at, List.set])
            refine wtk (i := 5) (v := ?_) rfl hClosed (Or.inl ⟨by rfl, ?_⟩) hHeld (fun hClosed => ?_)
            rotate_left
            · intro wv hSw; go_simp; all_goals (with_reducible rfl)
            (try simp only [List.getElem_toArray, List.getElem_cons_succ, List.getElem_cons_zero, put_at, List.set])
            refine wtk (i := 6) (v := ?_) rfl hClosed (Or.inl ⟨by rfl, ?_⟩) hHeld (fun hClosed => ?_)
            rotate_left
            · intro wv hSw; have c0 : wv.cell? ⟨L, 2, none⟩ = some (.map (some pm2)) := hSw.2.box.cell 2; have r0 := hSw.1.br.cell 0; have q0 := hSw.1.bp.cell 0; have q1 := hSw.1.bp.cell 1; have q2 := hSw.1.bp.cell 2; go_simp; all_goals (with_reducible rfl)
            (try simp only [List.getElem_toArray, List.getElem_cons_succ, List.getElem_cons_zero, put_at, List.set])
            refine wtk (i := 7) (v := ?_) rfl hClosed (Or.inl ⟨by rfl, ?_⟩) hHeld (fun hClosed => ?_)
            rotate_left
            · intro wv hSw; have c0 : wv.cell? ⟨L, 2, none⟩ = some (.map (some pm2)) := hSw.2.box.cell 2; have r0 := hSw.1.br.cell 0; have q0 := hSw.1.bp.cell 0; have q1 := hSw.1.bp.cell 1; have q2 := hSw.1.bp.cell 2; go_simp; all_goals (with_reducible rfl)
            (try simp only [List.getElem_toArray, List.getElem_cons_succ, List.getElem_cons_zero, put_at, List.set])
            refine wpAnyL_last rfl (by kernel_rfl) (by kernel_rfl) (fun KK hK => ?_)
            obtain ⟨w5, hrun5, hc5⟩ := STO.out _ hHeld.1 hHeld.2
            unfold plV plC at hrun5
            dsimp only at hrun5
            go_simp
            refine hK.out _ _ ?_
            (try simp only [put_at, List.set])
            have F5 := Lib.hid hc5
            clear hc5 hHeld hClosed STO
            go_wp2_with fail
            go_ret
            have h9 := HE5.out
            injection h9 with e1 e2
            subst e1 e2
            exact ⟨rfl, F5.out⟩
          · have dz : (e2 != 0) = true := by simp [hz]
            have HE4 : Hid ((G1, E1) = ((⟨D2, (topped g1 r.id).n, (topped g1 r.id).x⟩ : Lg), e2)) := Lib.hid (by rw [HE3.out, if_neg hz])
            clear HE3 hz HPL S8
            go_wp2_with fail
            go_ret
            have h9 := HE4.out
            injection h9 with e1 e2
            subst e1 e2
            exact ⟨rfl, ⟨R5, R6, S9.out.aft⟩, few_mono (few_top HF1.out) (Nat.le_succ K)⟩
      · have dz : (ec != 0) = true := by simp [hz]
        have HE2 : Hid ((G1, E1) = (topped g1 r.id, ec)) := Lib.hid (by rw [HE.out]; unfold putTail; rw [if_neg hz])
        clear HE hz HPO
        go_wp2_with fail
        go_ret
        have h9 := HE2.out
        injection h9 with e1 e2
        subst e1 e2
        exact ⟨rfl, ⟨R3, R4, S8.out.aft⟩, few_mono (few_top HF1.out) (Nat.le_succ K)⟩
  · have HE : Hid ((G1, E1) = (g, (2 : Int))) := Lib.hid (by rw [HX.out, put_no hk1])
    clear HX hk1 RM CP
    go_wp2_with fail
    go_ret
    have h9 := HE.out
    injection h9 with e1 e2
    subst e1 e2
    exact ⟨rfl, AftL.refl G.out B2.out, few_mono HFK.out (Nat.le_succ K)⟩
end Go.Proofs.YtimkgaokcldgkaaGreatDoor
/- Package spill: Wait. Written by gen_wait.py. -/
namespace Go.Proofs.YtimkgaokcldgkaaGreatDoor
open Go Go.RowKit Go.Maps
set_option linter.unusedVariables false
set_option linter.unusedSimpArgs false
set_option maxRecDepth 100000

theorem wait_yes {g : Lg} {s : ByteArray} {t : Int} (h : soundR (waitRc s t)) {q : Bool} (hq : newsI g.x s t = q) {G1 : Lg} {P : Pl} {E : Int} (hn : waitNote g s t = (G1, P, E)) : waitL g s t = if q = true ∧ P ≠ nowh then (⟨G1.D, G1.n, { G1.x with waits := pA G1.x.waits s ⟨t, P⟩ }⟩, E) else (G1, E) := by
  unfold waitL
  rw [if_pos h, hq, hn]
theorem IxM.turnedX {w w' : World} {B b o : Nat} {cs : Array Value} {t : TypeId} {pm m : Nat} {x : Ix} (h : IxM w B b o cs t pm (some m) x) (ht : w.mapTurned w' m) {S : List (ByteArray × Wt)} (hS : WtM1 w' m S) : IxM w' B b o cs t pm (some m) { x with waits := S } := by
  have hm : WtM1 w m x.waits := by
    rcases h.waits with ⟨e, _⟩ | ⟨m3, e, h3⟩
    · cases e
    · cases e; exact h3
  exact ⟨(turned_block ht h.box.lt (fun e => am_not_box hm h.box e.symm)).trans h.box, h.c0, h.c1, h.c2, h.puts.block (turned_block ht h.puts.lt (fun e => h.apart (by rw [e]))), Or.inr ⟨m, rfl, hS⟩, h.apart, h.bB, h.pB, h.wB⟩
theorem LgM.waits {w w' : World} {RD RL : Nat → Prop} {d L : Nat} {g : Lg} {pm m : Nat} (h : LgM w RD RL d L g) (hi : IxM w 0 L 2 (logC d g.n pm (some m) g.x.top) 66 pm (some m) g.x) (hm : ∀ k, MineI L pm (some m) k → RL k) {S : List (ByteArray × Wt)} (ht : w.mapTurned w' m) (hS : WtM1 w' m S) (ho : IxOk { g.x with waits := S }) : AftL RD RL d L w ⟨g.D, g.n, { g.x with waits := S }⟩ w' :=
  h.index (LxM.turned hi hm ⟨some m, _, hi.turnedX ht hS, fun _ _ _ => rfl, Only.of_grown ht.grown (fun k e => Or.inr (Or.inr e)), Or.inl rfl⟩ ho)
end Go.Proofs.YtimkgaokcldgkaaGreatDoor
/- Package spill, told by lists: the records of segments in their order, where they lie, and what replaying them gives. No program here. -/
namespace Go.Proofs.YtimkgaokcldgkaaGreatDoor
open Go Go.RowKit
set_option linter.unusedVariables false
set_option linter.unusedSimpArgs false
set_option maxRecDepth 10000

abbrev GoodL (rs : List Rc) : Prop := ∀ r ∈ rs, soundR r ∧ FitR r
theorem encR_byts {r : Rc} (h : soundR r) : Byts (encR r) := recB_byts (contR_byts h)
theorem flatR_app (a b : List Rc) : flatR (a ++ b) = flatR a ++ flatR b := by simp [flatR]
theorem flatR_one (r : Rc) : flatR [r] = encR r := by simp [flatR]
theorem flatR_byts : ∀ {rs : List Rc}, GoodL rs → Byts (flatR rs)
  | [], _ => by intro c hc; simp [flatR] at hc
  | r :: t, h => by
    rw [flatR_cons]
    exact (encR_byts (h r List.mem_cons_self).1).append (flatR_byts fun q hq => h q (List.mem_cons_of_mem _ hq))
theorem good_scan {b : List Int} (hb : Byts b) : GoodL (scanL b) := (scan_ok hb).1
theorem scan_app {rs : List Rc} (h : GoodL rs) {t : List Int} (ht : Byts t) : scanL (flatR rs ++ t) = rs ++ scanL t ∧ usedL (flatR rs ++ t) = (flatR rs).length + usedL t := by
  obtain ⟨h1, h2, h3, h4⟩ := scan_ok ht
  have hd : (flatR rs ++ t).drop ((flatR rs).length + usedL t) = t.drop (usedL t) := by rw [← List.drop_drop, List.drop_left' rfl]
  have hs : Scanned (flatR rs ++ t) (rs ++ scanL t) ((flatR rs).length + usedL t) := by
    refine ⟨fun r hr => ?_, ?_, ?_, ?_⟩
    · rcases List.mem_append.1 hr with hr | hr
      · exact h r hr
      · exact h1 r hr
    · rw [flatR_app, List.length_append]; rfl
    · rw [hd, flatR_app, List.append_assoc, ← h3]
    · rw [hd]; exact h4
  obtain ⟨e1, e2⟩ := scan_eq ((flatR_byts h).append ht) hs
  exact ⟨e1.symm, e2.symm⟩
theorem scan_nil : scanL [] = [] ∧ usedL [] = 0 := ⟨rfl, rfl⟩
theorem scan_flat {rs : List Rc} (h : GoodL rs) : scanL (flatR rs) = rs ∧ usedL (flatR rs) = (flatR rs).length := by
  have h9 := scan_app h Byts.nil
  rw [List.append_nil, scan_nil.1, scan_nil.2, List.append_nil, Nat.add_zero] at h9
  exact h9
theorem scan_one {r : Rc} (h : soundR r) (hf : FitR r) : scanL (encR r) = [r] ∧ usedL (encR r) = (encR r).length := by
  have h9 := scan_flat (rs := [r]) (fun q hq => by rw [List.mem_singleton.1 hq]; exact ⟨h, hf⟩)
  rw [flatR_one] at h9
  exact h9
theorem whole_flat {b : List Int} (hb : Byts b) (h : usedL b = b.length) : b = flatR (scanL b) := by
  have h3 := (scan_ok hb).2.2.1
  rw [h, List.drop_length, List.append_nil] at h3
  exact h3
theorem scan_more {b c : List Int} (hb : Byts b) (h : usedL b = b.length) (hc : Byts c) : scanL (b ++ c) = scanL b ++ scanL c ∧ usedL (b ++ c) = b.length + usedL c := by
  have h1 := whole_flat hb h
  have h2 := scan_app (good_scan hb) hc
  rw [← h1] at h2
  exact h2
/-- The records of all segments, in order. -/
def logS (S : Sgs) : List Rc := S.flatMap fun p => scanL p.2
/-- A record lies in a place. -/
def AtP (S : Sgs) (p : Pl) (r : Rc) : Prop := ∃ u v, gD S p.seg = u ++ (encR r ++ v) ∧ p.off = (u.length : Int) ∧ p.size = ((encR r).length : Int) ∧ soundR r ∧ FitR r
theorem AtP.rd {S : Sgs} {p : Pl} {r : Rc} (h : AtP S p r) : rdL S p = some r := by
  obtain ⟨u, v, h1, h2, h3, h4, h5⟩ := h
  have hl : (gD S p.seg).length = u.length + ((encR r).length + v.length) := by rw [h1, List.length_append, List.length_append]
  have hp : partL S p = encR r := by
    unfold partL
    rw [h2, h3, hl, h1, Int.toNat_natCast, List.drop_left' rfl]
    have e : (min ((u.length : Int) + ((encR r).length : Int)) ((u.length + ((encR r).length + v.length) : Nat) : Int) - (u.length : Int)).toNat = (encR r).length := by omega
    rw [e, List.take_left' rfl]
  unfold rdL
  rw [if_neg (by rw [hl, h2]; omega), hp, (scan_one h4 h5).1]
theorem AtP.put {S : Sgs} {p : Pl} {r : Rc} (h : AtP S p r) (n : Int) (b : List Int) : AtP (pS S n (gD S n ++ b)) p r := by
  obtain ⟨u, v, h1, h2, h3, h4, h5⟩ := h
  unfold AtP
  rw [gD_put]
  by_cases e : p.seg = n
  · rw [if_pos e]
    refine ⟨u, v ++ b, ?_, h2, h3, h4, h5⟩
    rw [← e, h1, List.append_assoc, List.append_assoc]
  · rw [if_neg e]
    exact ⟨u, v, h1, h2, h3, h4, h5⟩
/-- Records with their places. -/
def itm (seg : Int) : Int → List Rc → List (Rc × Pl)
  | _, [] => []
  | off, r :: t => (r, ⟨seg, off, (encR r).length⟩) :: itm seg (off + (encR r).length) t
theorem itm_fst (seg : Int) : ∀ (rs : List Rc) (off : Int), (itm seg off rs).map Prod.fst = rs
  | [], _ => rfl
  | r :: t, off => by rw [itm, List.map_cons, itm_fst seg t]
abbrev apI (x : Ix) (q : Rc × Pl) : Ix := applyI x q.1 q.2
theorem recsI_itm (seg : Int) : ∀ (rs : List Rc) (off : Int) (x : Ix), recsI seg off rs x = (itm seg off rs).foldl apI x
  | [], _, _ => rfl
  | r :: t, off, x => by rw [recsI, itm, List.foldl_cons, recsI_itm seg t]
theorem itm_at {seg : Int} : ∀ {rs : List Rc} {off : Int} {q : Rc × Pl}, q ∈ itm seg off rs → q.1 ∈ rs ∧ q.2.seg = seg ∧ q.2.size = ((encR q.1).length : Int) ∧ ∃ u v, flatR rs = u ++ (encR q.1 ++ v) ∧ q.2.off = off + (u.length : Int)
  | [], _, _, h => by cases h
  | r :: t, off, q, h => by
    rw [itm] at h
    rcases List.mem_cons.1 h with rfl | h
    · exact ⟨List.mem_cons_self, rfl, rfl, [], flatR t, by rw [flatR_cons]; rfl, by simp⟩
    · obtain ⟨h1, h2, h3, u, v, h4, h5⟩ := itm_at h
      refine ⟨List.mem_cons_of_mem _ h1, h2, h3, encR r ++ u, v, ?_, ?_⟩
      · rw [flatR_cons, h4, List.append_assoc]
      · rw [h5, List.length_append]; omega
def itms (S : Sgs) (l : List Int) : List (Rc × Pl) := l.flatMap fun s => itm s 0 (scanL (gD S s))
theorem foldl_flat {α β γ : Type} (f : γ → β → γ) (g : α → List β) : ∀ (l : List α) (x : γ), (l.flatMap g).foldl f x = l.foldl (fun x a => (g a).foldl f x) x
  | [], _ => rfl
  | a :: t, x => by rw [List.flatMap_cons, List.foldl_append, List.foldl_cons, foldl_flat f g t]
theorem replL_itms (S : Sgs) (l : List Int) : replL S l = (itms S l).foldl apI ix0 := by
  unfold replL itms
  rw [foldl_flat]
  congr 1
  funext x s
  exact recsI_itm s _ 0 x
theorem itms_at {S : Sgs} (hb : BytS S) {l : List Int} {q : Rc × Pl} (h : q ∈ itms S l) : AtP S q.2 q.1 ∧ q.2.seg ∈ l := by
  obtain ⟨s, hs, hq⟩ := List.mem_flatMap.1 h
  obtain ⟨h1, h2, h3, u, v, h4, h5⟩ := itm_at hq
  obtain ⟨g1, g2, g3, g4⟩ := scan_ok (hb s)
  refine ⟨⟨u, v ++ (gD S s).drop (usedL (gD S s)), ?_, by rw [h5]; omega, h3, (g1 _ h1).1, (g1 _ h1).2⟩, h2 ▸ hs⟩
  rw [h2]
  conv => lhs; rw [g3]
  rw [h4, List.append_assoc, List.append_assoc]
theorem itms_fst (S : Sgs) (l : List Int) : (itms S l).map Prod.fst = l.flatMap fun s => scanL (gD S s) := by
  unfold itms
  rw [List.map_flatMap]
  congr 1
  funext s
  exact itm_fst s _ 0
theorem gS_self {S : Sgs} (h : SS S) : ∀ p ∈ S, gS S p.1 = some p.2 := by
  unfold SS at h
  induction S with
  | nil => intro p hp; cases hp
  | cons x t ih =>
    obtain ⟨m, c⟩ := x
    obtain ⟨h1, h2⟩ := List.pairwise_cons.1 h
    intro p hp
    rcases List.mem_cons.1 hp with rfl | hp
    · rw [gS, if_pos rfl]
    · have := h1 p hp
      rw [gS, if_neg (by dsimp only at this; omega), ih h2 p hp]
theorem gD_self {S : Sgs} (h : SS S) {p : Int × List Int} (hp : p ∈ S) : gD S p.1 = p.2 := by unfold gD; rw [gS_self h p hp]; rfl
theorem flat_congr {α β : Type} {f g : α → List β} : ∀ {l : List α}, (∀ a ∈ l, f a = g a) → l.flatMap f = l.flatMap g
  | [], _ => rfl
  | a :: t, h => by rw [List.flatMap_cons, List.flatMap_cons, h a List.mem_cons_self, flat_congr (l := t) fun b hb => h b (List.mem_cons_of_mem _ hb)]
theorem log_segs {S : Sgs} (h : SS S) : (S.map Prod.fst).flatMap (fun s => scanL (gD S s)) = logS S := by
  unfold logS
  rw [List.flatMap_map]
  exact flat_congr fun p hp => by rw [gD_self h hp]
/-! What a list of records says: of a request, of a host, of the numbers. -/
def stQ (i : Int) (o : Option (Rc × Pl)) (q : Rc × Pl) : Option (Rc × Pl) := if q.1.kind = 1 ∧ q.1.id = i then some q else if q.1.kind = 2 ∧ q.1.id = i then none else o
def stP (i : Int) (o : Option Rc) (r : Rc) : Option Rc := if r.kind = 1 ∧ r.id = i then some r else if r.kind = 2 ∧ r.id = i then none else o
def lstP (i : Int) (rs : List Rc) : Option Rc := rs.foldl (stP i) none
def stW (h : ByteArray) (m : Int) (r : Rc) : Int := if r.kind = 3 ∧ r.host = h then max m r.till else m
def mxW (h : ByteArray) (rs : List Rc) : Int := rs.foldl (stW h) 0
def stT (m : Int) (r : Rc) : Int := if r.kind = 1 ∨ r.kind = 2 then max m r.id else m
def mxT (rs : List Rc) : Int := rs.foldl stT 0
theorem till_pause (x : Ix) (s : ByteArray) (t : Int) (p : Pl) (h : ByteArray) : tillI (pauseI x s t p) h = if s = h then max (tillI x h) t else tillI x h := by
  unfold pauseI
  by_cases hn : newsI x s t = true
  · rw [if_pos hn]
    have hlt : tillI x s < t := by unfold newsI at hn; simpa using hn
    unfold tillI at hlt ⊢
    dsimp only
    rw [gA_put]
    by_cases e : s = h
    · subst e
      rw [if_pos rfl, if_pos rfl]
      show t = _
      omega
    · rw [if_neg (fun e2 => e e2.symm), if_neg e]
  · rw [if_neg hn]
    have hle : t ≤ tillI x s := by
      unfold newsI at hn
      simpa using hn
    by_cases e : s = h
    · subst e
      rw [if_pos rfl]
      omega
    · rw [if_neg e]
theorem step_gen {x : Ix} {o : Int → Option (Rc × Pl)} {m : ByteArray → Int} {t : Int} (h1 : ∀ i, gA x.puts i = (o i).map Prod.snd) (h2 : ∀ h, tillI x h = m h) (h3 : x.top = t) (q : Rc × Pl) :
    (∀ i, gA (apI x q).puts i = (stQ i (o i) q).map Prod.snd) ∧ (∀ h, tillI (apI x q) h = stW h (m h) q.1) ∧ (apI x q).top = stT t q.1 := by
  obtain ⟨r, p⟩ := q
  unfold apI applyI stQ stW stT
  dsimp only
  by_cases k1 : r.kind = 1
  · rw [if_pos k1, if_pos (Or.inl k1)]
    refine ⟨fun i => ?_, fun h => ?_, by rw [h3]⟩
    · show gA (pA x.puts r.id p) i = _
      rw [gA_put]
      by_cases e : r.id = i
      · rw [if_pos e.symm, if_pos ⟨k1, e⟩]; rfl
      · rw [if_neg (fun e2 => e e2.symm), if_neg (fun e2 => e e2.2), if_neg (fun e2 => e e2.2)]; exact h1 i
    · rw [if_neg (by rintro ⟨e, _⟩; omega)]
      exact h2 h
  · rw [if_neg k1]
    by_cases k2 : r.kind = 2
    · rw [if_pos k2, if_pos (Or.inr k2)]
      refine ⟨fun i => ?_, fun h => ?_, by rw [h3]⟩
      · show gA (dA x.puts r.id) i = _
        rw [gA_del]
        by_cases e : r.id = i
        · rw [if_pos e.symm, if_neg (fun e2 => k1 e2.1), if_pos ⟨k2, e⟩]; rfl
        · rw [if_neg (fun e2 => e e2.symm), if_neg (fun e2 => k1 e2.1), if_neg (fun e2 => e e2.2)]; exact h1 i
      · rw [if_neg (by rintro ⟨e, _⟩; omega)]
        exact h2 h
    · rw [if_neg k2, if_neg (show ¬ (r.kind = 1 ∨ r.kind = 2) from fun e => e.elim k1 k2)]
      have hpt : ∀ y : Ix, y.puts = x.puts → ∀ i, gA y.puts i = (if r.kind = 1 ∧ r.id = i then some (r, p) else if r.kind = 2 ∧ r.id = i then none else o i).map Prod.snd := fun y hy i => by
        rw [hy, if_neg (fun e => k1 e.1), if_neg (fun e => k2 e.1)]; exact h1 i
      by_cases k3 : r.kind = 3
      · rw [if_pos k3]
        refine ⟨hpt _ (by unfold pauseI; split <;> rfl), fun h => ?_, ?_⟩
        · rw [till_pause, h2]
          by_cases e : r.host = h
          · rw [if_pos e, if_pos ⟨k3, e⟩]
          · rw [if_neg e, if_neg (fun e2 => e e2.2)]
        · rw [← h3]; unfold pauseI; split <;> rfl
      · rw [if_neg k3]
        exact ⟨hpt x rfl, fun h => by rw [if_neg (fun e => k3 e.1)]; exact h2 h, h3⟩
theorem fold_gen : ∀ (I : List (Rc × Pl)) {x : Ix} {o : Int → Option (Rc × Pl)} {m : ByteArray → Int} {t : Int}, (∀ i, gA x.puts i = (o i).map Prod.snd) → (∀ h, tillI x h = m h) → x.top = t →
    (∀ i, gA (I.foldl apI x).puts i = (I.foldl (stQ i) (o i)).map Prod.snd) ∧ (∀ h, tillI (I.foldl apI x) h = (I.map Prod.fst).foldl (stW h) (m h)) ∧ (I.foldl apI x).top = (I.map Prod.fst).foldl stT t
  | [], x, o, m, t, h1, h2, h3 => ⟨h1, h2, h3⟩
  | q :: I, x, o, m, t, h1, h2, h3 => by
    obtain ⟨g1, g2, g3⟩ := step_gen h1 h2 h3 q
    exact fold_gen I g1 g2 g3
theorem fold_stQ (i : Int) : ∀ (I : List (Rc × Pl)) (o : Option (Rc × Pl)), (I.foldl (stQ i) o).map Prod.fst = (I.map Prod.fst).foldl (stP i) (o.map Prod.fst)
  | [], o => rfl
  | q :: I, o => by
    rw [List.foldl_cons, fold_stQ i I, List.map_cons, List.foldl_cons]
    congr 1
    unfold stQ stP
    split
    · rfl
    · split <;> rfl
theorem fold_mem (i : Int) : ∀ {I : List (Rc × Pl)} {o : Option (Rc × Pl)} {q : Rc × Pl}, I.foldl (stQ i) o = some q → o = some q ∨ (q ∈ I ∧ q.1.kind = 1 ∧ q.1.id = i)
  | [], o, q, h => Or.inl h
  | a :: I, o, q, h => by
    rcases fold_mem i (I := I) h with h | ⟨h1, h2⟩
    · unfold stQ at h
      split at h
      · rename_i e
        injection h with h
        subst h
        exact Or.inr ⟨List.mem_cons_self, e⟩
      · split at h
        · cases h
        · exact Or.inl h
    · exact Or.inr ⟨List.mem_cons_of_mem _ h1, h2⟩
/-- An index agrees with what lies on the disk. -/
structure Agr (S : Sgs) (x : Ix) : Prop where
  puts : ∀ i p, gA x.puts i = some p → ∃ r, lstP i (logS S) = some r ∧ AtP S p r
  none : ∀ i, gA x.puts i = Option.none → lstP i (logS S) = Option.none
  waits : ∀ h, tillI x h = mxW h (logS S)
  top : x.top = mxT (logS S)
theorem repl_agr {S : Sgs} (hb : BytS S) {l : List Int} :
    (∀ i p, gA (replL S l).puts i = some p → ∃ r, lstP i (l.flatMap fun s => scanL (gD S s)) = some r ∧ AtP S p r ∧ p.seg ∈ l) ∧ (∀ i, gA (replL S l).puts i = none → lstP i (l.flatMap fun s => scanL (gD S s)) = none) ∧
    (∀ h, tillI (replL S l) h = mxW h (l.flatMap fun s => scanL (gD S s))) ∧ (replL S l).top = mxT (l.flatMap fun s => scanL (gD S s)) := by
  rw [replL_itms, ← itms_fst]
  obtain ⟨h1, h2, h3⟩ := fold_gen (itms S l) (x := ix0) (o := fun _ => none) (m := fun _ => 0) (t := 0) (fun _ => rfl) (fun _ => rfl) rfl
  refine ⟨fun i p hp => ?_, fun i hp => ?_, h2, h3⟩
  · rw [h1] at hp
    obtain ⟨q, hq, hqp⟩ := Option.map_eq_some_iff.1 hp
    have h4 := fold_stQ i (itms S l) none
    rw [hq] at h4
    have h5 := fold_mem i hq
    rcases h5 with h5 | ⟨h5, h6⟩
    · cases h5
    · obtain ⟨h7, h8⟩ := itms_at hb h5
      exact ⟨q.1, h4.symm, hqp ▸ h7, hqp ▸ h8⟩
  · rw [h1] at hp
    have h4 := fold_stQ i (itms S l) none
    rw [Option.map_eq_none_iff.1 hp] at h4
    exact h4.symm
theorem open_agr {S : Sgs} (hs : SS S) (hb : BytS S) : Agr S (replL S (S.map Prod.fst)) := by
  obtain ⟨h1, h2, h3, h4⟩ := repl_agr hb (l := S.map Prod.fst)
  rw [log_segs hs] at *
  exact ⟨fun i p hp => by obtain ⟨r, a, b, _⟩ := h1 i p hp; exact ⟨r, a, b⟩, h2, h3, h4⟩
theorem Agr.load {g : Lg} (h : Agr g.D.S g.x) (id : Int) : loadL g id = lstP id (logS g.D.S) := by
  unfold loadL atI
  cases hg : gA g.x.puts id with
  | none => rw [h.none id hg]; rfl
  | some p =>
    obtain ⟨r, h1, h2⟩ := h.puts id p hg
    rw [h1]
    exact h2.rd
/-! Sums of a list said step by step. -/
theorem lstP_app (i : Int) (a b : List Rc) : lstP i (a ++ b) = b.foldl (stP i) (lstP i a) := by unfold lstP; rw [List.foldl_append]
theorem mxW_app (h : ByteArray) (a b : List Rc) : mxW h (a ++ b) = b.foldl (stW h) (mxW h a) := by unfold mxW; rw [List.foldl_append]
theorem mxT_app (a b : List Rc) : mxT (a ++ b) = b.foldl stT (mxT a) := by unfold mxT; rw [List.foldl_append]
theorem log_app (a b : Sgs) : logS (a ++ b) = logS a ++ logS b := by unfold logS; rw [List.flatMap_append]
end Go.Proofs.YtimkgaokcldgkaaGreatDoor
/- Package spill, told by lists: a record is written; a log whose disk does not fail. No program here. -/
namespace Go.Proofs.YtimkgaokcldgkaaGreatDoor
open Go Go.RowKit
set_option linter.unusedVariables false
set_option linter.unusedSimpArgs false
set_option maxRecDepth 10000

theorem pS_end : ∀ {I : Sgs} {v : Int} {c : List Int} (b : List Int), (∀ p ∈ I, p.1 < v) → pS (I ++ [(v, c)]) v b = I ++ [(v, b)]
  | [], v, c, b, _ => by
    show pS [(v, c)] v b = [(v, b)]
    unfold pS
    rw [if_neg (by omega), if_pos rfl]
  | (m, c0) :: t, v, c, b, h => by
    have h1 : m < v := h (m, c0) List.mem_cons_self
    show pS ((m, c0) :: (t ++ [(v, c)])) v b = (m, c0) :: (t ++ [(v, b)])
    unfold pS
    rw [if_neg (by omega), if_neg (by omega), pS_end b fun p hp => h p (List.mem_cons_of_mem _ hp)]
theorem gS_none {S : Sgs} {n : Int} (h : ∀ p ∈ S, p.1 < n) : gS S n = none := by
  cases hg : gS S n with
  | none => rfl
  | some b =>
    exfalso
    have h1 : n ∈ S.map Prod.fst := gS_keys.2 (by rw [hg]; rfl)
    obtain ⟨p, hp, he⟩ := List.mem_map.1 h1
    have := h p hp
    omega
/-- Where there is room. -/
inductive RoomC (D : Ds) (n : Int) (size : Nat) (P : Pl) : Prop
  | last (I : Sgs) (v : Int) (c : List Int) (hS : D.S = I ++ [(v, c)]) (hI : ∀ p ∈ I, p.1 < v) (hw : usedL c = c.length) (hl : c.length + size ≤ 2048) (hP : P = ⟨v, (c.length : Int), size⟩) (hg : gD D.S v = c)
  | fresh (f : Int) (hP : P = ⟨f, 0, size⟩) (hn : (D.S.length : Int) < n) (hf : ∀ p ∈ D.S, p.1 < f) (hg : gS D.S f = none) (hd : f = (followL (segsL D)).1)
theorem room_cases {D : Ds} (hs : SS D.S) {n : Int} {size : Nat} {P : Pl} (h : roomL D n size = (P, true)) : RoomC D n size P := by
  unfold roomL at h
  split at h
  · cases h
  · split at h
    · rename_i p hp
      obtain ⟨v, hv, hl⟩ := Option.bind_eq_some_iff.1 hp
      unfold lastP at hl
      split at hl
      · rename_i hq
        injection hl with hl
        injection h with h _
        obtain ⟨l, hl2⟩ := List.getLast?_eq_some_iff.1 hv
        unfold segsL at hl2
        obtain ⟨I, J, h1, h2, h3⟩ := List.map_eq_append_iff.1 hl2
        obtain ⟨q, hq2, rfl⟩ : ∃ q, J = [q] ∧ q.1 = v := by
          cases J with
          | nil => cases h3
          | cons q t =>
            cases t with
            | nil => injection h3 with h3 _; exact ⟨q, rfl, h3⟩
            | cons a b => injection h3 with _ h3; cases h3
        obtain ⟨v, c⟩ := q
        subst hq2
        have hI : ∀ p ∈ I, p.1 < v := fun p hp => by
          have h9 := hs
          unfold SS at h9
          rw [h1] at h9
          exact (List.pairwise_append.1 h9).2.2 p hp _ (List.mem_singleton.2 rfl)
        have hg : gD D.S v = c := gD_self hs (p := (v, c)) (by rw [h1]; simp)
        dsimp only at hq hl
        rw [hg] at hq hl
        exact .last I v c h1 hI hq.1 (by have := hq.1; have := hq.2; omega) (by rw [← h, ← hl, hq.1]) hg
      · cases hl
    · unfold freshP at h
      injection h with h1 h2
      rw [Bool.and_eq_true] at h2
      have hf := follow_last hs rfl h2.1
      exact .fresh _ h1.symm (of_decide_eq_true h2.2) hf (gS_none hf) rfl
/-- What the disk holds once a record is appended where there is room. -/
theorem room_log {D : Ds} (hs : SS D.S) (hb : BytS D.S) {n : Int} {r : Rc} (h1 : soundR r) (h2 : FitR r) {P : Pl} (h : RoomC D n (encR r).length P) :
    logS (pS D.S P.seg (gD D.S P.seg ++ encR r)) = logS D.S ++ [r] ∧ AtP (pS D.S P.seg (gD D.S P.seg ++ encR r)) P r := by
  cases h with
  | last I v c hS hI hw hl hP hg =>
    subst hP
    dsimp only
    rw [hg]
    have e : pS D.S v (c ++ encR r) = I ++ [(v, c ++ encR r)] := by rw [hS]; exact pS_end _ hI
    rw [e]
    refine ⟨?_, c, [], ?_, rfl, rfl, h1, h2⟩
    · rw [log_app, hS, log_app, List.append_assoc]
      congr 1
      unfold logS
      rw [List.flatMap_singleton, List.flatMap_singleton]
      dsimp only
      rw [(scan_more (hg ▸ hb v) hw (encR_byts h1)).1, (scan_one h1 h2).1]
    · rw [← e, gD_put, if_pos rfl, List.append_nil]
  | fresh f hP hn hf hg hd =>
    subst hP
    dsimp only
    have e0 : gD D.S f = [] := by unfold gD; rw [hg]; rfl
    rw [e0, List.nil_append]
    have e : pS D.S f (encR r) = D.S ++ [(f, encR r)] := pS_last _ hf
    rw [e]
    refine ⟨?_, [], [], ?_, rfl, rfl, h1, h2⟩
    · rw [log_app]
      congr 1
      unfold logS
      rw [List.flatMap_singleton]
      exact (scan_one h1 h2).1
    · rw [← e, gD_put, if_pos rfl, List.append_nil]; rfl
/-- A disk that does not fail and holds whole records; Z: more than any record; c: how many there may be. -/
structure DCalm (Z c : Nat) (D : Ds) : Prop where
  un : D.un = []
  beh : D.beh = 0
  fal : D.fal = 0
  ss : SS D.S
  byt : BytS D.S
  num : ∀ p ∈ D.S, 0 ≤ p.1 ∧ p.1 ≤ 20 * (c : Int)
  whole : ∀ p ∈ D.S, usedL p.2 = p.2.length
  full : ∀ p ∈ D.S.dropLast, 2048 ≤ p.2.length + Z
  tot : (D.S.map fun p => p.2.length).sum ≤ c * Z
theorem sum_ge_all : ∀ {l : Sgs} {m : Nat}, (∀ p ∈ l, m ≤ p.2.length) → l.length * m ≤ (l.map fun p => p.2.length).sum
  | [], m, _ => by simp
  | p :: t, m, h => by
    rw [List.length_cons, List.map_cons, List.sum_cons, Nat.succ_mul]
    have h1 := h p List.mem_cons_self
    have h2 := sum_ge_all (l := t) (m := m) fun q hq => h q (List.mem_cons_of_mem _ hq)
    omega
/-- How many segments there are at most. -/
theorem DCalm.segs {Z c : Nat} {D : Ds} (h : DCalm Z c D) : (D.S.length - 1) * (2048 - Z) ≤ c * Z := by
  have h1 := sum_ge_all (l := D.S.dropLast) (m := 2048 - Z) fun p hp => by have := h.full p hp; omega
  rw [List.length_dropLast] at h1
  refine Nat.le_trans h1 (Nat.le_trans ?_ h.tot)
  cases hS : D.S with
  | nil => simp
  | cons a t =>
    rw [← hS]
    have hne : D.S ≠ [] := by rw [hS]; exact List.cons_ne_nil _ _
    have e := List.dropLast_concat_getLast hne
    conv => rhs; rw [← e]
    rw [List.map_append, List.sum_append]
    omega
theorem follow_ok2 {D : Ds} {B : Int} (hB : B < 9223372036854775807) (h : ∀ p ∈ D.S, p.1 ≤ B) (hB0 : -1 ≤ B) : (followL (segsL D)).2 = true ∧ (followL (segsL D)).1 ≤ B + 1 := by
  unfold followL
  cases hl : (segsL D).getLast? with
  | none => exact ⟨rfl, by show (0 : Int) ≤ _; omega⟩
  | some v =>
    have hv := List.mem_of_getLast? hl
    obtain ⟨p, hp, hpv⟩ := List.mem_map.1 hv
    have := h p hp
    dsimp only
    rw [if_neg (by omega)]
    exact ⟨rfl, by show v + 1 ≤ _; omega⟩
theorem room_yes {D : Ds} {n : Int} {size : Nat} (h1 : (D.S.length : Int) < n) (h2 : (followL (segsL D)).2 = true) : ∃ P, roomL D n size = (P, true) := by
  unfold roomL
  rw [if_neg (by omega)]
  split
  · rename_i p _
    exact ⟨p, rfl⟩
  · unfold freshP
    rw [h2, decide_eq_true h1]
    exact ⟨_, rfl⟩
theorem calm_no : wfB 0 0 = false ∧ wfH 0 = 0 ∧ wfF 0 0 = 0 := by decide
theorem byt_log {S : Sgs} {n : Int} {b : List Int} (h : BytS S) (hb : Byts b) : BytS (pS S n b) := fun k => by
  rw [gD_put]
  split
  · exact hb
  · exact h k
theorem DCalm.write {Z c : Nat} {D : Ds} (h : DCalm Z c D) {n : Int} (hn : n ≤ D.most) {r : Rc} (h1 : soundR r) (h2 : FitR r) (hz : (encR r).length ≤ Z) (hz2 : Z ≤ 1100) {P : Pl} (hr : roomL D n (encR r).length = (P, true)) (hnum : (followL (segsL D)).1 ≤ 20 * (c : Int) + 1) (hnum0 : 0 ≤ (followL (segsL D)).1) :
    ∃ D', writeD D P.seg (encR r) = (D', 0) ∧ DCalm Z (c + 1) D' ∧ logS D'.S = logS D.S ++ [r] ∧ AtP D'.S P r ∧ (∀ p q, AtP D.S p q → AtP D'.S p q) ∧ D'.most = D.most ∧ D'.S.length ≤ D.S.length + 1 := by
  have hc := room_cases h.ss hr
  have hl := room_log h.ss h.byt h1 h2 hc
  have hap : apF D.S D.most P.seg (encR r).length = false := by
    unfold apF
    cases hc with
    | last I v c hS hI hw hl hP hg =>
      subst hP
      dsimp only
      have h9 : (gS D.S v).isSome = true := gS_keys.1 (by rw [hS]; simp)
      rw [h9, hg]
      simp only [Bool.not_true, Bool.false_and, Bool.false_or]
      exact decide_eq_false (by omega)
    | fresh f hP hn2 hf hg hd =>
      subst hP
      dsimp only
      have e0 : gD D.S f = [] := by unfold gD; rw [hg]; rfl
      rw [e0, decide_eq_false (by omega), decide_eq_false (by show ¬ (2048 < ((0 : Nat) : Int) + _); omega), Bool.and_false]
      rfl
  have e1 : appD D P.seg (encR r) = (⟨pS D.S P.seg (gD D.S P.seg ++ encR r), D.un ++ [(P.seg, (encR r).length)], D.most, 0, 0⟩, 0) := by
    unfold appD
    rw [hap, h.beh, h.fal, calm_no.1, calm_no.2.1, calm_no.2.2, if_neg (by decide), if_neg (by decide)]
  refine ⟨⟨pS D.S P.seg (gD D.S P.seg ++ encR r), [], D.most, 0, 0⟩, ?_, ⟨rfl, rfl, rfl, SS_put h.ss _ _, byt_log h.byt ((h.byt _).append (encR_byts h1)), ?_, ?_, ?_, ?_⟩, hl.1, hl.2, fun p q hp => hp.put _ _, rfl, ?_⟩
  · unfold writeD
    rw [e1, if_pos rfl]
    unfold syncD
    dsimp only
    rw [calm_no.1, calm_no.2.1, calm_no.2.2, if_neg (by decide)]
  all_goals dsimp only
  · intro p hp
    rcases pS_mem hp with rfl | hp
    · dsimp only
      cases hc with
      | last I v c0 hS hI hw hl hP hg =>
        have := h.num (v, c0) (by rw [hS]; simp)
        rw [hP]
        dsimp only at this ⊢
        omega
      | fresh f hP hn2 hf hg hd =>
        rw [hP]
        dsimp only
        omega
    · have := h.num p hp
      omega
  · intro p hp
    rcases pS_mem hp with rfl | hp
    · dsimp only
      have hw : usedL (gD D.S P.seg) = (gD D.S P.seg).length := by
        cases hc with
        | last I v c0 hS hI hw hl hP hg => rw [hP]; dsimp only; rw [hg]; exact hw
        | fresh f hP hn2 hf hg hd =>
          rw [hP]
          dsimp only
          unfold gD
          rw [hg]
          rfl
      rw [(scan_more (h.byt _) hw (encR_byts h1)).2, (scan_one h1 h2).2, List.length_append]
    · exact h.whole p hp
  · cases hc with
    | last I v c0 hS hI hw hl hP hg =>
      rw [hP]
      dsimp only
      have e : pS D.S v (gD D.S v ++ encR r) = I ++ [(v, c0 ++ encR r)] := by rw [hg, hS]; exact pS_end _ hI
      rw [e, List.dropLast_concat]
      have h9 := h.full
      rw [hS, List.dropLast_concat] at h9
      exact h9
    | fresh f hP hn2 hf hg hd =>
      rw [hP]
      dsimp only
      have e0 : gD D.S f = [] := by unfold gD; rw [hg]; rfl
      have e : pS D.S f (gD D.S f ++ encR r) = D.S ++ [(f, encR r)] := by rw [e0, List.nil_append]; exact pS_last _ hf
      rw [e, List.dropLast_concat]
      intro p hp
      by_cases hlast : p ∈ D.S.dropLast
      · exact h.full p hlast
      · -- the last one: it had no room
        cases hS : D.S with
        | nil => rw [hS] at hp; cases hp
        | cons a t =>
          have hne : D.S ≠ [] := by rw [hS]; exact List.cons_ne_nil _ _
          have hcat := List.dropLast_concat_getLast hne
          have hp2 : p = D.S.getLast hne := by
            rw [← hcat] at hp
            rcases List.mem_append.1 hp with hp | hp
            · exact absurd hp hlast
            · exact List.mem_singleton.1 hp
          have hpm : p ∈ D.S := hp
          have hlp : (segsL D).getLast? = some p.1 := by
            unfold segsL
            rw [List.getLast?_map, (List.getLast?_eq_some_iff.2 ⟨_, hcat.symm⟩ : D.S.getLast? = some (D.S.getLast hne)), hp2]
            rfl
          have hgp : gD D.S p.1 = p.2 := gD_self h.ss hpm
          unfold roomL at hr
          rw [if_neg (by omega), hlp] at hr
          have hno : lastP D (encR r).length p.1 = none := by
            unfold lastP
            rw [hgp]
            split
            · rename_i hq
              exfalso
              have h8 : lastP D (encR r).length p.1 = some ⟨p.1, (usedL p.2 : Int), (encR r).length⟩ := by
                unfold lastP
                rw [hgp, if_pos hq]
              rw [Option.bind_some, h8] at hr
              injection hr with hr _
              rw [hP] at hr
              injection hr with hr _ _
              have := hf p hpm
              omega
            · rfl
          unfold lastP at hno
          rw [hgp] at hno
          split at hno
          · cases hno
          · rename_i hq
            have hw := h.whole p hpm
            have : ¬ usedL p.2 + (encR r).length ≤ 2048 := fun e => hq ⟨hw, e⟩
            omega
  · cases hc with
    | last I v c0 hS hI hw hl hP hg =>
      rw [hP]
      dsimp only
      have e : pS D.S v (gD D.S v ++ encR r) = I ++ [(v, c0 ++ encR r)] := by rw [hg, hS]; exact pS_end _ hI
      have h9 := h.tot
      rw [hS, List.map_append, List.sum_append] at h9
      rw [e, List.map_append, List.sum_append, Nat.succ_mul]
      simp only [List.map_cons, List.map_nil, List.sum_cons, List.sum_nil, List.length_append] at h9 ⊢
      omega
    | fresh f hP hn2 hf hg hd =>
      rw [hP]
      dsimp only
      have e0 : gD D.S f = [] := by unfold gD; rw [hg]; rfl
      have e : pS D.S f (gD D.S f ++ encR r) = D.S ++ [(f, encR r)] := by rw [e0, List.nil_append]; exact pS_last _ hf
      have h9 := h.tot
      rw [e, List.map_append, List.sum_append, Nat.succ_mul]
      simp only [List.map_cons, List.map_nil, List.sum_cons, List.sum_nil] at h9 ⊢
      omega
  · rw [len_put h.ss]
    split <;> omega
end Go.Proofs.YtimkgaokcldgkaaGreatDoor
/- Package spill, told by lists: a log whose disk does not fail: Put, Done, Wait, Open. No program here. -/
namespace Go.Proofs.YtimkgaokcldgkaaGreatDoor
open Go Go.RowKit
set_option linter.unusedVariables false
set_option linter.unusedSimpArgs false
set_option maxRecDepth 10000

theorem ap_puts (x : Ix) (r : Rc) (P : Pl) (i : Int) : gA (applyI x r P).puts i = if r.kind = 1 ∧ r.id = i then some P else if r.kind = 2 ∧ r.id = i then none else gA x.puts i := by
  have h := (step_gen (x := x) (o := fun i => (gA x.puts i).map fun p => (r, p)) (m := tillI x) (t := x.top) (fun i => by cases gA x.puts i <;> rfl) (fun _ => rfl) rfl (r, P)).1 i
  have e : apI x (r, P) = applyI x r P := rfl
  rw [e] at h
  rw [h]
  unfold stQ
  dsimp only
  split
  · rfl
  · split
    · rfl
    · cases gA x.puts i <;> rfl
theorem ap_till (x : Ix) (r : Rc) (P : Pl) (h : ByteArray) : tillI (applyI x r P) h = stW h (tillI x h) r :=
  (step_gen (x := x) (o := fun i => (gA x.puts i).map fun p => (r, p)) (m := tillI x) (t := x.top) (fun i => by cases gA x.puts i <;> rfl) (fun _ => rfl) rfl (r, P)).2.1 h
theorem ap_top (x : Ix) (r : Rc) (P : Pl) : (applyI x r P).top = stT x.top r :=
  (step_gen (x := x) (o := fun i => (gA x.puts i).map fun p => (r, p)) (m := tillI x) (t := x.top) (fun i => by cases gA x.puts i <;> rfl) (fun _ => rfl) rfl (r, P)).2.2
theorem lstP_snoc (i : Int) (l : List Rc) (r : Rc) : lstP i (l ++ [r]) = stP i (lstP i l) r := by rw [lstP_app]; rfl
theorem mxW_snoc (h : ByteArray) (l : List Rc) (r : Rc) : mxW h (l ++ [r]) = stW h (mxW h l) r := by rw [mxW_app]; rfl
theorem mxT_snoc (l : List Rc) (r : Rc) : mxT (l ++ [r]) = stT (mxT l) r := by rw [mxT_app]; rfl
theorem agr_step {S S' : Sgs} {x : Ix} {r : Rc} {P : Pl} (h : Agr S x) (hl : logS S' = logS S ++ [r]) (ha : ∀ p q, AtP S p q → AtP S' p q) (hP : AtP S' P r) : Agr S' (applyI x r P) := by
  refine ⟨fun i p hp => ?_, fun i hp => ?_, fun s => ?_, ?_⟩
  · rw [ap_puts] at hp
    rw [hl, lstP_snoc]
    unfold stP
    split at hp
    · rename_i e
      injection hp with hp
      subst hp
      rw [if_pos e]
      exact ⟨r, rfl, hP⟩
    · rename_i e
      rw [if_neg e]
      split at hp
      · cases hp
      · rename_i e2
        rw [if_neg e2]
        obtain ⟨q, h1, h2⟩ := h.puts i p hp
        exact ⟨q, h1, ha p q h2⟩
  · rw [ap_puts] at hp
    rw [hl, lstP_snoc]
    unfold stP
    split at hp
    · cases hp
    · rename_i e
      rw [if_neg e]
      split at hp
      · rename_i e2
        rw [if_pos e2]
      · rename_i e2
        rw [if_neg e2]
        exact h.none i hp
  · rw [ap_till, hl, mxW_snoc, h.waits]
  · rw [ap_top, hl, mxT_snoc, h.top]
/-- Two indices that answer alike. -/
structure IxE (x y : Ix) : Prop where
  puts : ∀ i, gA x.puts i = gA y.puts i
  till : ∀ h, tillI x h = tillI y h
  top : x.top = y.top
theorem Agr.like {S : Sgs} {x y : Ix} (h : Agr S y) (e : IxE x y) : Agr S x :=
  ⟨fun i p hp => h.puts i p (by rw [← e.puts]; exact hp), fun i hp => h.none i (by rw [← e.puts]; exact hp), fun s => by rw [e.till]; exact h.waits s, by rw [e.top]; exact h.top⟩
structure CLog (Z c : Nat) (g : Lg) : Prop where
  disk : DCalm Z c g.D
  agr : Agr g.D.S g.x
  most : g.n ≤ g.D.most
theorem CLog.num {Z c : Nat} {g : Lg} (h : CLog Z c g) (hc : c ≤ 1000000) : (followL (segsL g.D)).2 = true ∧ (followL (segsL g.D)).1 ≤ 20 * (c : Int) + 1 ∧ 0 ≤ (followL (segsL g.D)).1 := by
  have h1 := follow_ok2 (D := g.D) (B := 20 * (c : Int)) (by omega) (fun p hp => (h.disk.num p hp).2) (by omega)
  refine ⟨h1.1, h1.2, ?_⟩
  unfold followL
  cases hl : (segsL g.D).getLast? with
  | none => exact Int.le_refl 0
  | some v =>
    obtain ⟨p, hp, rfl⟩ := List.mem_map.1 (List.mem_of_getLast? hl)
    have := h.disk.num p hp
    dsimp only
    split
    · exact Int.le_refl 0
    · show 0 ≤ _ + (1 : Int); omega
/-- A record is written alone. -/
theorem CLog.write {Z c : Nat} {g : Lg} (h : CLog Z c g) (hc : c ≤ 1000000) (hn : (g.D.S.length : Int) < g.n) {r : Rc} (h1 : soundR r) (h2 : FitR r) (hz : (encR r).length ≤ Z) (hz2 : Z ≤ 1100) :
    ∃ P D', roomL g.D g.n (encR r).length = (P, true) ∧ P ≠ nowh ∧ writeD g.D P.seg (encR r) = (D', 0) ∧ logS D'.S = logS g.D.S ++ [r] ∧ ∀ x, IxE x (applyI g.x r P) → CLog Z (c + 1) ⟨D', g.n, x⟩ := by
  obtain ⟨n1, n2, n3⟩ := h.num hc
  obtain ⟨P, hP⟩ := room_yes (size := (encR r).length) hn n1
  obtain ⟨D', w1, w2, w3, w4, w5, w6, w7⟩ := h.disk.write h.most h1 h2 hz hz2 hP n2 n3
  refine ⟨P, D', hP, fun e => ?_, w1, w3, fun x hx => ⟨w2, (agr_step h.agr w3 w5 w4).like hx, by show g.n ≤ D'.most; rw [w6]; exact h.most⟩⟩
  have hs : P.seg = 9223372036854775807 := by rw [e]; rfl
  cases room_cases h.disk.ss hP with
  | last I v c0 hS hI hw hl hPP hg =>
    have := h.disk.num (v, c0) (by rw [hS]; simp)
    rw [hPP] at hs
    dsimp only at hs this
    omega
  | fresh f hPP hn2 hf hg hd =>
    rw [hPP] at hs
    dsimp only at hs
    omega
theorem CLog.put {Z c : Nat} {g : Lg} (h : CLog Z c g) (hc : c ≤ 1000000) (hn : (g.D.S.length : Int) < g.n) {r : Rc} (hk : r.kind = 1) (h1 : soundR r) (h2 : FitR r) (hz : (encR r).length ≤ Z) (hz2 : Z ≤ 1100) :
    ∃ g', putL g r = (g', 0) ∧ CLog Z (c + 1) g' ∧ logS g'.D.S = logS g.D.S ++ [r] ∧ g'.n = g.n := by
  obtain ⟨P, D', hP, _, hw, hl, hx⟩ := h.write hc hn h1 h2 hz hz2
  refine ⟨⟨D', g.n, { (topped g r.id).x with puts := pA (topped g r.id).x.puts r.id P }⟩, ?_, hx _ ?_, hl, rfl⟩
  · rw [put_yes h1 hP]
    unfold putTail
    rw [if_pos rfl, if_pos rfl]
    unfold putAt
    have e : (topped g r.id).D = g.D := rfl
    rw [e, hw, if_pos rfl]
    rfl
  · unfold applyI
    rw [if_pos hk]
    exact ⟨fun _ => rfl, fun _ => rfl, rfl⟩
theorem note_ok {g : Lg} {r : Rc} {P : Pl} {D' : Ds} (h1 : soundR r) (hP : roomL g.D g.n (encR r).length = (P, true)) (hw : writeD g.D P.seg (encR r) = (D', 0)) : noteL g r = (⟨D', g.n, g.x⟩, P, 0) := by
  rw [note_yes h1 (by rw [hP]), hP]
  dsimp only
  rw [hw, if_pos rfl]
theorem CLog.wait {Z c : Nat} {g : Lg} (h : CLog Z c g) (hc : c ≤ 1000000) (hn : (g.D.S.length : Int) < g.n) {s : ByteArray} {t : Int} (ht0 : 0 ≤ t) (ht : t < 9223372036854775808) (hs : s.size ≤ 256) (hz : 26 + s.size ≤ Z) (hz2 : Z ≤ 1100) :
    ∃ g', waitL g s t = (g', 0) ∧ CLog Z (c + 1) g' ∧ logS g'.D.S = logS g.D.S ++ [waitRc s t] ∧ g'.n = g.n := by
  have h1 : soundR (waitRc s t) := ⟨by show (1 : Int) ≤ 3; decide, by show (3 : Int) ≤ 3; decide, by show (0 : Int) ≤ 0; decide, ht0, by show (0 : Int) ≤ 0; decide, by show (0 : Int) ≤ 7; decide, hs, by show (0 : Nat) ≤ _; omega⟩
  have h2 : FitR (waitRc s t) := ⟨by show (0 : Int) < _; decide, ht⟩
  have hlen : (encR (waitRc s t)).length = 26 + s.size := by
    unfold encR
    rw [recB_length, contR_length]
    show 6 + (20 + (s.size + 0)) = _
    omega
  obtain ⟨P, D', hP, hnw, hw, hl, hx⟩ := h.write hc hn h1 h2 (by omega) hz2
  have hnote : waitNote g s t = (⟨D', g.n, pauseI g.x s t nowh⟩, P, 0) := note_ok (g := ⟨g.D, g.n, pauseI g.x s t nowh⟩) h1 hP hw
  obtain ⟨q, hq⟩ : ∃ q, newsI g.x s t = q := ⟨_, rfl⟩
  have hwl := wait_yes h1 hq hnote
  have ap : applyI g.x (waitRc s t) P = pauseI g.x s t P := by
    unfold applyI
    rw [if_neg (by show ¬ (3 : Int) = 1; decide), if_neg (by show ¬ (3 : Int) = 2; decide), if_pos (by show (3 : Int) = 3; rfl)]
    rfl
  rw [ap] at hx
  cases q with
  | false =>
    rw [if_neg (by rintro ⟨e, _⟩; cases e)] at hwl
    refine ⟨_, hwl, hx _ ?_, hl, rfl⟩
    have e1 : pauseI g.x s t nowh = g.x := by unfold pauseI; rw [hq, if_neg (by decide)]
    have e2 : pauseI g.x s t P = g.x := by unfold pauseI; rw [hq, if_neg (by decide)]
    rw [e1, e2]
    exact ⟨fun _ => rfl, fun _ => rfl, rfl⟩
  | true =>
    rw [if_pos ⟨rfl, hnw⟩] at hwl
    refine ⟨_, hwl, hx _ ?_, hl, rfl⟩
    have e1 : pauseI g.x s t nowh = { g.x with waits := pA g.x.waits s ⟨t, nowh⟩ } := by unfold pauseI; rw [hq, if_pos rfl]
    have e2 : pauseI g.x s t P = { g.x with waits := pA g.x.waits s ⟨t, P⟩ } := by unfold pauseI; rw [hq, if_pos rfl]
    rw [e1, e2]
    refine ⟨fun _ => rfl, fun h' => ?_, rfl⟩
    show ((gA (pA (pA g.x.waits s ⟨t, nowh⟩) s ⟨t, P⟩) h').getD wt0).till = ((gA (pA g.x.waits s ⟨t, P⟩) h').getD wt0).till
    rw [gA_put, gA_put, gA_put]
    split
    · rfl
    · rfl
theorem CLog.new (Z : Nat) (most n : Int) (hn : n ≤ most) : CLog Z 0 (openL ⟨[], [], most, 0, 0⟩ n) :=
  ⟨⟨rfl, rfl, rfl, List.Pairwise.nil, fun _ => Byts.nil, fun p hp => (by cases hp), fun p hp => (by cases hp), fun p hp => (by cases hp), by simp [openL]⟩, open_agr (S := []) List.Pairwise.nil fun _ => Byts.nil, hn⟩
end Go.Proofs.YtimkgaokcldgkaaGreatDoor
/- Package spill: a log and its disk in a law: each call in one form. -/
namespace Go.Proofs.YtimkgaokcldgkaaGreatDoor
open Go Go.RowKit Go.Maps
set_option linter.unusedVariables false
set_option linter.unusedSimpArgs false
set_option maxRecDepth 100000

/-- A disk that was made behind world w. -/
structure DkS (w : World) (d : Nat) (D : Ds) (RD : Nat → Prop) (W : World) : Prop where
  dk : DkM W RD d D
  ge : ∀ k, RD k → w.heap.size ≤ k
  bl : Below w.heap.size w W
  now : NowM w
/-- A log on it. -/
structure SpS (w : World) (d L K : Nat) (g : Lg) (RD RL : Nat → Prop) (W : World) : Prop where
  lg : LgM W RD RL d L g
  ge : ∀ k, RD k ∨ RL k → w.heap.size ≤ k
  bl : Below w.heap.size w W
  now : NowM w
  few : FewK K g.x
section
variable {w W W' : World} {d L K : Nat} {D : Ds} {g g' : Lg} {RD RL : Nat → Prop}
theorem DkS.later (h : DkS w d D RD W) (hb : Below W.heap.size W W') : DkS w d D RD W' := ⟨h.dk.later hb, h.ge, h.bl.trans (hb.mono h.bl.size), h.now⟩
theorem SpS.later (h : SpS w d L K g RD RL W) (hb : Below W.heap.size W W') : SpS w d L K g RD RL W' := ⟨h.lg.later hb, h.ge, h.bl.trans (hb.mono h.bl.size), h.now, h.few⟩
theorem SpS.drew (h : SpS w d L K g RD RL W) : SpS w d L K g RD RL W.drew := h.later (Below.refl _ _).drew
theorem DkS.drew (h : DkS w d D RD W) : DkS w d D RD W.drew := h.later (Below.refl _ _).drew
theorem SpS.disk (h : SpS w d L K g RD RL W) : DkS w d g.D RD W := ⟨h.lg.dk, fun k hk => h.ge k (Or.inl hk), h.bl, h.now⟩
theorem SpS.mono {M : Nat} (h : SpS w d L K g RD RL W) (hm : K ≤ M) : SpS w d L M g RD RL W := ⟨h.lg, h.ge, h.bl, h.now, few_mono h.few hm⟩
theorem SpS.aft (h : SpS w d L K g RD RL W) {M : Nat} (ha : AftL RD RL d L W g' W') (hf : FewK M g'.x) : ∃ R1 R2, SpS w d L M g' R1 R2 W' ∧ (∀ k, R1 k ∨ R2 k → (RD k ∨ RL k) ∨ W.heap.size ≤ k) ∧ Only (fun k => RD k ∨ RL k) W W' := by
  obtain ⟨R1, R2, k⟩ := ha
  have hn : ∀ x, R1 x ∨ R2 x → (RD x ∨ RL x) ∨ W.heap.size ≤ x := fun x hx => by
    rcases hx with hx | hx
    · rcases k.newD x hx with e | e
      · exact Or.inl (Or.inl e)
      · exact Or.inr e
    · rcases k.newL x hx with e | e
      · exact Or.inl (Or.inr e)
      · exact Or.inr e
  refine ⟨R1, R2, ⟨k.lg, fun x hx => ?_, h.bl.trans (k.only.below h.bl.size h.ge), h.now, hf⟩, hn, k.only⟩
  rcases hn x hx with e | e
  · exact h.ge x e
  · exact Nat.le_trans h.bl.size e
/-- What a call leaves: the log anew, and all else as it was. -/
def SpA (w : World) (d L K : Nat) (RD RL : Nat → Prop) (W : World) (g' : Lg) (W' : World) : Prop := ∃ R1 R2, SpS w d L K g' R1 R2 W' ∧ (∀ k, R1 k ∨ R2 k → (RD k ∨ RL k) ∨ W.heap.size ≤ k) ∧ Only (fun k => RD k ∨ RL k) W W'
theorem s_new (hn : NowM w) (hb : Below w.heap.size w W) (x : Int) : Calls Tryz.prog 7 #[.int .i64 x] W fun e W' => ∃ d RD, e = .returned (.pointer (some ⟨d, 0, none⟩)) ∧ DkS w d ⟨[], [], moI x, 0, 0⟩ RD W' ∧ Below W.heap.size W W' ∧ ∀ k, RD k → W.heap.size ≤ k := by
  refine (dnew_at x W W.heap.size (Nat.le_refl _)).mono ?_
  rintro e W' ⟨rfl, hd, hb2⟩
  have hd0 : Dm W' 0 (W.heap.size + 1) W.heap.size [] (fun _ => (none, 0)) none 0 [] (moI x) 0 0 :=
    ⟨hd.box, ⟨hd.mp.mp, fun n b hn => (by cases hn), fun n m b c _ hn => (by cases hn), List.Pairwise.nil, Nat.zero_le _⟩, Own.nil _ _ _ _, hd.un_ok, Nat.zero_le _, hd.behB, hd.falB, hd.mo, hd.cnt, hd.seg, hd.kw⟩
  exact ⟨_, fun k => MineD (W.heap.size + 1) W.heap.size [] (fun _ => (none, 0)) none k, rfl, ⟨⟨⟨W.heap.size, 0, _, none, hd0, fun k hk => hk⟩, fun k hk => (hd.mine hk).1, fun _ => Byts.nil, fun p hp => (by cases hp), fun n hn => (by cases hn)⟩, fun k hk => Nat.le_trans hb.size (hd.mine hk).2, hb.trans (hb2.mono hb.size), hn⟩, hb2, fun k hk => (hd.mine hk).2⟩
theorem open_few (h : DkM W RD d D) (n : Int) : FewK 32768 (openL D n).x := by
  have hok := replL_ok h.byt h.seg (l := segsL D) (fun s hs => (h.segs_ok s hs).1)
  have hc : (segsL D).length ≤ 16 := by unfold segsL; rw [List.length_map]; exact h.cnt
  exact ⟨by show (replL D.S (segsL D)).puts.length ≤ _; have := hok.2.1; omega, by show (replL D.S (segsL D)).waits.length ≤ _; have := hok.2.2; omega⟩
theorem s_open (h : DkS w d D RD W) (n : Int) : Calls Tryz.prog 6 #[.pointer (some ⟨d, 0, none⟩), .int .i64 n] W fun e W' => ∃ L RL, e = .returned (.tuple #[.pointer (some ⟨L, 0, none⟩), .int .i64 0]) ∧ SpS w d L 32768 (openL D n) RD RL W' ∧ Below W.heap.size W W' ∧ ∀ k, RL k → W.heap.size ≤ k := by
  have hng : ¬ RD gNow := fun e => by
    have h1 := h.ge _ e
    have h2 := h.now.lt
    omega
  refine (kopen_at h.dk n (h.now.later h.bl) hng).mono ?_
  rintro e W' ⟨L, RL, rfl, hl, hf, hb, hg⟩
  refine ⟨L, RL, rfl, ⟨hl, fun k hk => ?_, h.bl.trans (hb.mono h.bl.size), h.now, open_few h.dk n⟩, hb, hg⟩
  rcases hk with hk | hk
  · exact h.ge k hk
  · exact Nat.le_trans h.bl.size (hg k hk)
theorem s_put (h : SpS w d L K g RD RL W) (r : Rc) (hk : r.kind = 1) (hid : okI r.id) (hK1 : 32768 ≤ K) (hK2 : K ≤ 800000) (hgn : g.n ≤ 1000) (X : Lg × Int) (hX : putL g r = X) :
    Calls Tryz.prog 9 #[.pointer (some ⟨L, 0, none⟩), .agg (reqL r).toArray] W fun e W' => e = .returned (.int .i64 X.2) ∧ SpA w d L (K + 1) RD RL W X.1 W' := by
  refine (put_at_ h.lg r hk hid h.few hK1 (by omega) hgn X hX).mono ?_
  rintro e W' ⟨rfl, hc⟩
  exact ⟨rfl, h.aft hc.1 hc.2⟩
end
/-! The fixed fact. -/
theorem Agr.keys {S : Sgs} {x : Ix} (h : Agr S x) (i : Int) : i ∈ x.puts.map Prod.fst ↔ (lstP i (logS S)).isSome = true := by
  rw [gA_keys]
  cases hg : gA x.puts i with
  | none => rw [h.none i hg]; simp
  | some p =>
    obtain ⟨r, h1, _⟩ := h.puts i p hg
    rw [h1]
    simp
end Go.Proofs.YtimkgaokcldgkaaGreatDoor
