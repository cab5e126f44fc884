/- A path without what goes up and stays: the program's. -/
import Derived.Test.YtcdodpkfhkfnkaaDoorUrAuth
import Derived.Test.YtcdodpkfhkfnkaaDoorOwn
namespace Go.Proofs.YtcdodpkfhkfnkaaDoor
open Go.RowKit
set_option linter.unusedVariables false
set_option linter.unusedSimpArgs false
set_option maxRecDepth 10000

theorem rowS : RowTy Tryd.prog 59 9 1 16 := ⟨Tryd.underlying59, ⟨.string ⟨#[]⟩, by kernel_rfl, rfl⟩, by decide⟩
def sv (ks : List (List Int)) : List Value := ks.map fun l => Value.string (strL l)
theorem sv_len (ks : List (List Int)) : (sv ks).length = ks.length := by simp [sv]
theorem sv_get {ks : List (List Int)} {j : Nat} {l : List Int} (h : ks[j]? = some l) : (sv ks)[j]? = some (.string (strL l)) := by simp [sv, h]
theorem sv_app (a b : List (List Int)) : sv a ++ sv b = sv (a ++ b) := by simp [sv]
theorem sv_take (a : List (List Int)) (n : Nat) : (sv a).take n = sv (a.take n) := by simp [sv, List.map_take]
theorem str_one (b : ByteArray) : (#[Value.string b] : Array Value).all (·.oneCell') = true := by simp [Value.oneCell']
/-- A slice of strings of the call's own. -/
def OwnS (w : World) (B : Nat) (a : Option Addr) (cap : Nat) (ks : List (List Int)) : Prop := Own w B 9 1 a ks.length cap (sv ks)
theorem OwnS.cells {w : World} {B : Nat} {g cap : Nat} {ks : List (List Int)} (h : OwnS w B (some ⟨g, 0, none⟩) cap ks) {j : Nat} {l : List Int} (hj : ks[j]? = some l) : w.cell? ⟨g, j, none⟩ = some (.string (strL l)) := Own.cell h (sv_get hj)
/-- The parts, as strings.Split lays them. -/
theorem splitP_at (s : ByteArray) (w : World) (hs : s.size ≤ 100000) (hT : TabsM w) :
    Calls Tryd.prog 62 #[.string s, .string ⟨#[47]⟩] w fun e w' => e = .returned (.slice (some ⟨w.heap.size, 0, none⟩) (splI 47 (btL s)).length (splI 47 (btL s)).length) ∧ w' = w.alloc (.cells (sv (splI 47 (btL s))).toArray 9) := by
  obtain ⟨m, hm⟩ := hT.2
  have h1 := splitB_spl 47 s
  have h2 : (Lib.splitB ⟨#[47]⟩ 0 (Lib.countB s ⟨#[47]⟩) s).map Value.string = sv (splI 47 (btL s)) := by
    rw [show (47 : Int) = ((47 : UInt8).toNat : Int) from rfl, ← h1]
    unfold sv
    rw [List.map_map]
    exact List.map_congr_left fun b _ => by simp [strL_btL]
  have h3 : Lib.countB s ⟨#[47]⟩ + 1 = (splI 47 (btL s)).length := by
    have e1 : Lib.splitK [47] 0 (Lib.count s.data.toList [47]) s.data.toList = Lib.splitK [47] 0 (Lib.count s.data.toList [47]) s.data.toList := rfl
    have h4 := splitK_count 47 s.data.toList.length s.data.toList (Nat.le_refl _)
    have h5 := splitK_spl 47 s.data.toList.length s.data.toList (Nat.le_refl _)
    have h6 : (splI 47 (btL s)).length = Lib.count s.data.toList [47] + 1 := by
      rw [show (47 : Int) = ((47 : UInt8).toNat : Int) from rfl, iv_bt, ← h5, List.length_map, h4]
    rw [h6]
  refine (Any.strings_Split Tryd.lays146 (by kernel_rfl) s ⟨#[47]⟩ m w (by omega) hm (by decide)).mono ?_
  rintro e w' ⟨rfl, rfl⟩
  rw [h3, h2]
  exact ⟨rfl, rfl⟩
/-- What of the parts is kept behind k of them. -/
def keptI (ps : List (List Int)) (k : Nat) : List (List Int) := (ps.take k).foldl cstep []
theorem keptI_next {ps : List (List Int)} {k : Nat} {p : List Int} (h : ps[k]? = some p) : keptI ps (k + 1) = cstep (keptI ps k) p := by
  obtain ⟨hk, he⟩ := List.getElem?_eq_some_iff.1 h
  unfold keptI
  rw [List.take_succ_eq_append_getElem hk, he, List.foldl_append]
  rfl
structure KO (ps : List (List Int)) (M : Nat) (ks : List (List Int)) (k : Nat) : Prop where
  len : ks.length ≤ k + 1
  all : ∀ l ∈ ks, Byts l ∧ l.length ≤ M
theorem cstep_ok {ps ks : List (List Int)} {M k : Nat} {p : List Int} (h : KO ps M ks k) (hb : Byts p) (hp : p.length ≤ M) : KO ps M (cstep ks p) (k + 1) := by
  unfold cstep
  split
  · exact ⟨by have := h.len; omega, h.all⟩
  · split
    · split
      · exact ⟨by simp, fun l hl => by rw [List.mem_singleton.1 hl]; exact ⟨Byts.nil, by simp⟩⟩
      · exact ⟨by have := h.len; rw [List.length_dropLast]; omega, fun l hl => h.all l (List.mem_of_mem_take (by rwa [List.dropLast_eq_take] at hl))⟩
    · exact ⟨by have := h.len; rw [List.length_append]; simp; exact this, fun l hl => by
        rcases List.mem_append.1 hl with hl | hl
        · exact h.all l hl
        · rw [List.mem_singleton.1 hl]; exact ⟨hb, hp⟩⟩
theorem spl_mem (c : Int) : ∀ (l : List Int), ∀ p ∈ splI c l, p.length ≤ l.length ∧ (Byts l → Byts p)
  | [], p, h => by
    have : p = [] := by simpa [splI] using h
    subst this
    exact ⟨Nat.le_refl _, fun _ => Byts.nil⟩
  | x :: t, p, h => by
    cases hs : splI c t with
    | nil => exact absurd hs (splI_ne _ _)
    | cons q qs =>
      have ih := fun r hr => spl_mem c t r (by rw [hs]; exact hr)
      by_cases hx : x = c
      · subst hx
        rw [splI_sign, hs] at h
        rcases List.mem_cons.1 h with rfl | h
        · exact ⟨by simp, fun _ => Byts.nil⟩
        · have := ih p h
          exact ⟨by simp; omega, fun hb => this.2 hb.cons.2⟩
      · rw [splI_other hx hs] at h
        rcases List.mem_cons.1 h with rfl | h
        · have := ih q (by simp)
          exact ⟨by simp; exact this.1, fun hb => Byts.mk hb.cons.1 (this.2 hb.cons.2)⟩
        · have := ih p (by simp [h])
          exact ⟨by simp; omega, fun hb => this.2 hb.cons.2⟩
theorem spl_count (c : Int) : ∀ l : List Int, (splI c l).length ≤ l.length + 1
  | [] => by simp [splI]
  | x :: t => by
    have ih := spl_count c t
    cases hs : splI c t with
    | nil => exact absurd hs (splI_ne _ _)
    | cons q qs =>
      rw [hs] at ih
      by_cases hx : x = c
      · subst hx
        rw [splI_sign, hs]
        simp at ih ⊢
        omega
      · rw [splI_other hx hs]
        simp at ih ⊢
        omega
theorem join_len {M : Nat} : ∀ (ks : List (List Int)), (∀ l ∈ ks, l.length ≤ M) → (joinI ks).length ≤ ks.length * (M + 1)
  | [], _ => by simp [joinI]
  | [p], h => by have := h p (by simp); simp [joinI]; omega
  | p :: q :: ps, h => by
    have h1 := h p (by simp)
    have ih := join_len (q :: ps) (fun l hl => h l (by simp at hl ⊢; right; exact hl))
    show (p ++ 47 :: joinI (q :: ps)).length ≤ _
    rw [List.length_append, List.length_cons, List.length_cons, Nat.add_mul]
    omega
theorem joinS_at (w : World) (B : Nat) (a : Option Addr) (n cap : Nat) (ks : List (List Int)) (hn : ks.length = n) (t : ByteArray) (ht : strL (joinI ks) = t) (ho : OwnS w B a cap ks) (M : Nat) (hM : M ≤ 100000) (hk : ks.length ≤ 100000) (hb : ∀ l ∈ ks, Byts l ∧ l.length ≤ M) :
    Calls Tryd.prog 63 #[.slice a n cap, .string ⟨#[47]⟩] w fun e w' => e = .returned (.string t) ∧ Below w.heap.size w w' := by
  subst hn
  by_cases h0 : ks.length = 0
  · have : ks = [] := List.eq_nil_of_length_eq_zero h0
    subst this
    refine (Any.strings_Join_none Tryd.lays156 Tryd.Builder_Extra_156 a cap ⟨#[47]⟩ w).mono ?_
    rintro e w' ⟨rfl, hw⟩
    subst hw
    rw [← ht]
    exact ⟨rfl, Below.refl _ _⟩
  · obtain ⟨g, rfl, hB, hg⟩ := Own.some_ ho (by omega)
    have hmap : (ks.map strL).map (fun b => iv b.data.toList) = ks := by
      rw [List.map_map]
      conv => rhs; rw [← List.map_id ks]
      exact List.map_congr_left fun l hl => by
        show iv (strL l).data.toList = l
        rw [← iv_bt, btL_strL (hb l hl).1]
    have hjoin : iv (Lib.join ((ks.map strL).map (·.data.toList)) [47]) = joinI ks := by
      rw [join_iv, List.map_map]
      exact congrArg joinI hmap
    have hlen : (joinI ks).length ≤ ks.length * (M + 1) := join_len ks (fun l hl => (hb l hl).2)
    have hmul : ks.length * (M + 1) ≤ 100000 * 100001 := Nat.mul_le_mul hk (by omega)
    have := Any.strings_Join Tryd.lays156 Tryd.Builder_Extra_156 g 0 cap (ks.map strL) ⟨#[47]⟩ w (fun j x hj => by
      rw [List.getElem?_map] at hj
      cases hc : ks[j]? with
      | none => rw [hc] at hj; cases hj
      | some l =>
        rw [hc] at hj
        injection hj with hj
        rw [Nat.zero_add, ho.cells hc]
        exact congrArg some (congrArg Value.string hj)) hg (by rw [List.length_map]; omega) (by rw [List.length_map]; exact Own.cap_le ho) (by
      rw [← iv_len]
      show (iv (Lib.join ((ks.map strL).map (·.data.toList)) [47])).length ≤ _
      rw [hjoin]
      omega)
    rw [List.length_map] at this
    refine this.mono ?_
    rintro e w' ⟨rfl, hw⟩
    refine ⟨?_, hw⟩
    rw [mk_iv]
    show Ending.returned (.string (strL (iv (Lib.join ((ks.map strL).map (·.data.toList)) [47])))) = _
    rw [hjoin, ht]
theorem hasSlash_at (l : List Int) (hl : Byts l) (b : Bool) (hb : decide (l.head? = some 47) = b) (w : World) :
    Calls Tryd.prog 64 #[.string (strL l), .string ⟨#[47]⟩] w fun e w' => e = .returned (.bool b) ∧ w = w' := by
  refine (Any.strings_HasPrefix Tryd.lays99 (strL l) ⟨#[47]⟩ w).mono ?_
  rintro e w' ⟨rfl, rfl⟩
  have he : iv (strL l).data.toList = l := by rw [← iv_bt, btL_strL hl]
  refine ⟨?_, rfl⟩
  rw [← hb]
  refine ret_bool ?_
  have key : ∀ x : List UInt8, Lib.hasPrefix x [47] = decide ((iv x).head? = some 47) := by
    intro x
    cases x with
    | nil => rfl
    | cons c x =>
      rw [Bool.eq_iff_iff, decide_eq_true_eq]
      show ([47].isPrefixOf (c :: x)) = true ↔ (some ((c.toNat : Nat) : Int)) = some 47
      rw [List.isPrefixOf_iff_prefix, Option.some.injEq]
      constructor
      · rintro ⟨r, hr⟩
        injection hr with h1 h2
        rw [← h1]
        rfl
      · intro h
        have : c = 47 := UInt8.toNat_inj.1 (by show c.toNat = 47; omega)
        exact ⟨x, by rw [this]; rfl⟩
  show Lib.hasPrefix (strL l).data.toList [47] = _
  rw [key, he]
theorem keptI_all (ps : List (List Int)) : keptI ps ps.length = ps.foldl cstep [] := by unfold keptI; rw [List.take_length]
theorem cleanL_yes {ps : List (List Int)} {p : List Int} (h : ps.getLast? = some p) (hp : p = [46] ∨ p = [46, 46]) : cleanL ps = keptI ps ps.length ++ [[]] := by
  unfold cleanL
  rw [keptI_all, if_pos (by rw [h]; simpa using hp)]
theorem cleanL_no {ps : List (List Int)} {p : List Int} (h : ps.getLast? = some p) (h1 : p ≠ [46]) (h2 : p ≠ [46, 46]) : cleanL ps = keptI ps ps.length := by
  unfold cleanL
  rw [keptI_all, if_neg (by rw [h]; simp [h1, h2]), List.append_nil]
theorem join_byts : ∀ (ks : List (List Int)), (∀ l ∈ ks, Byts l) → Byts (joinI ks)
  | [], _ => Byts.nil
  | [p], h => h p (by simp)
  | p :: q :: ps, h => (h p (by simp)).append (Byts.mk ⟨by decide, by decide⟩ (join_byts (q :: ps) (fun l hl => h l (by simp at hl ⊢; right; exact hl))))
structure CL (s : ByteArray) (ps : List (List Int)) (w wr : World) (k : Nat) (a : Option Addr) (cap : Nat) (ks : List (List Int)) : Prop where
  own : OwnS wr (w.heap.size + 1) a cap ks
  box : Box wr w.heap.size (sv ps).toArray 9
  bel : Below w.heap.size w wr
  is : ks = keptI ps k
  ok : KO ps s.size ks k
set_option maxHeartbeats 4000000 in
theorem clean_at (s t : ByteArray) (ht : strL (cleanI (btL s)) = t) (hs : s.size ≤ 10000) (w : World) (hT : TabsM w) :
    Calls Tryd.prog 30 #[.string s] w fun e w' => e = .returned (.string t) ∧ Below w.heap.size w w' := by
  obtain ⟨ps, hps⟩ : ∃ ps, splI 47 (btL s) = ps := ⟨_, rfl⟩
  have hn0 : 0 < ps.length := by rw [← hps]; exact List.length_pos_iff.2 (splI_ne _ _)
  have hn1 : ps.length ≤ 10001 := by have := spl_count 47 (btL s); rw [hps, btL_length] at this; omega
  have HPS : Hid (∀ p ∈ ps, Byts p ∧ p.length ≤ s.size) := Lib.hid (fun p hp => by
    rw [← hps] at hp
    have := spl_mem 47 _ p hp
    exact ⟨this.2 (btL_byts s), by rw [← btL_length s]; exact this.1⟩)
  have HS := splitP_at s w (by omega) hT
  rw [hps] at HS
  have HS := Lib.hid HS
  have HT := Lib.hid hT
  have HV : Hid (strL (let q := joinI (cleanL ps); if q.head? = some 47 then q else 47 :: q) = t) := Lib.hid (by rw [← ht, ← hps]; rfl)
  clear hT hps ht
  go_enter Tryd.func30, Tryd.ntmps30
  go_wp2_with fail
  refine HS.out.mono ?_
  rintro e w1 ⟨rfl, hw⟩
  have L0 : Hid (CL s ps w w1 0 none 0 []) := Lib.hid (by
    rw [hw]
    exact ⟨Own.nil _ _ _ _, Box.new w _ _, (Below.refl _ _).alloc (Nat.le_refl _) _, rfl, ⟨by simp, fun l hl => by cases hl⟩⟩)
  clear hw HS
  go_wp2_with fail
  go_loopw [4, 13] (fun v i wr => ∃ (k : Nat) (a : Option Addr) (cap : Nat) (ks : List (List Int)), k ≤ ps.length ∧ i = .int .i64 (k : Int) ∧ v = .slice a ks.length cap ∧ Hid (CL s ps w wr k a cap ks)) (fun _ i _ => ps.length - (intOf i).toNat)
  case atStart => exact ⟨0, none, 0, [], Nat.zero_le _, rfl, rfl, L0⟩
  case round =>
    clear L0
    obtain ⟨k, a, cap, ks, hk, rfl, rfl, HL⟩ := hrel
    by_cases hlt : k < ps.length
    · have hkd : decide ((k : Int) < (ps.length : Int)) = true := decide_eq_true (by omega)
      obtain ⟨p, hp⟩ : ∃ p, ps[k]? = some p := ⟨ps[k], List.getElem?_eq_getElem hlt⟩
      have hpb := HPS.out p (List.mem_of_getElem? hp)
      have kc : wr.cell? ⟨w.heap.size, k, none⟩ = some (.string (strL p)) := by
        rw [HL.out.box.cell k]
        simp [sv, hp]
      obtain ⟨u, hu⟩ : ∃ u, strL p = u := ⟨_, rfl⟩
      rw [hu] at kc
      have q1 : (u.toList == [46]) = (p == [46]) := by rw [← hu]; exact tl_eq hpb.1 [46]
      have q2 : (u.toList == [46, 46]) = (p == [46, 46]) := by rw [← hu]; exact tl_eq hpb.1 [46, 46]
      have K2 : Hid (KO ps s.size (cstep ks p) (k + 1)) := Lib.hid (cstep_ok HL.out.ok hpb.1 hpb.2)
      have N2 : Hid (cstep ks p = keptI ps (k + 1)) := Lib.hid (by rw [keptI_next hp, ← HL.out.is])
      have HU := Lib.hid hu
      have lt0 := HL.out.box.lt
      have hlen := HL.out.ok.len
      clear hp hpb hu
      cases x1 : (p == [46]) with
      | true =>
        rw [x1] at q1
        have hu2 : u.toList = [46] := beq_iff_eq.1 q1
        have hc : cstep ks p = ks := by unfold cstep; rw [if_pos (beq_iff_eq.1 x1)]
        rw [hc] at K2 N2
        clear q2 x1 hc
        go_wp2
        go_roundw
        case rel => exact ⟨k + 1, a, cap, ks, by omega, by go_num, rfl, Lib.hid ⟨HL.out.own, HL.out.box, HL.out.bel, N2.out, K2.out⟩⟩
        case measure => simp [intOf]; omega
      | false =>
        rw [x1] at q1
        cases x2 : (p == [46, 46]) with
        | true =>
          rw [x2] at q2
          have hu2 : u.toList = [46, 46] := beq_iff_eq.1 q2
          have hc : cstep ks p = if ks.dropLast = [] then [[]] else ks.dropLast := by unfold cstep; rw [if_neg (by simpa using x1), if_pos (beq_iff_eq.1 x2)]
          rw [hc] at K2 N2
          clear q1 q2 x1 x2 hc
          obtain ⟨m, hm⟩ : ∃ m, ks.length = m := ⟨_, rfl⟩
          rw [hm]
          have OW : Hid (Own wr (w.heap.size + 1) 9 1 a m cap (sv ks)) := Lib.hid (by rw [← hm]; exact HL.out.own)
          rw [hm] at hlen
          have HM := Lib.hid hm
          clear hm
          have hcap := OW.out.cap_le
          have hmax := OW.out.max
          have hnone : a = none → cap = 0 := fun e => by
            rcases OW.out.form with ⟨_, _, h⟩ | ⟨g, h, _⟩
            · exact h
            · rw [e] at h; cases h
          clear hnone
          have B0 : w.heap.size + 1 ≤ wr.heap.size := by omega
          by_cases h0 : m ≤ 1
          · have hd : ks.dropLast = [] := by rw [List.dropLast_eq_take, HM.out]; exact List.eq_nil_of_length_eq_zero (by simp; omega)
            rw [if_pos hd] at K2 N2
            have O0 : Hid (Own wr (w.heap.size + 1) 9 1 a 0 cap []) := Lib.hid (by have := OW.out.take (k := 0) (by omega); simpa using this)
            have post : Hid (∀ (g cap' : Nat) (w2 : World), Own w2 (w.heap.size + 1) 9 1 (some ⟨g, 0, none⟩) 1 cap' (sv [[]]) → Below (w.heap.size + 1) wr w2 → Hid (CL s ps w w2 (k + 1) (some ⟨g, 0, none⟩) cap' [[]])) := Lib.hid (fun g cap' w2 h1 h2 => Lib.hid ⟨h1, HL.out.box.below h2 (by omega), HL.out.bel.trans (h2.mono (by omega)), N2.out, K2.out⟩)
            clear hd
            rcases (show m = 0 ∨ m = 1 by omega) with rfl | rfl
            all_goals
              have hmx : max (-1 : Int) 0 = 0 := by decide
              clear h0
              go_wp2_with (at_builtin; refine wpList_app1 rowS rfl _ _ rfl (w.heap.size + 1) a 0 cap [] rfl O0.out #[.string ⟨#[]⟩] rfl rfl (str_one _) (by omega) (by decide) B0 1 rfl (sv [[]]) rfl ?_; rintro g cap' w2 own2 _ bel2 _)
              have L2 := post.out g cap' w2 own2 bel2
              clear own2 bel2
              go_wp2
              go_roundw
              case rel => exact ⟨k + 1, some ⟨g, 0, none⟩, cap', [[]], by omega, by go_num, rfl, L2⟩
              case measure => simp [intOf]; omega
          · obtain ⟨j, rfl⟩ : ∃ j, m = j + 1 := ⟨m - 1, by omega⟩
            have hmx : max (j : Int) 0 = j := by omega
            have hj : (j : Int) ≤ (cap : Int) := by omega
            have hd : ks.dropLast = ks.take j := by rw [List.dropLast_eq_take, HM.out]; rfl
            have hdl : (ks.take j).length = j := by rw [List.length_take, HM.out]; omega
            rw [hd, if_neg (by intro e; rw [e] at hdl; simp at hdl; omega)] at K2 N2
            have O0 : Hid (OwnS wr (w.heap.size + 1) a cap (ks.take j)) := Lib.hid (by
              have := OW.out.take (k := j) (by omega)
              rw [Nat.mul_one, sv_take] at this
              unfold OwnS
              rw [hdl]
              exact this)
            have d0 : ((j : Int) == 0) = false := beq_eq_false_iff_ne.2 (by omega)
            have HDL := Lib.hid hdl
            clear hd hdl
            go_wp2
            go_roundw
            case rel => exact ⟨k + 1, a, cap, ks.take j, by omega, by go_num, by rw [HDL.out], Lib.hid ⟨O0.out, HL.out.box, HL.out.bel, N2.out, K2.out⟩⟩
            case measure => simp [intOf]; omega
        | false =>
          rw [x2] at q2
          have hc : cstep ks p = ks ++ [p] := by unfold cstep; rw [if_neg (by simpa using x1), if_neg (by simpa using x2)]
          rw [hc] at K2 N2
          clear x1 x2 hc
          have B0 : w.heap.size + 1 ≤ wr.heap.size := by omega
          have post : Hid (∀ (g cap' : Nat) (w2 : World), Own w2 (w.heap.size + 1) 9 1 (some ⟨g, 0, none⟩) (ks.length + 1) cap' (sv (ks ++ [p])) → Below (w.heap.size + 1) wr w2 → Hid (CL s ps w w2 (k + 1) (some ⟨g, 0, none⟩) cap' (ks ++ [p]))) := Lib.hid (fun g cap' w2 h1 h2 => Lib.hid ⟨by unfold OwnS; rw [List.length_append]; exact h1, HL.out.box.below h2 (by omega), HL.out.bel.trans (h2.mono (by omega)), N2.out, K2.out⟩)
          have HZ : Hid (sv ks ++ (#[Value.string u] : Array Value).toList = sv (ks ++ [p])) := Lib.hid (by rw [← sv_app, ← HU.out]; rfl)
          go_wp2_with (at_builtin; refine wpList_app1 rowS rfl _ _ rfl (w.heap.size + 1) a ks.length cap (sv ks) rfl HL.out.own #[.string u] rfl rfl (str_one _) (by omega) (by decide) B0 (ks.length + 1) rfl (sv (ks ++ [p])) HZ.out ?_; rintro g cap' w2 own2 _ bel2 _)
          have L2 := post.out g cap' w2 own2 bel2
          clear own2 bel2
          go_wp2
          go_roundw
          case rel => exact ⟨k + 1, some ⟨g, 0, none⟩, cap', ks ++ [p], by omega, by go_num, by rw [List.length_append]; rfl, L2⟩
          case measure => simp [intOf]; omega
    · have hkd : decide ((k : Int) < (ps.length : Int)) = false := decide_eq_false (by omega)
      obtain rfl : k = ps.length := by omega
      obtain ⟨i, hi⟩ : ∃ i, ps.length = i + 1 := ⟨ps.length - 1, by omega⟩
      have hq : (ps.length : Int) - 1 = (i : Int) := by omega
      have hi1 : i < ps.length := by omega
      obtain ⟨p, hp⟩ : ∃ p, ps[i]? = some p := ⟨ps[i], List.getElem?_eq_getElem hi1⟩
      have hlast : Hid (ps.getLast? = some p) := Lib.hid (by rw [List.getLast?_eq_getElem?, show ps.length - 1 = i from by omega]; exact hp)
      have hpb := HPS.out p (List.mem_of_getElem? hp)
      have kc : wr.cell? ⟨w.heap.size, i, none⟩ = some (.string (strL p)) := by
        rw [HL.out.box.cell i]
        simp [sv, hp]
      obtain ⟨u, hu⟩ : ∃ u, strL p = u := ⟨_, rfl⟩
      rw [hu] at kc
      have q1 : (u.toList == [46]) = (p == [46]) := by rw [← hu]; exact tl_eq hpb.1 [46]
      have q2 : (u.toList == [46, 46]) = (p == [46, 46]) := by rw [← hu]; exact tl_eq hpb.1 [46, 46]
      have lt0 := HL.out.box.lt
      have hlen := HL.out.ok.len
      have HI := Lib.hid hi
      have i0 : (0 : Int) ≤ (i : Int) := by omega
      have i1 : (i : Int) < (ps.length : Int) := by omega
      clear hp hpb hu hi hi1
      by_cases hx : p = [46] ∨ p = [46, 46]
      · have HC : Hid (cleanL ps = ks ++ [[]]) := Lib.hid (by rw [cleanL_yes hlast.out hx, ← HL.out.is])
        have B0 : w.heap.size + 1 ≤ wr.heap.size := by omega
        have HOK4 : Hid ((ks ++ [[]]).length ≤ 10004) := Lib.hid (by rw [List.length_append]; simp; omega)
        have HOK : Hid ((ks ++ [[]]).length ≤ 100000 ∧ ∀ l ∈ ks ++ [[]], Byts l ∧ l.length ≤ s.size) := Lib.hid ⟨by have := HOK4.out; omega, fun l hl => by
          rcases List.mem_append.1 hl with hl | hl
          · exact HL.out.ok.all l hl
          · rw [List.mem_singleton.1 hl]; exact ⟨Byts.nil, by simp⟩⟩
        have HZ : Hid (sv ks ++ (#[Value.string ⟨#[]⟩] : Array Value).toList = sv (ks ++ [[]])) := Lib.hid (by rw [← sv_app]; rfl)
        have HLN : Hid ((ks ++ [[]]).length = ks.length + 1) := Lib.hid (by rw [List.length_append]; rfl)
        obtain ⟨x1, hx1⟩ : ∃ x, (p == [46]) = x := ⟨_, rfl⟩
        obtain ⟨x2, hx2⟩ : ∃ x, (p == [46, 46]) = x := ⟨_, rfl⟩
        rw [hx1] at q1
        rw [hx2] at q2
        have hor : x1 = false → x2 = true := by
          rcases hx with h | h
          · intro e; rw [e] at hx1; rw [beq_eq_false_iff_ne] at hx1; exact absurd h hx1
          · intro _; rw [← hx2, beq_iff_eq]; exact h
        clear hx hx1 hx2 hlast
        obtain ⟨q, hqq⟩ : ∃ q, joinI (ks ++ [[]]) = q := ⟨_, rfl⟩
        obtain ⟨z, hzz⟩ : ∃ z, strL q = z := ⟨_, rfl⟩
        obtain ⟨y, hyy⟩ : ∃ y, decide (q.head? = some 47) = y := ⟨_, rfl⟩
        have HV2 : Hid (strL (if q.head? = some 47 then q else 47 :: q) = t) := Lib.hid (by rw [← HV.out, HC.out, hqq])
        have HJ : Hid (strL (joinI (ks ++ [[]])) = z) := Lib.hid (by rw [hqq]; exact hzz)
        have HZQ : Hid (strL q = z) := Lib.hid hzz
        have HQB : Hid (Byts q) := Lib.hid (by rw [← hqq]; exact join_byts _ fun l hl => (HOK.out.2 l hl).1)
        have HY := Lib.hid hyy
        have HZS : Hid (z.size ≤ 10004 * 10002) := Lib.hid (by
          rw [← hzz, strL_size, ← hqq]
          have h1 := join_len (ks ++ [[]]) (fun l hl => (HOK.out.2 l hl).2)
          have h2 : (ks ++ [[]]).length * (s.size + 1) ≤ 10004 * 10002 := Nat.mul_le_mul HOK4.out (by omega)
          omega)
        have HP : Hid (∀ W : World, Calls Tryd.prog 64 #[.string z, .string ⟨#[47]⟩] W fun e w' => e = .returned (.bool y) ∧ W = w') := Lib.hid (fun W => by rw [← hzz]; exact hasSlash_at q HQB.out y hyy W)
        clear hqq hzz hyy
        cases x1 with
        | true =>
          have hu2 : u.toList = [46] := beq_iff_eq.1 q1
          clear q2 hor
          go_wp2_with (at_builtin; refine wpList_app1 rowS rfl _ _ rfl (w.heap.size + 1) a ks.length cap (sv ks) rfl HL.out.own #[.string ⟨#[]⟩] rfl rfl (str_one _) (by omega) (by decide) B0 (ks.length + 1) rfl (sv (ks ++ [[]])) HZ.out ?_; rintro g cap' w2 own2 _ bel2 _)
          have OWN2 : Hid (OwnS w2 (w.heap.size + 1) (some ⟨g, 0, none⟩) cap' (ks ++ [[]])) := Lib.hid (by unfold OwnS; rw [List.length_append]; exact own2)
          have BE : Hid (Below w.heap.size w w2) := Lib.hid (HL.out.bel.trans (bel2.mono (by omega)))
          clear own2 bel2
          refine (joinS_at _ (w.heap.size + 1) _ (ks.length + 1) _ (ks ++ [[]]) HLN.out z HJ.out OWN2.out s.size (by omega) HOK.out.1 HOK.out.2).mono ?_
          rintro e w3 ⟨rfl, hb3⟩
          have BE3 : Hid (Below w.heap.size w w3) := Lib.hid (BE.out.trans (hb3.mono BE.out.size))
          clear hb3
          go_wp2_with fail
          refine (HP.out _).mono ?_
          rintro e w4 ⟨rfl, hw4⟩
          subst w4
          cases y with
          | true =>
            have HE : Hid (z = t) := Lib.hid (by rw [← HV2.out, if_pos (of_decide_eq_true HY.out), HZQ.out])
            go_wp2
            go_ret
            rw [HE.out]
            exact ⟨rfl, BE3.out⟩
          | false =>
            have A1 : ∀ wx : World, (Op.stringOp .add ⟨#[47]⟩ z).run Tryd.prog wx = .ok (.string t) wx := fun wx => by
              rw [run_string_add_sum wx _ _ (by have := HZS.out; have h1 : (⟨#[47]⟩ : ByteArray).size = 1 := rfl; omega), ← HV2.out, if_neg (of_decide_eq_false HY.out), ← HZQ.out]
              exact congrArg (fun v => Result.ok (Value.string v) wx) (strL_app [47] q).symm
            go_wp2
            go_ret
            exact ⟨rfl, BE3.out⟩
        | false =>
          obtain rfl : x2 = true := hor rfl
          have hu2 : u.toList = [46, 46] := beq_iff_eq.1 q2
          clear hor
          go_wp2_with (at_builtin; refine wpList_app1 rowS rfl _ _ rfl (w.heap.size + 1) a ks.length cap (sv ks) rfl HL.out.own #[.string ⟨#[]⟩] rfl rfl (str_one _) (by omega) (by decide) B0 (ks.length + 1) rfl (sv (ks ++ [[]])) HZ.out ?_; rintro g cap' w2 own2 _ bel2 _)
          have OWN2 : Hid (OwnS w2 (w.heap.size + 1) (some ⟨g, 0, none⟩) cap' (ks ++ [[]])) := Lib.hid (by unfold OwnS; rw [List.length_append]; exact own2)
          have BE : Hid (Below w.heap.size w w2) := Lib.hid (HL.out.bel.trans (bel2.mono (by omega)))
          clear own2 bel2
          refine (joinS_at _ (w.heap.size + 1) _ (ks.length + 1) _ (ks ++ [[]]) HLN.out z HJ.out OWN2.out s.size (by omega) HOK.out.1 HOK.out.2).mono ?_
          rintro e w3 ⟨rfl, hb3⟩
          have BE3 : Hid (Below w.heap.size w w3) := Lib.hid (BE.out.trans (hb3.mono BE.out.size))
          clear hb3
          go_wp2_with fail
          refine (HP.out _).mono ?_
          rintro e w4 ⟨rfl, hw4⟩
          subst w4
          cases y with
          | true =>
            have HE : Hid (z = t) := Lib.hid (by rw [← HV2.out, if_pos (of_decide_eq_true HY.out), HZQ.out])
            go_wp2
            go_ret
            rw [HE.out]
            exact ⟨rfl, BE3.out⟩
          | false =>
            have A1 : ∀ wx : World, (Op.stringOp .add ⟨#[47]⟩ z).run Tryd.prog wx = .ok (.string t) wx := fun wx => by
              rw [run_string_add_sum wx _ _ (by have := HZS.out; have h1 : (⟨#[47]⟩ : ByteArray).size = 1 := rfl; omega), ← HV2.out, if_neg (of_decide_eq_false HY.out), ← HZQ.out]
              exact congrArg (fun v => Result.ok (Value.string v) wx) (strL_app [47] q).symm
            go_wp2
            go_ret
            exact ⟨rfl, BE3.out⟩
      · have HC : Hid (cleanL ps = ks) := Lib.hid (by rw [cleanL_no hlast.out (fun e => hx (Or.inl e)) (fun e => hx (Or.inr e)), ← HL.out.is])
        have HOK4 : Hid (ks.length ≤ 10004) := Lib.hid (by omega)
        have HOK : Hid (ks.length ≤ 100000 ∧ ∀ l ∈ ks, Byts l ∧ l.length ≤ s.size) := Lib.hid ⟨by omega, HL.out.ok.all⟩
        rw [beq_eq_false_iff_ne.2 (fun e => hx (Or.inl e))] at q1
        rw [beq_eq_false_iff_ne.2 (fun e => hx (Or.inr e))] at q2
        have BE : Hid (Below w.heap.size w wr) := Lib.hid HL.out.bel
        clear hx hlast
        obtain ⟨q, hqq⟩ : ∃ q, joinI (ks) = q := ⟨_, rfl⟩
        obtain ⟨z, hzz⟩ : ∃ z, strL q = z := ⟨_, rfl⟩
        obtain ⟨y, hyy⟩ : ∃ y, decide (q.head? = some 47) = y := ⟨_, rfl⟩
        have HV2 : Hid (strL (if q.head? = some 47 then q else 47 :: q) = t) := Lib.hid (by rw [← HV.out, HC.out, hqq])
        have HJ : Hid (strL (joinI (ks)) = z) := Lib.hid (by rw [hqq]; exact hzz)
        have HZQ : Hid (strL q = z) := Lib.hid hzz
        have HQB : Hid (Byts q) := Lib.hid (by rw [← hqq]; exact join_byts _ fun l hl => (HOK.out.2 l hl).1)
        have HY := Lib.hid hyy
        have HZS : Hid (z.size ≤ 10004 * 10002) := Lib.hid (by
          rw [← hzz, strL_size, ← hqq]
          have h1 := join_len (ks) (fun l hl => (HOK.out.2 l hl).2)
          have h2 : (ks).length * (s.size + 1) ≤ 10004 * 10002 := Nat.mul_le_mul HOK4.out (by omega)
          omega)
        have HP : Hid (∀ W : World, Calls Tryd.prog 64 #[.string z, .string ⟨#[47]⟩] W fun e w' => e = .returned (.bool y) ∧ W = w') := Lib.hid (fun W => by rw [← hzz]; exact hasSlash_at q HQB.out y hyy W)
        clear hqq hzz hyy
        go_wp2_with fail
        refine (joinS_at _ (w.heap.size + 1) _ ks.length _ (ks) rfl z HJ.out HL.out.own s.size (by omega) HOK.out.1 HOK.out.2).mono ?_
        rintro e w3 ⟨rfl, hb3⟩
        have BE3 : Hid (Below w.heap.size w w3) := Lib.hid (BE.out.trans (hb3.mono BE.out.size))
        clear hb3
        go_wp2_with fail
        refine (HP.out _).mono ?_
        rintro e w4 ⟨rfl, hw4⟩
        subst w4
        cases y with
        | true =>
          have HE : Hid (z = t) := Lib.hid (by rw [← HV2.out, if_pos (of_decide_eq_true HY.out), HZQ.out])
          go_wp2
          go_ret
          rw [HE.out]
          exact ⟨rfl, BE3.out⟩
        | false =>
          have A1 : ∀ wx : World, (Op.stringOp .add ⟨#[47]⟩ z).run Tryd.prog wx = .ok (.string t) wx := fun wx => by
            rw [run_string_add_sum wx _ _ (by have := HZS.out; have h1 : (⟨#[47]⟩ : ByteArray).size = 1 := rfl; omega), ← HV2.out, if_neg (of_decide_eq_false HY.out), ← HZQ.out]
            exact congrArg (fun v => Result.ok (Value.string v) wx) (strL_app [47] q).symm
          go_wp2
          go_ret
          exact ⟨rfl, BE3.out⟩
end Go.Proofs.YtcdodpkfhkfnkaaDoor
