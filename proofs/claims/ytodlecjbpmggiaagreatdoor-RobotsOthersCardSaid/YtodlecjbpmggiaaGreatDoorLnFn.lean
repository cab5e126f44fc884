/- Package lines: cuts and trims of the library; what a line says. -/
import Derived.Test.YtodlecjbpmggiaaGreatDoorLnMath
import Derived.Test.YtodlecjbpmggiaaGreatDoorShelfL
import Derived.Test.YtodlecjbpmggiaaGreatDoorUrLower
import Derived.WalkMore
import Derived.BigQuiet
import Derived.Deep.QuietTactic
import Derived.Deep.Cut
import Derived.Deep.CutRange
namespace Go.Proofs.YtodlecjbpmggiaaGreatDoor
open Go.RowKit
set_option linter.unusedVariables false
set_option linter.unusedSimpArgs false
set_option maxRecDepth 10000

/-- Nothing is asked of the world's tables. -/
def TabL (_ : World) : Prop := True
theorem TabL.later {w w' : World} (h : TabL w) (hb : Below w.heap.size w w') : TabL w' := h
theorem ln_drewN {B : Nat} {a w : World} (h : Below B a w) (n : Nat) : Below B a (w.drewN n) := ⟨h.os, h.tape, h.output, h.size, h.block⟩
theorem ln_mk (l : List UInt8) : (⟨l.toArray⟩ : ByteArray) = strL (l.map fun u => (u.toNat : Int)) := (strL_btL ⟨l.toArray⟩).symm
theorem rdw_mem : ∀ (l : List Int) (c : Int), c ∈ rdw l → c ∈ l
  | [], c, h => h
  | x :: t, c, h => by
    unfold rdw at h
    split at h
    · cases h
    · rcases List.mem_cons.1 h with rfl | h
      · exact List.mem_cons_self
      · exact List.mem_cons_of_mem _ (rdw_mem t c h)
theorem trL_mem {l : List Int} {c : Int} (h : c ∈ trL l) : c ∈ l := rdw_mem l c ((List.dropWhile_sublist _).subset h)
theorem Byts.tr {l : List Int} (h : Byts l) : Byts (trL l) := fun c hc => h c (trL_mem hc)
theorem rdw_len : ∀ l : List Int, (rdw l).length ≤ l.length
  | [] => Nat.le_refl _
  | x :: t => by
    have := rdw_len t
    unfold rdw
    split
    · simp
    · simp; omega
theorem trL_len (l : List Int) : (trL l).length ≤ l.length := Nat.le_trans (List.dropWhile_sublist _).length_le (rdw_len l)
theorem lib_index (l : List UInt8) (c : UInt8) : Lib.indexByte l c = if fi (c.toNat : Int) (l.map fun u => (u.toNat : Int)) < l.length then (fi (c.toNat : Int) (l.map fun u => (u.toNat : Int)) : Int) else -1 := by
  rw [← Lib.index_one, fi_index]
/-- strings.Cut at one sign. -/
theorem scut_at (s : ByteArray) (u : UInt8) (k : Nat) (hk : fi (u.toNat : Int) (btL s) = k) (hs : s.size ≤ 1000000000000000) (w : World) :
    Calls Tryz.prog 56 #[.string s, .string ⟨#[u]⟩] w fun e w' => e = .returned (.tuple #[.string (strL ((btL s).take k)), .string (strL ((btL s).drop (k + 1))), .bool (decide (k < s.size))]) ∧ Below w.heap.size w w' := by
  have hi := Any.stringslite_Index_one Tryz.lays219 s u w
  have hl := btL_length s
  have hle := fi_le (u.toNat : Int) (btL s)
  have hz : Lib.indexByte s.data.toList u = if k < s.size then (k : Int) else -1 := by
    rw [lib_index]
    show (if fi (u.toNat : Int) (btL s) < s.data.toList.length then (fi (u.toNat : Int) (btL s) : Int) else -1) = _
    rw [hk, ← Lib.size_eq]
  rw [hk] at hle
  have h1 : s.size = (btL s).length := hl.symm
  by_cases hlt : k < s.size
  · rw [if_pos hlt] at hz
    rw [hz] at hi
    have H1 : Hid (s.extract 0 k = strL ((btL s).take k)) := Lib.hid (by rw [← strL_btL (s.extract 0 k), ln_extract, List.drop_zero, Nat.sub_zero])
    have H2 : Hid (s.extract (k + 1) s.size = strL ((btL s).drop (k + 1))) := Lib.hid (by rw [← strL_btL (s.extract (k + 1) s.size), ln_extract, List.take_of_length_le (by rw [List.length_drop]; omega)])
    have HI := Lib.hid hi
    have d1 : decide ((0 : Int) ≤ (k : Int)) = true := decide_eq_true (by omega)
    have e1 : (⟨#[u]⟩ : ByteArray).size = 1 := rfl
    clear hi hz hl hle h1 hk
    go_enter Tryz.func56, Tryz.ntmps56
    go_wp2_with fail
    refine HI.out.mono ?_
    rintro e wx ⟨rfl, hw⟩
    subst wx
    go_upto_region 3 with fail
    go_quiet (fail)
    go_wp2
    exact bodyPost_ret (v := .tuple #[.string (s.extract 0 k), .string (s.extract (k + 1) s.size), .bool true]) (by simp [results, Tryz.results56, go_sem]) rfl ⟨by rw [H1.out, H2.out, decide_eq_true hlt], ln_drewN (Below.refl _ _) _⟩
  · rw [if_neg hlt] at hz
    rw [hz] at hi
    have H1 : Hid (s = strL ((btL s).take k)) := Lib.hid (by rw [List.take_of_length_le (by omega), strL_btL])
    have H2 : Hid ((⟨#[]⟩ : ByteArray) = strL ((btL s).drop (k + 1))) := Lib.hid (by rw [List.drop_eq_nil_of_le (by omega)]; rfl)
    have HI := Lib.hid hi
    clear hi hz hl hle h1 hk
    go_enter Tryz.func56, Tryz.ntmps56
    go_wp2_with fail
    refine HI.out.mono ?_
    rintro e wx ⟨rfl, hw⟩
    subst wx
    go_wp2
    exact bodyPost_ret (v := .tuple #[.string s, .string ⟨#[]⟩, .bool false]) (by simp [results, Tryz.results56, go_sem]) rfl ⟨by rw [← H1.out, ← H2.out, decide_eq_false hlt], Below.refl _ _⟩
theorem lcut_at (s : ByteArray) (u : UInt8) (c : Int) (hc : (u.toNat : Int) = c) (hs : s.size ≤ 1000000000000000) (w : World) (hT : TabL w) :
    Calls Tryz.prog 42 #[.string s, .string ⟨#[u]⟩] w fun e w' => e = .returned (.tuple #[.string (strL ((btL s).take (fi c (btL s)))), .string (strL ((btL s).drop (fi c (btL s) + 1))), .bool (decide (fi c (btL s) < (btL s).length))]) ∧ Below w.heap.size w w' := by
  subst hc
  have H := Lib.hid (scut_at s u _ rfl hs w)
  rw [btL_length]
  obtain ⟨a, ha⟩ : ∃ a, strL ((btL s).take (fi (u.toNat : Int) (btL s))) = a := ⟨_, rfl⟩
  obtain ⟨b, hb⟩ : ∃ a, strL ((btL s).drop (fi (u.toNat : Int) (btL s) + 1)) = a := ⟨_, rfl⟩
  obtain ⟨d, hd⟩ : ∃ a, decide (fi (u.toNat : Int) (btL s) < s.size) = a := ⟨_, rfl⟩
  rw [ha, hb, hd] at H ⊢
  clear ha hb hd
  go_enter Tryz.func42, Tryz.ntmps42
  go_wp2_with fail
  refine H.out.mono ?_
  rintro e w' ⟨rfl, hb⟩
  go_wp2
  exact bodyPost_ret (v := .tuple #[.string a, .string b, .bool d]) (by simp [results, Tryz.results42, go_sem]) rfl ⟨rfl, hb⟩
theorem ltrim_at (s : ByteArray) (hs : s.size ≤ 1000000000000000) (w : World) :
    Calls Tryz.prog 43 #[.string s, .string ⟨#[32, 9]⟩] w fun e w' => e = .returned (.string (strL (trL (btL s)))) ∧ Below w.heap.size w w' := by
  refine (Any.strings_Trim_laid Tryz.lays160 (by kernel_rfl) s ⟨#[32, 9]⟩ w (by omega) (by decide) (ascii_of_all (by decide))).mono ?_
  rintro e w' ⟨rfl, hb⟩
  refine ⟨?_, hb⟩
  rw [← trimS_L, strL_btL]
/-- A line as the program holds it. -/
def sayV : Option (List Int × List Int) → Value
  | some x => .agg #[.string (strL x.1), .string (strL x.2)]
  | none => .agg #[.string ⟨#[]⟩, .string ⟨#[]⟩]
def SayP (o : Option (List Int × List Int)) (w : World) (e : Ending) (w' : World) : Prop := e = .returned (.tuple #[sayV o, .bool o.isSome]) ∧ Below w.heap.size w w'
theorem ln_box {w : World} {cs : Array Value} {t : TypeId} {b : Nat} (h : b = w.heap.size) : Box (w.alloc (.cells cs t)) b cs t := by subst h; exact Box.new w cs t
set_option maxHeartbeats 2000000 in
theorem significant_at (s : ByteArray) (hs : s.size ≤ 1000000000000000) (o : Option (List Int × List Int)) (ho : sayL (btL s) = o) (w : World) (hT : TabL w) :
    Calls Tryz.prog 26 #[.string s] w (SayP o w) := by
  have HT := Lib.hid hT
  have hl := btL_length s
  have hb0 := btL_byts s
  have C1 := Lib.hid (fun (W : World) (hW : TabL W) => lcut_at s 35 35 rfl hs W hW)
  obtain ⟨T, hTT⟩ : ∃ T, (btL s).take (fi 35 (btL s)) = T := ⟨_, rfl⟩
  have bT : Byts T := by rw [← hTT]; exact hb0.take _
  have lT : T.length ≤ 1000000000000000 := by rw [← hTT, List.length_take, hl]; omega
  unfold sayL at ho
  rw [hTT] at C1 ho
  obtain ⟨t1, ht1⟩ : ∃ t, strL T = t := ⟨_, rfl⟩
  have b1 : btL t1 = T := by rw [← ht1, btL_strL bT]
  have z1 : t1.size ≤ 1000000000000000 := by rw [← ht1, strL_size]; exact lT
  rw [ht1] at C1
  have C2 := Lib.hid (fun (W : World) (hW : TabL W) => lcut_at t1 58 58 rfl z1 W hW)
  rw [b1] at C2
  obtain ⟨f, hf⟩ : ∃ f, decide (fi 58 T < T.length) = f := ⟨_, rfl⟩
  obtain ⟨K0, hK0⟩ : ∃ K, T.take (fi 58 T) = K := ⟨_, rfl⟩
  obtain ⟨V0, hV0⟩ : ∃ V, T.drop (fi 58 T + 1) = V := ⟨_, rfl⟩
  have bK : Byts K0 := by rw [← hK0]; exact bT.take _
  have bV : Byts V0 := by rw [← hV0]; exact bT.drop _
  have lK : K0.length ≤ 1000000000000000 := by rw [← hK0, List.length_take]; omega
  have lV : V0.length ≤ 1000000000000000 := by rw [← hV0, List.length_drop]; omega
  rw [hf, hK0, hV0] at C2
  rw [hK0, hV0] at ho
  obtain ⟨k1, hk1⟩ : ∃ t, strL K0 = t := ⟨_, rfl⟩
  obtain ⟨v1, hv1⟩ : ∃ t, strL V0 = t := ⟨_, rfl⟩
  have bk1 : btL k1 = K0 := by rw [← hk1, btL_strL bK]
  have bv1 : btL v1 = V0 := by rw [← hv1, btL_strL bV]
  rw [hk1, hv1] at C2
  have T1 := Lib.hid (fun W : World => ltrim_at k1 (by rw [← hk1, strL_size]; exact lK) W)
  have T2 := Lib.hid (fun W : World => ltrim_at v1 (by rw [← hv1, strL_size]; exact lV) W)
  rw [bk1] at T1
  rw [bv1] at T2
  obtain ⟨K, hK⟩ : ∃ K, trL K0 = K := ⟨_, rfl⟩
  obtain ⟨V, hV⟩ : ∃ V, trL V0 = V := ⟨_, rfl⟩
  have bKK : Byts K := by rw [← hK]; exact bK.tr
  have lKK : K.length ≤ 1000000000000000 := by rw [← hK]; have := trL_len K0; omega
  rw [hK] at T1 ho
  rw [hV] at T2 ho
  obtain ⟨k2, hk2⟩ : ∃ t, strL K = t := ⟨_, rfl⟩
  obtain ⟨v2, hv2⟩ : ∃ t, strL V = t := ⟨_, rfl⟩
  have bk2 : btL k2 = K := by rw [← hk2, btL_strL bKK]
  rw [hk2] at T1
  rw [hv2] at T2
  obtain ⟨k3, hk3⟩ : ∃ t, strL (K.map lwI) = t := ⟨_, rfl⟩
  have LW := Lib.hid (fun W : World => lower_at k2 k3 (by unfold lowB; rw [bk2]; exact hk3) (by rw [← hk2, strL_size]; exact lKK) W)
  obtain ⟨em, hem⟩ : ∃ b, k2.toList.isEmpty = b := ⟨_, rfl⟩
  have hem2 : em = decide (K = []) := by
    rw [← hem, ← bk2, Lib.toList_data]
    unfold btL
    cases k2.data.toList with
    | nil => rfl
    | cons x t => rfl
  have HO : Hid (o = if f = true then (if em = true then none else some (K.map lwI, V)) else none) := Lib.hid (by
    rw [← ho, ← hf, hem2]
    by_cases h1 : fi 58 T < T.length
    · by_cases h2 : K = []
      · simp [h1, h2]
      · simp [h1, h2]
    · simp [h1])
  have HV : Hid (sayV (some (K.map lwI, V)) = .agg #[.string k3, .string v2]) := Lib.hid (by rw [← hk3, ← hv2]; rfl)
  obtain ⟨g, hg⟩ : ∃ g, w.heap.size = g := ⟨_, rfl⟩
  clear hT hl hb0 hTT bT lT ho ht1 b1 z1 hf hK0 hV0 bK bV lK lV hk1 hv1 bk1 bv1 hK hV bKK lKK hk2 hv2 bk2 hk3 hem2
  go_enter Tryz.func26, Tryz.ntmps26
  go_wp2_with fail
  refine calls_forget (fun wx => Hid (Box wx g #[.string ⟨#[]⟩, .string ⟨#[]⟩] 35) ∧ Hid (TabL wx) ∧ Hid (Below w.heap.size w wx)) ⟨Lib.hid (ln_box hg.symm), Lib.hid (HT.out.later ((Below.refl _ _).alloc (Nat.le_refl _) _)), Lib.hid ((Below.refl _ _).alloc (Nat.le_refl _) _)⟩ ?_
  have HG : Hid (w.heap.size ≤ g) := Lib.hid (Nat.le_of_eq hg)
  clear hg
  rintro w1 ⟨X1, T1w, B1⟩
  refine (C1.out _ T1w.out).mono ?_
  rintro e w2 ⟨rfl, hb⟩
  have X2 := Lib.hid (X1.out.later hb)
  have T2w := Lib.hid (T1w.out.later hb)
  have B2 := Lib.hid (B1.out.trans (hb.mono B1.out.size))
  clear hb X1 T1w B1
  go_wp2_with fail
  refine (C2.out _ T2w.out).mono ?_
  rintro e w3 ⟨rfl, hb⟩
  have X3 := Lib.hid (X2.out.later hb)
  have B3 := Lib.hid (B2.out.trans (hb.mono B2.out.size))
  clear hb X2 T2w B2
  go_wp2_with fail
  refine (T1.out _).mono ?_
  rintro e w4 ⟨rfl, hb⟩
  have X4 := Lib.hid (X3.out.later hb)
  have B4 := Lib.hid (B3.out.trans (hb.mono B3.out.size))
  clear hb X3 B3
  have gl := X4.out.lt
  have f0 := X4.out.free 0
  have f1 := X4.out.free 1
  have z0 := X4.out.cell 0
  have z1 := X4.out.cell 1
  simp only [List.getElem?_toArray, List.getElem?_cons_zero, List.getElem?_cons_succ] at z0 z1
  by_cases hh : f = true ∧ em = false
  · obtain ⟨rfl, rfl⟩ := hh
    have HE : Hid (o = some (K.map lwI, V)) := Lib.hid (by rw [HO.out]; simp)
    clear HO
    go_wp2_with fail
    refine (LW.out _).mono ?_
    rintro e w5 ⟨rfl, hb⟩
    have X5 := Lib.hid (X4.out.later hb)
    have B5 := Lib.hid (B4.out.trans (hb.mono B4.out.size))
    clear hb X4 B4 gl f0 f1 z0 z1
    go_wp2_with fail
    refine (T2.out _).mono ?_
    rintro e w6 ⟨rfl, hb⟩
    have X6 := Lib.hid (X5.out.later hb)
    have B6 := Lib.hid (B5.out.trans (hb.mono B5.out.size))
    clear hb X5 B5
    have gl := X6.out.lt
    have f0 := X6.out.free 0
    have f1 := X6.out.free 1
    have z0 := X6.out.cell 0
    have z1 := X6.out.cell 1
    simp only [List.getElem?_toArray, List.getElem?_cons_zero, List.getElem?_cons_succ] at z0 z1
    go_wp2
    exact bodyPost_ret (v := .tuple #[.agg #[.string k3, .string v2], .bool true]) (by simp [results, Tryz.results26, go_sem, z0, z1, f0, f1, gl]) rfl ⟨by rw [HE.out, HV.out]; rfl, (B6.out.setCell (p := ⟨g, 0, none⟩) HG.out _).setCell (p := ⟨g, 1, none⟩) HG.out _⟩
  · have HE : Hid (o = none) := Lib.hid (by
      rw [HO.out]
      cases f <;> cases em <;> simp_all)
    clear HO
    have hp : (if f = true then em else true) = true := by cases f <;> cases em <;> simp_all
    cases f with
    | false =>
      go_wp2
      exact bodyPost_ret (v := .tuple #[.agg #[.string ⟨#[]⟩, .string ⟨#[]⟩], .bool false]) (by simp [results, Tryz.results26, go_sem, z0, z1, f0, f1, gl]) rfl ⟨by rw [HE.out]; rfl, (B4.out.setCell (p := ⟨g, 0, none⟩) HG.out _).setCell (p := ⟨g, 1, none⟩) HG.out _⟩
    | true =>
      have hp2 : em = true := by simpa using hp
      subst hp2
      clear hp hh
      go_wp2
      exact bodyPost_ret (v := .tuple #[.agg #[.string ⟨#[]⟩, .string ⟨#[]⟩], .bool false]) (by simp [results, Tryz.results26, go_sem, z0, z1, f0, f1, gl]) rfl ⟨by rw [HE.out]; rfl, (B4.out.setCell (p := ⟨g, 0, none⟩) HG.out _).setCell (p := ⟨g, 1, none⟩) HG.out _⟩
end Go.Proofs.YtodlecjbpmggiaaGreatDoor
