/- The document's disk: Sync. -/
import Derived.Test.YtomeipjglnpciaaDkRdrop
namespace Go.Proofs.Ytomeipjglnpciaa
open Go Go.RowKit Go.Maps
set_option linter.unusedVariables false
set_option linter.unusedSimpArgs false
set_option maxRecDepth 10000

theorem two_set {α : Type} (f : α → List Value) (hf : ∀ x, (f x).length = 2) {l : List α} {i : Nat} {x y : α} (h : l[i]? = some x) {v : Value} (hy0 : (f y)[0]? = (f x)[0]?) (hy1 : (f y)[1]? = some v) : (l.set i y).flatMap f = (l.flatMap f).set (i * 2 + 1) v := by
  induction l generalizing i with
  | nil => simp at h
  | cons q t ih =>
    cases i with
    | zero =>
      obtain rfl : q = x := by simpa using h
      rw [List.set_cons_zero, List.flatMap_cons, List.flatMap_cons]
      have hq := hf q
      have hy := hf y
      match hfq : f q, hfy : f y with
      | [a, b], [c, d] =>
        rw [hfq, hfy] at hy0
        rw [hfy] at hy1
        have e1 : c = a := by simpa using hy0
        have e2 : d = v := by simpa using hy1
        rw [e1, e2]
        rfl
      | [], _ => rw [hfq] at hq; cases hq
      | [_], _ => rw [hfq] at hq; cases hq
      | _ :: _ :: _ :: _, _ => rw [hfq] at hq; simp at hq
      | [_, _], [] => rw [hfy] at hy; cases hy
      | [_, _], [_] => rw [hfy] at hy; cases hy
      | [_, _], _ :: _ :: _ :: _ => rw [hfy] at hy; simp at hy
    | succ j =>
      rw [List.set_cons_succ, List.flatMap_cons, List.flatMap_cons, ih (i := j) (by simpa using h), List.set_append_right _ _ (by rw [hf]; omega), hf, show (j + 1) * 2 + 1 - 2 = j * 2 + 1 by omega]
theorem sgC_set {V : VF} {R : Rgs} {i : Nat} {n : Int} {bs cs : Bys} (h : R[i]? = some (n, bs)) (hl : cs.length = bs.length) : sgC V (R.set i (n, cs)) = sgC V R := by
  unfold sgC
  have e2 : (R.flatMap (sgL V))[i * 2 + 1]? = some (.slice (V n).1 bs.length (V n).2) := (two_get (sgL V) (sgL_len V) h).2.trans rfl
  rw [two_set (sgL V) (sgL_len V) (y := (n, cs)) h (v := .slice (V n).1 bs.length (V n).2) rfl (by show some _ = some _; rw [hl])]
  refine List.ext_getElem? fun j => ?_
  rw [List.getElem?_set]
  split
  · rename_i hj
    subst hj
    rw [if_pos (List.getElem?_eq_some_iff.1 e2).1, e2]
  · rfl
section
variable {w : World} {B d sc : Nat} {sa : Option Addr} {R : Rgs} {V : VF} {most next first fails : Int}
theorem mem_set_of {R : Rgs} {i : Nat} {n : Int} {bs cs : Bys} (h : R[i]? = some (n, bs)) {m : Int} {ds : Bys} (hm : (m, ds) ∈ R.set i (n, cs)) : (m = n ∧ ds = cs) ∨ (m, ds) ∈ R := by
  rcases List.mem_or_eq_of_mem_set hm with h1 | h1
  · exact Or.inr h1
  · injection h1 with h1 h2
    exact Or.inl ⟨h1, h2⟩
/-- The mark of one byte is written. -/
theorem Rm.setby (h : Rm w B d sa sc R V most next first fails) {i : Nat} {n : Int} {bs : Bys} (hi : R[i]? = some (n, bs)) {j : Nat} {b : Int × Int} (hj : bs[j]? = some b) (v : Int) {g : Nat} (hg : (V n).1 = some ⟨g, 0, none⟩) :
    Rm (w.setCell ⟨g, j * 2 + 1, none⟩ (.int .i64 v)) B d sa sc (R.set i (n, bs.set j (b.1, v))) V most next first fails ∧ TurnR d sa R V w sa (R.set i (n, bs.set j (b.1, v))) V (w.setCell ⟨g, j * 2 + 1, none⟩ (.int .i64 v)) := by
  have hmem : (n, bs) ∈ R := List.mem_of_getElem? hi
  have hrow := h.rows n bs hmem
  have hrow2 := hrow
  rw [hg] at hrow2
  have hmine : ∀ k, MineR d sa (R.set i (n, bs.set j (b.1, v))) V k → MineR d sa R V k := fun k hk => by
    rcases hk with hk | hk | ⟨m, cs, hm, e⟩
    · exact Or.inl hk
    · exact Or.inr (Or.inl hk)
    · rcases mem_set_of hi hm with ⟨h1, h2⟩ | h1
      · exact Or.inr (Or.inr ⟨n, bs, hmem, by rw [← h1]; exact e⟩)
      · exact Or.inr (Or.inr ⟨m, cs, h1, e⟩)
  have uniq : ∀ m ds, (m, ds) ∈ R.set i (n, bs.set j (b.1, v)) → m = n → ds = bs.set j (b.1, v) := fun m ds hm e => by
    have hs : (R.set i (n, bs.set j (b.1, v))).Pairwise fun p q => p.1 < q.1 := by
      rw [List.pairwise_iff_getElem]
      intro x y hx hy hxy
      have hx' : x < R.length := by rw [List.length_set] at hx; exact hx
      have hy' : y < R.length := by rw [List.length_set] at hy; exact hy
      have h0 := (List.pairwise_iff_getElem.1 h.srt) x y hx' hy' hxy
      obtain ⟨hil, hie⟩ := List.getElem?_eq_some_iff.1 hi
      rw [List.getElem_set, List.getElem_set]
      split
      · rename_i e1
        subst e1
        rw [hie] at h0
        split
        · rename_i e2; omega
        · exact h0
      · split
        · rename_i e2
          subst e2
          rw [hie] at h0
          exact h0
        · exact h0
    obtain ⟨p, hp⟩ := List.mem_iff_getElem?.1 hm
    have hil := (List.getElem?_eq_some_iff.1 hi).1
    have hq : (R.set i (n, bs.set j (b.1, v)))[i]? = some (n, bs.set j (b.1, v)) := List.getElem?_set_self hil
    have hpl := (List.getElem?_eq_some_iff.1 hp).1
    have hql := (List.getElem?_eq_some_iff.1 hq).1
    have e1 := (List.getElem?_eq_some_iff.1 hp).2
    have e2 := (List.getElem?_eq_some_iff.1 hq).2
    rcases Nat.lt_trichotomy p i with hlt | heq | hgt
    · have := (List.pairwise_iff_getElem.1 hs) p i hpl hql hlt
      rw [e1, e2] at this
      dsimp only at this
      omega
    · subst heq
      rw [hp] at hq
      injection hq with hq
      injection hq with _ hq
    · have := (List.pairwise_iff_getElem.1 hs) i p hql hpl hgt
      rw [e1, e2] at this
      dsimp only at this
      omega
  refine ⟨⟨?_, ?_, fun m cs hm => ?_, fun m1 m2 c1 c2 hne h1 h2 => ?_, ?_, h.dB, h.mo, by rw [List.length_set]; exact h.cnt, h.fiB, h.faB, h.fi0, h.fa0⟩, ?_, fun k hk => Or.inl (hmine k hk)⟩
  · rw [List.length_set]
    exact h.box.other (fun e => own_not_box hrow2 h.box (by decide) e.symm) _
  · rw [List.length_set, sgC_set hi (by rw [List.length_set])]
    exact h.own.other (fun g' e1 e2 => by
      have e3 : g' = g := e2
      subst e3
      exact own_apart h.own hrow2 e1 rfl (by decide)) _
  · by_cases hmn : m = n
    · have hcs := uniq m cs hm hmn
      subst hmn hcs
      rw [List.length_set, hg]
      have e9 : byC (bs.set j (b.1, v)) = (byC bs).set (j * 2 + 1) (.int .i64 v) := two_set byL byL_len hj rfl rfl
      rw [e9]
      exact hrow2.set _ _
    · rcases mem_set_of hi hm with ⟨h1, _⟩ | h1
      · exact absurd h1 hmn
      · exact (h.rows m cs h1).other (fun g' e1 e2 => by
          have e3 : g' = g := e2
          subst e3
          exact h.ne n m bs cs (fun e => hmn e.symm) hmem h1 g' hg e1) _
  · intro g' e1 e2
    have a1 : ∃ c, (m1, c) ∈ R := by
      rcases mem_set_of hi h1 with ⟨x, _⟩ | x
      · exact ⟨bs, by rw [x]; exact hmem⟩
      · exact ⟨_, x⟩
    have a2 : ∃ c, (m2, c) ∈ R := by
      rcases mem_set_of hi h2 with ⟨x, _⟩ | x
      · exact ⟨bs, by rw [x]; exact hmem⟩
      · exact ⟨_, x⟩
    obtain ⟨x1, y1⟩ := a1
    obtain ⟨x2, y2⟩ := a2
    exact h.ne m1 m2 x1 x2 hne y1 y2 g' e1 e2
  · rw [List.pairwise_iff_getElem]
    intro x y hx hy hxy
    have hx' : x < R.length := by rw [List.length_set] at hx; exact hx
    have hy' : y < R.length := by rw [List.length_set] at hy; exact hy
    have h0 := (List.pairwise_iff_getElem.1 h.srt) x y hx' hy' hxy
    obtain ⟨hil, hie⟩ := List.getElem?_eq_some_iff.1 hi
    rw [List.getElem_set, List.getElem_set]
    split
    · rename_i e1
      subst e1
      rw [hie] at h0
      split
      · rename_i e2; omega
      · exact h0
    · split
      · rename_i e2
        subst e2
        rw [hie] at h0
        exact h0
      · exact h0
  · exact (Only.refl (MineR d sa R V) _).setCell (Or.inl (Or.inr (Or.inr ⟨n, bs, hmem, hg⟩))) _
def c1M (b : Int × Int) : Int × Int := (b.1, -1)
def clr (p : Int × Bys) : Int × Bys := (p.1, p.2.map c1M)
/-- So far is Sync: all of the first i segments, k bytes of the next. -/
def SyI (R R' : Rgs) (i k : Nat) : Prop := ∀ x, R'[x]? = (R[x]?).map fun p => if x < i then clr p else if x = i then (p.1, (p.2.take k).map c1M ++ p.2.drop k) else p
theorem SyI.zero (R : Rgs) : SyI R R 0 0 := fun x => by
  cases R[x]? with
  | none => rfl
  | some p =>
    rw [Option.map_some, if_neg (Nat.not_lt_zero x)]
    split
    · rfl
    · rfl
theorem SyI.len {R R' : Rgs} {i k : Nat} (h : SyI R R' i k) : R'.length = R.length := by
  apply Nat.le_antisymm
  · apply List.getElem?_eq_none_iff.1
    rw [h, List.getElem?_eq_none (Nat.le_refl _)]
    rfl
  · apply List.getElem?_eq_none_iff.1
    have := h R'.length
    rw [List.getElem?_eq_none (Nat.le_refl _)] at this
    cases hq : R[R'.length]? with
    | none => rfl
    | some p => rw [hq] at this; cases this
theorem take_set {bs : Bys} {k : Nat} {b : Int × Int} (hb : bs[k]? = some b) : ((bs.take k).map c1M ++ bs.drop k).set k (c1M b) = (bs.take (k + 1)).map c1M ++ bs.drop (k + 1) := by
  obtain ⟨hl, hv⟩ := List.getElem?_eq_some_iff.1 hb
  have hk : ((bs.take k).map c1M).length = k := by rw [List.length_map, List.length_take]; omega
  rw [List.set_append_right _ _ (by omega), hk, Nat.sub_self, List.take_add_one, hb, List.map_append, List.drop_eq_getElem_cons hl, List.set_cons_zero, List.append_assoc]
  rfl
theorem SyI.step {R R' : Rgs} {i k : Nat} {n : Int} {bs cs : Bys} {b : Int × Int} (h : SyI R R' i k) (hi : R[i]? = some (n, bs)) (hc : R'[i]? = some (n, cs)) (hb : bs[k]? = some b) : cs[k]? = some b ∧ SyI R (R'.set i (n, cs.set k (b.1, -1))) i (k + 1) := by
  have e1 := h i
  rw [hi, hc, Option.map_some, if_neg (Nat.lt_irrefl _), if_pos rfl] at e1
  injection e1 with e1
  injection e1 with _ e1
  dsimp only at e1
  obtain ⟨hl, hv⟩ := List.getElem?_eq_some_iff.1 hb
  have hk : ((bs.take k).map c1M).length = k := by rw [List.length_map, List.length_take]; omega
  refine ⟨by rw [e1, List.getElem?_append_right (by omega), hk, Nat.sub_self, List.getElem?_drop]; exact hb, fun x => ?_⟩
  rw [List.getElem?_set]
  have hil := (List.getElem?_eq_some_iff.1 hc).1
  split
  · rename_i hx
    subst hx
    rw [hi, Option.map_some, if_neg (Nat.lt_irrefl _), if_pos rfl, e1]
    exact congrArg some (Prod.ext rfl (take_set hb))
  · rename_i hx
    rw [h x]
    cases R[x]? with
    | none => rfl
    | some p =>
      rw [Option.map_some, Option.map_some, if_neg (fun e : x = i => hx e.symm), if_neg (fun e : x = i => hx e.symm)]
theorem SyI.nxt {R R' : Rgs} {i k : Nat} {n : Int} {bs : Bys} (h : SyI R R' i k) (hi : R[i]? = some (n, bs)) (hk : bs.length ≤ k) : SyI R R' (i + 1) 0 := fun x => by
  rw [h x]
  by_cases hx : x = i
  · subst hx
    rw [hi, Option.map_some, Option.map_some, if_neg (Nat.lt_irrefl _), if_pos rfl, if_pos (Nat.lt_succ_self _), List.take_of_length_le hk, List.drop_eq_nil_of_le hk, List.append_nil]
    rfl
  · cases R[x]? with
    | none => rfl
    | some p =>
      rw [Option.map_some, Option.map_some, if_neg hx]
      by_cases h1 : x < i
      · rw [if_pos h1, if_pos (by omega)]
      · rw [if_neg h1, if_neg (by omega)]
        split
        · rfl
        · rfl
theorem SyI.all {R R' : Rgs} {k i : Nat} (h : SyI R R' i k) (hi : R.length ≤ i) : R' = R.map clr := by
  refine List.ext_getElem? fun x => ?_
  rw [h x, List.getElem?_map]
  cases hq : R[x]? with
  | none => rfl
  | some p =>
    have := (List.getElem?_eq_some_iff.1 hq).1
    rw [Option.map_some, Option.map_some, if_pos (by omega)]
def SyRP (B d : Nat) (sa : Option Addr) (sc : Nat) (R : Rgs) (V : VF) (most next first fails : Int) (w : World) (e : Ending) (w' : World) : Prop :=
  (wfB first fails = true ∧ e = .returned (.int .i64 7) ∧ Rm w' B d sa sc R V most next (wfH first) (wfF first fails) ∧ TurnR d sa R V w sa R V w') ∨
  (wfB first fails = false ∧ e = .returned (.int .i64 0) ∧ Rm w' B d sa sc (R.map clr) V most next (wfH first) (wfF first fails) ∧ TurnR d sa R V w sa (R.map clr) V w')
set_option maxHeartbeats 4000000 in
theorem sync_ref (h : Rm w B d sa sc R V most next first fails) (hseg : ∀ n bs, (n, bs) ∈ R → bs.length ≤ 2048) :
    Calls Try.prog 9 #[.pointer (some ⟨d, 0, none⟩)] w (SyRP B d sa sc R V most next first fails w) := by
  have FL := Lib.hid (fails_ref h)
  obtain ⟨wb, hwb⟩ : ∃ x, wfB first fails = x := ⟨_, rfl⟩
  rw [hwb] at FL
  have WFB := Lib.hid hwb
  have HSEG := Lib.hid hseg
  have hcnt := h.cnt
  obtain ⟨K, hK⟩ : ∃ K, R.length = K := ⟨_, rfl⟩
  have HK := Lib.hid hK
  rw [hK] at hcnt
  clear hwb hseg h hK
  go_enter Try.func9, Try.ntmps9
  go_wp2_with fail
  refine FL.out.mono ?_
  rintro e w2 ⟨rfl, r2, t2⟩
  have R2 := Lib.hid r2
  have T2 := Lib.hid t2
  clear r2 t2 FL
  cases wb with
  | true =>
    have FIN : Hid (SyRP B d sa sc R V most next first fails w (.returned (.int .i64 7)) w2) := Lib.hid (Or.inl ⟨WFB.out, rfl, R2.out, T2.out⟩)
    go_wp2
    go_ret
    exact FIN.out
  | false =>
    obtain ⟨f1, hf1⟩ : ∃ x, wfH first = x := ⟨_, rfl⟩
    obtain ⟨f2, hf2⟩ : ∃ x, wfF first fails = x := ⟨_, rfl⟩
    rw [hf1, hf2] at R2
    have FIN : Hid (∀ R' w', SyI R R' K 0 → Rm w' B d sa sc R' V most next f1 f2 → TurnR d sa R V w sa R' V w' → SyRP B d sa sc R V most next first fails w (.returned (.int .i64 0)) w') := Lib.hid (fun R' w' h1 h2 h3 => by
      have e := h1.all (by rw [HK.out]; exact Nat.le_refl _)
      rw [e] at h2 h3
      rw [← hf1, ← hf2] at h2
      exact Or.inr ⟨WFB.out, rfl, h2, h3⟩)
    clear hf1 hf2 WFB
    go_wp2_with fail
    go_loopw [3] (fun vi wr => ∃ (i : Nat) (R' : Rgs), i ≤ K ∧ vi = .int .i64 (i : Int) ∧ Hid (SyI R R' i 0 ∧ Rm wr B d sa sc R' V most next f1 f2 ∧ TurnR d sa R V w sa R' V wr)) (fun vi _ => K - (vI vi).toNat)
    case atStart => exact ⟨0, R, by omega, rfl, Lib.hid ⟨SyI.zero R, R2.out, T2.out⟩⟩
    case round =>
      obtain ⟨i, R', hi, rfl, HI⟩ := hrel
      clear R2 T2
      have HL' : R'.length = K := HI.out.1.len.trans HK.out
      have c1 := HI.out.2.1.box.cell 1
      have ld := HI.out.2.1.box.lt
      rw [HL'] at c1
      by_cases hlt : i < K
      · have hid' : decide ((i : Int) < (K : Int)) = true := decide_eq_true (by omega)
        obtain ⟨p, hp⟩ : ∃ p, R[i]? = some p := ⟨_, List.getElem?_eq_getElem (by rw [HK.out]; exact hlt)⟩
        obtain ⟨n, bs⟩ := p
        have hb2 := HSEG.out n bs (List.mem_of_getElem? hp)
        have HP := Lib.hid hp
        obtain ⟨L, hL⟩ : ∃ L, bs.length = L := ⟨_, rfl⟩
        have HLL := Lib.hid hL
        rw [hL] at hb2
        have hgs : ∃ gs, sa = some ⟨gs, 0, none⟩ := by
          have h9 := HI.out.2.1.own.some_ (by omega)
          obtain ⟨g, e, _⟩ := h9
          exact ⟨g, e⟩
        obtain ⟨gs, rfl⟩ := hgs
        obtain ⟨A, hA⟩ : ∃ A, (V n).1 = A := ⟨_, rfl⟩
        obtain ⟨C, hC⟩ : ∃ C, (V n).2 = C := ⟨_, rfl⟩
        have HA := Lib.hid hA
        have CS : Hid (∀ R2 k W, SyI R R2 i k → Rm W B d (some ⟨gs, 0, none⟩) sc R2 V most next f1 f2 → ∃ cs, R2[i]? = some (n, cs) ∧ cs.length = L ∧ W.cell? ⟨gs, i * 2 + 1, none⟩ = some (.slice A L C) ∧ W.cell? ⟨d, 1, none⟩ = some (.slice (some ⟨gs, 0, none⟩) K sc) ∧ d < W.heap.size) := Lib.hid (fun R2 k W h1 h2 => by
          have e1 := h1 i
          rw [HP.out, Option.map_some, if_neg (Nat.lt_irrefl _), if_pos rfl] at e1
          have e2 : ((bs.take k).map c1M ++ bs.drop k).length = L := by rw [List.length_append, List.length_map, List.length_take, List.length_drop, ← HLL.out]; omega
          refine ⟨_, e1, e2, ?_, ?_, h2.box.lt⟩
          · have e3 := h2.own.cell ((two_get (sgL V) (sgL_len V) e1).2.trans rfl)
            rw [e3, ← hA, ← hC, ← e2]
          · have e4 := h2.box.cell 1
            rw [h1.len, HK.out] at e4
            exact e4)
        have hi0 : (0 : Int) ≤ (i : Int) := by omega
        have hi1 : (i : Int) < (K : Int) := by omega
        have HN : Hid (∀ R2 k, L ≤ k → SyI R R2 i k → SyI R R2 (i + 1) 0) := Lib.hid (fun R2 k hk h1 => h1.nxt HP.out (by rw [HLL.out]; exact hk))
        clear hp hL hA hC
        go_wp2_with fail
        go_loopw [4] (fun vk wr => ∃ (k : Nat) (R' : Rgs), k ≤ L ∧ vk = .int .i64 (k : Int) ∧ Hid (SyI R R' i k ∧ Rm wr B d (some ⟨gs, 0, none⟩) sc R' V most next f1 f2 ∧ TurnR d (some ⟨gs, 0, none⟩) R V w (some ⟨gs, 0, none⟩) R' V wr)) (fun vk _ => L - (vI vk).toNat)
        case atStart => exact ⟨0, R', by omega, rfl, HI⟩
        case round =>
          obtain ⟨k, R2, hk, rfl, HJ⟩ := hrel
          clear HI HL' c1 ld R'
          obtain ⟨wl, rfl⟩ : ∃ W, W = wr := ⟨_, rfl⟩
          obtain ⟨cs, q1, q2, q3, q4, ld⟩ := CS.out R2 k wl HJ.out.1 HJ.out.2.1
          by_cases hkl : k < L
          · have hkd : decide ((k : Int) < (L : Int)) = true := decide_eq_true (by omega)
            obtain ⟨b, hb⟩ : ∃ b, bs[k]? = some b := ⟨_, List.getElem?_eq_getElem (by rw [HLL.out]; exact hkl)⟩
            obtain ⟨s1, s2⟩ := HJ.out.1.step HP.out q1 hb
            have rw1 := HJ.out.2.1.rows n cs (List.mem_of_getElem? q1)
            have hgb : ∃ g, A = some ⟨g, 0, none⟩ := by
              obtain ⟨g, e, _⟩ := rw1.some_ (by omega)
              rw [HA.out] at e
              exact ⟨g, e⟩
            obtain ⟨gb, rfl⟩ := hgb
            have ST := Lib.hid (HJ.out.2.1.setby q1 s1 (-1) HA.out)
            rw [HA.out] at rw1
            have b1 := rw1.cell ((two_get byL byL_len s1).2.trans rfl)
            have fb : wl.frozen? ⟨gb, k * 2 + 1, none⟩ = false := rw1.free _
            have NX : Hid (SyI R (R2.set i (n, cs.set k (b.1, -1))) i (k + 1) ∧ Rm (wl.setCell ⟨gb, k * 2 + 1, none⟩ (.int .i64 (-1))) B d (some ⟨gs, 0, none⟩) sc (R2.set i (n, cs.set k (b.1, -1))) V most next f1 f2 ∧ TurnR d (some ⟨gs, 0, none⟩) R V w (some ⟨gs, 0, none⟩) (R2.set i (n, cs.set k (b.1, -1))) V (wl.setCell ⟨gb, k * 2 + 1, none⟩ (.int .i64 (-1)))) := Lib.hid ⟨s2, ST.out.1, HJ.out.2.2.trans ST.out.2⟩
            have hk0 : (0 : Int) ≤ (k : Int) := by omega
            have hk1 : (k : Int) < (L : Int) := by omega
            clear hb s1 s2 rw1 ST HJ q1 q2 CS HSEG FIN
            go_wp2
            go_roundw
            case rel => exact ⟨k + 1, _, by omega, by go_num, NX⟩
            case measure => exact cra_ms L k hkl
          · have hkd : decide ((k : Int) < (L : Int)) = false := decide_eq_false (by omega)
            have NX : Hid (SyI R R2 (i + 1) 0 ∧ Rm wl B d (some ⟨gs, 0, none⟩) sc R2 V most next f1 f2 ∧ TurnR d (some ⟨gs, 0, none⟩) R V w (some ⟨gs, 0, none⟩) R2 V wl) := Lib.hid ⟨HN.out R2 k (by omega) HJ.out.1, HJ.out.2⟩
            clear HJ q1 q2 CS
            go_wp2
            go_roundw
            case rel => exact ⟨i + 1, R2, by omega, by go_num, NX⟩
            case measure => exact cra_ms K i hlt
      · have hid' : decide ((i : Int) < (K : Int)) = false := decide_eq_false (by omega)
        obtain rfl : i = K := by omega
        obtain ⟨wl, rfl⟩ : ∃ W, W = wr := ⟨_, rfl⟩
        have FF := Lib.hid (FIN.out R' wl HI.out.1 HI.out.2.1 HI.out.2.2)
        clear HI FIN
        go_wp2
        go_ret
        exact FF.out
end
end Go.Proofs.Ytomeipjglnpciaa
