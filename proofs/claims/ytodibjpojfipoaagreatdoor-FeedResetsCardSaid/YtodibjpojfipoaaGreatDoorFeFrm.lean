/- Package feed: Reset, From. -/
import Derived.Test.YtodibjpojfipoaaGreatDoorFdPrs
import Derived.Test.YtodibjpojfipoaaGreatDoorFePa
import Derived.Test.YtodibjpojfipoaaGreatDoorFeRet
/- Package feed: limit. -/
namespace Go.Proofs.YtodibjpojfipoaaGreatDoor
open Go Go.RowKit
set_option linter.unusedVariables false
set_option linter.unusedSimpArgs false
set_option maxRecDepth 10000

theorem flat_get {α : Type} (f : α → List Value) (c : Nat) (hf : ∀ x, (f x).length = c) : ∀ (L : List α) (i : Nat) (x : α), L[i]? = some x → ∀ (j : Nat) (v : Value), (f x)[j]? = some v → (L.flatMap f)[i * c + j]? = some v
  | [], i, x, h, j, v, hv => by simp at h
  | y :: L, 0, x, h, j, v, hv => by
    have e : y = x := by simpa using h
    subst e
    have hj := (List.getElem?_eq_some_iff.1 hv).1
    rw [List.flatMap_cons, Nat.zero_mul, Nat.zero_add, List.getElem?_append_left hj]
    exact hv
  | y :: L, i + 1, x, h, j, v, hv => by
    rw [List.getElem?_cons_succ] at h
    have := flat_get f c hf L i x h j v hv
    rw [List.flatMap_cons, List.getElem?_append_right (by rw [hf, Nat.succ_mul]; omega), hf]
    have e : (i + 1) * c + j - c = i * c + j := by rw [Nat.succ_mul]; omega
    rw [e]
    exact this
theorem ixAt_of {w : World} {B n cap g : Nat} {a : Option Addr} {L : List IX} (h : ItsM w B a n cap L) (ha : a = some ⟨g, 0, none⟩) : IxAt w g 0 L := by
  subst ha
  refine ⟨h.own.lt.2, fun i x hx j v hv => ?_⟩
  rw [Nat.zero_add]
  exact h.own.cell (flat_get ixL 5 (fun _ => rfl) L i x hx j v hv)
theorem pbAt_of {w : World} {B n cap g : Nat} {a : Option Addr} {ps : List PB} (h : Own w B 110 4 a n cap (pbV ps)) (ha : a = some ⟨g, 0, none⟩) : PbAt w g 0 ps := by
  subst ha
  refine ⟨h.lt.2, fun i x hx j v hv => ?_⟩
  rw [Nat.zero_add]
  exact h.cell (flat_get pbL 4 (fun _ => rfl) ps i x hx j v hv)
/-! ### What is told, over lists -/
def numV (v : FVal) : Int × Bool := (if v.kind = 1 then v.n else 0, decide (v.kind = 1))
def revF (k : List Int) : List FPar → Int × Bool
  | [] => (0, false)
  | p :: r => if p.1 = k then numV p.2 else revF k r
def lastF (k : List Int) (l : List FPar) : Int × Bool := revF k l.reverse
def kvF (x : FItem) : FPar := (x.key, x.v)
theorem npI_rev (k : ByteArray) (hs : List PB) : ∀ n, n ≤ hs.length → npI k (bkL hs n) = revF (btL k) (((hs.take n).map PB.f).reverse)
  | 0, _ => by simp [bkL, npI, revF]
  | n + 1, h => by
    obtain ⟨x, hx⟩ : ∃ x, hs[n]? = some x := ⟨_, List.getElem?_eq_getElem (by omega)⟩
    have e : hs.take (n + 1) = hs.take n ++ [x] := by rw [List.take_add_one, hx]; rfl
    rw [bkL_succ hx, e, List.map_append, List.reverse_append]
    show npI k ((n, x) :: bkL hs n) = revF (btL k) (PB.f x :: ((hs.take n).map PB.f).reverse)
    unfold npI revF
    by_cases hk : x.key = k
    · rw [if_pos hk, if_pos (show (PB.f x).1 = btL k by rw [← hk]; rfl)]
      rfl
    · rw [if_neg hk, if_neg (show ¬ (PB.f x).1 = btL k from fun h => hk (btL_inj h)), npI_rev k hs n (by omega)]
theorem nbI_rev (k : ByteArray) (hs : List IX) : ∀ n, n ≤ hs.length → nbI k (bkL hs n) = revF (btL k) (((hs.take n).map fun x => kvF x.f).reverse)
  | 0, _ => by simp [bkL, nbI, revF]
  | n + 1, h => by
    obtain ⟨x, hx⟩ : ∃ x, hs[n]? = some x := ⟨_, List.getElem?_eq_getElem (by omega)⟩
    have e : hs.take (n + 1) = hs.take n ++ [x] := by rw [List.take_add_one, hx]; rfl
    rw [bkL_succ hx, e, List.map_append, List.reverse_append]
    show nbI k ((n, x) :: bkL hs n) = revF (btL k) (kvF (IX.f x) :: ((hs.take n).map fun x => kvF x.f).reverse)
    unfold nbI revF
    by_cases hk : x.k.key = k
    · rw [if_pos hk, if_pos (show (kvF (IX.f x)).1 = btL k by rw [← hk]; rfl)]
      rfl
    · rw [if_neg hk, if_neg (show ¬ (kvF (IX.f x)).1 = btL k from fun h => hk (btL_inj h)), nbI_rev k hs n (by omega)]
theorem npI_last (k : ByteArray) (hs : List PB) : npI k (bkL hs hs.length) = lastF (btL k) (hs.map PB.f) := by
  rw [npI_rev k hs _ (Nat.le_refl _), List.take_length]
  rfl
theorem nbI_last (k : ByteArray) (hs : List IX) : nbI k (bkL hs hs.length) = lastF (btL k) ((hs.map IX.f).map kvF) := by
  rw [nbI_rev k hs _ (Nat.le_refl _), List.take_length, List.map_map]
  rfl
def lpG : Int × Bool → List FItem → Int × Bool
  | z, [] => z
  | z, x :: r => lpG (if (lastF [114] x.ps).2 = true ∧ (lastF [116] x.ps).2 = true ∧ (lastF [114] x.ps).1 ≤ 0 ∧ 0 ≤ (lastF [116] x.ps).1 then (max z.1 (lastF [116] x.ps).1, true) else z) r
def remK : List Int := [114, 101, 109, 97, 105, 110, 105, 110, 103]
def resK : List Int := [114, 101, 115, 101, 116]
def limG (l : List FItem) : Int × Bool :=
  if (lastF remK (l.map kvF)).2 = true ∧ (lastF resK (l.map kvF)).2 = true ∧ (lastF remK (l.map kvF)).1 ≤ 0 then ((lastF resK (l.map kvF)).1, true) else lpG (0, false) l
def limT (l : List Int) : Int × Bool := limG ((parseF l).getD [])
theorem parsF_cnt : ∀ (f : Nat) (l : List Int) (ps : List FPar) (r : List Int), parsF f l = some (ps, r) → ps.length + r.length ≤ l.length := by
  intro f
  induction f with
  | zero => intro l ps r h; cases h
  | succ f ih =>
    intro l ps r h
    cases hc : cutS [59] l with
    | none =>
      rw [parsF_end _ _ hc] at h
      injection h with h
      injection h with h1 h2
      rw [← h1, h2]
      simp
    | some t =>
      rw [parsF_step _ _ _ hc] at h
      have h3 := congrArg List.length (cutS_some hc)
      simp at h3
      have h2 := dw_len sp1 t
      cases hp : pairF (t.dropWhile sp1) with
      | none => rw [hp] at h; cases h
      | some pr =>
        obtain ⟨p, r'⟩ := pr
        rw [hp] at h
        dsimp only at h
        have h1 := pairF_len hp
        cases hg : parsF f r' with
        | none => rw [hg] at h; cases h
        | some q =>
          rw [hg, Option.map_some] at h
          injection h with h
          injection h with h4 h5
          have := ih r' q.1 q.2 hg
          rw [← h4, ← h5, List.length_cons]
          omega
theorem itemF_cnt {l r : List Int} {i : FItem} (h : itemF l = some (i, r)) : i.ps.length ≤ l.length := by
  unfold itemF at h
  cases hh : headF l with
  | none => rw [hh] at h; cases h
  | some p =>
    obtain ⟨kv, t⟩ := p
    rw [hh] at h
    dsimp only at h
    have h1 := headF_len hh
    cases hg : parsF (t.length + 1) t with
    | none => rw [hg] at h; cases h
    | some q =>
      rw [hg, Option.map_some] at h
      injection h with h
      injection h with h4 h5
      have := parsF_cnt _ t q.1 q.2 hg
      rw [← h4]
      show q.1.length ≤ _
      omega
theorem collF_cnt : ∀ (f n : Nat) (l : List Int) (is : List FItem), collF f n l = some is → ∀ x ∈ is, x.ps.length ≤ l.length := by
  intro f
  induction f with
  | zero => intro n l is h; cases h
  | succ f ih =>
    intro n l is h x hx
    unfold collF at h
    cases hi : itemF l with
    | none => rw [hi] at h; cases h
    | some p =>
      obtain ⟨i, r⟩ := p
      have h1 := itemF_cnt hi
      have h2 := itemF_len hi
      rw [hi] at h
      dsimp only at h
      split at h
      · cases h
      · have h3 := dw_len blI r
        split at h
        · injection h with h
          subst h
          rw [List.mem_singleton] at hx
          rw [hx]
          exact h1
        · rename_i r' he
          rw [he] at h3
          rw [List.length_cons] at h3
          have h4 := dw_len blI r'
          cases hg : collF f (n + 1) (r'.dropWhile blI) with
          | none => rw [hg] at h; cases h
          | some is' =>
            rw [hg, Option.map_some] at h
            injection h with h
            rw [← h] at hx
            rcases List.mem_cons.1 hx with hx | hx
            · rw [hx]
              exact h1
            · have := ih _ _ _ hg x hx
              omega
        · cases h
theorem parseF_cnt {l : List Int} {is : List FItem} (h : parseF l = some is) : ∀ x ∈ is, x.ps.length ≤ l.length := by
  have h3 := dw_len sp1 l
  unfold parseF at h
  split at h
  · injection h with h
    subst h
    intro x hx
    cases hx
  · intro x hx
    have := collF_cnt _ _ _ _ h x hx
    omega
theorem below_dn {w wr : World} (h : Below w.heap.size w wr) (k : Nat) : Below w.heap.size w (wr.drewN k) := ⟨h.os, h.tape, h.output, h.size, h.block⟩
set_option maxHeartbeats 4000000 in
theorem flimit_at (s : ByteArray) (hs : s.size ≤ 1000000) (w : World) : Calls Tryz.prog 28 #[.string s] w fun e w' => e = .returned (.tuple #[.int .i64 (limT (btL s)).1, .bool (limT (btL s)).2]) ∧ Below w.heap.size w w' := by
  obtain ⟨Z, hZ⟩ : ∃ Z, limT (btL s) = Z := ⟨_, rfl⟩
  have HZ := Lib.hid hZ
  rw [hZ]
  clear hZ
  have PS := Lib.hid (fparse_at s hs)
  have HSZ := Lib.hid hs
  clear hs
  go_enter Tryz.func28, Tryz.ntmps28
  go_wp2_with fail
  refine (PS.out _).mono ?_
  rintro e w1 ⟨ok, L, n, a, cap, rfl, hP, hn, hI, hno, hb⟩
  have HB1 := Lib.hid hb
  have HI := Lib.hid hI
  have hL := hI.len
  have HCN : Hid (∀ x ∈ L, x.ps.length ≤ 1000000) := Lib.hid (fun x hx => by
    cases ok with
    | true =>
      have := parseF_cnt hP x.f (List.mem_map_of_mem hx)
      rw [btL_length] at this
      have h2 : x.f.ps.length = x.ps.length := by show (x.ps.map PB.f).length = _; rw [List.length_map]
      have := HSZ.out
      omega
    | false => rw [hno rfl] at hx; cases hx)
  have HG : Hid (limG (L.map IX.f) = Z) := Lib.hid (by
    rw [← HZ.out]
    unfold limT
    rw [hP]
    cases ok with
    | true => rfl
    | false => rw [hno rfl]; rfl)
  clear hP hno hI hb PS HZ
  subst hL
  have HSA : Hid (∃ g, (L ≠ [] → a = some ⟨g, 0, none⟩) ∧ (L ≠ [] → IxAt w1 g 0 L)) := Lib.hid (by
    by_cases h0 : L = []
    · exact ⟨0, fun h => absurd h0 h, fun h => absurd h0 h⟩
    · have : 0 < L.length := by cases L with | nil => exact absurd rfl h0 | cons => simp
      obtain ⟨g, ha, _⟩ := HI.out.own.some_ this
      exact ⟨g, fun _ => ha, fun _ => ixAt_of HI.out ha⟩)
  obtain ⟨g, hsa, hat⟩ := HSA.out
  have HS := Lib.hid hsa
  have HA := Lib.hid hat
  clear hsa hat HSA
  have LN := Lib.hid (show L.length ≤ 1000000 by omega)
  have N1 := Lib.hid (fun (k : ByteArray) (W : World) (hW : Below w1.heap.size w1 W) => fnumber1_at a g 0 cap L LN.out k W (fun h => ⟨Nat.lt_of_lt_of_le (HA.out h).lt hW.size, fun i x hx j v hv => (hW.cell (HA.out h).lt).trans ((HA.out h).at_ i x hx j v hv)⟩) HS.out)
  obtain ⟨ra, hra⟩ : ∃ z, lastF remK ((L.map IX.f).map kvF) = z := ⟨_, rfl⟩
  obtain ⟨rb, hrb⟩ : ∃ z, lastF resK ((L.map IX.f).map kvF) = z := ⟨_, rfl⟩
  have HG2 : Hid ((if ra.2 = true ∧ rb.2 = true ∧ ra.1 ≤ 0 then (rb.1, true) else lpG (0, false) (L.map IX.f)) = Z) := Lib.hid (by
    rw [← HG.out, ← hra, ← hrb]
    rfl)
  have hra' : nbI ⟨#[114, 101, 109, 97, 105, 110, 105, 110, 103]⟩ (bkL L L.length) = ra := by rw [nbI_last, ← hra]; rfl
  have hrb' : nbI ⟨#[114, 101, 115, 101, 116]⟩ (bkL L L.length) = rb := by rw [nbI_last, ← hrb]; rfl
  have NA := Lib.hid (N1.out ⟨#[114, 101, 109, 97, 105, 110, 105, 110, 103]⟩)
  have NB := Lib.hid (N1.out ⟨#[114, 101, 115, 101, 116]⟩)
  rw [hra'] at NA
  rw [hrb'] at NB
  clear hra hrb hra' hrb' N1 HG
  obtain ⟨r0, r1⟩ := ra
  obtain ⟨q0, q1⟩ := rb
  dsimp only at NA NB HG2
  obtain ⟨m, hm⟩ : ∃ m, L.length = m := ⟨_, rfl⟩
  have HM := Lib.hid hm
  rw [hm] at NA NB hn ⊢
  clear hm
  go_wp2_with fail
  refine (NA.out _ (Below.refl _ _)).mono ?_
  rintro e w2 ⟨rfl, hb⟩
  have HB2 := Lib.hid hb
  clear hb NA
  go_wp2_with fail
  refine (NB.out _ HB2.out).mono ?_
  rintro e w3 ⟨rfl, hb⟩
  have HB3 := Lib.hid (HB2.out.trans (hb.mono HB2.out.size))
  clear hb HB2 NB
  have HBW := Lib.hid (HB1.out.trans (HB3.out.mono HB1.out.size))
  have HI3 := Lib.hid (HI.out.later HB3.out)
  clear HB1 HB3 HI HA
  go_upto_region 4 with fail
  obtain ⟨Q, hQ⟩ : ∃ q : Bool, decide (r1 = true ∧ q1 = true ∧ r0 ≤ 0) = q := ⟨_, rfl⟩
  have HQ := Lib.hid hQ
  clear hQ
  go_cut [40] from 18 (fun v wx => v = .bool Q ∧ wx = w3)
  case first =>
    cases r1 with
    | false =>
      have e : Q = false := by rw [← HQ.out]; simp
      subst e
      go_wp2
      go_meet
      exact ⟨rfl, rfl⟩
    | true =>
      cases q1 with
      | false =>
        have e : Q = false := by rw [← HQ.out]; simp
        subst e
        go_wp2
        go_meet
        exact ⟨rfl, rfl⟩
      | true =>
        have e : decide (r0 ≤ 0) = Q := by rw [← HQ.out]; simp
        have E := Lib.hid e
        cases Q with
        | true =>
          go_wp2
          go_meet
          exact ⟨rfl, rfl⟩
        | false =>
          go_wp2
          go_meet
          exact ⟨rfl, rfl⟩
  case rest =>
  obtain ⟨rfl, he⟩ := hcut
  have he := he.symm
  subst he
  cases Q with
  | true =>
    have HG3 : Hid ((q0, true) = Z) := Lib.hid (by rw [← HG2.out, if_pos (of_decide_eq_true HQ.out)])
    clear HG2 HQ
    go_wp2
    go_ret2
    exact ⟨by rw [← HG3.out]; rfl, HBW.out⟩
  | false =>
    have HG3 : Hid (lpG (0, false) (L.map IX.f) = Z) := Lib.hid (by rw [← HG2.out, if_neg (of_decide_eq_false HQ.out)])
    clear HG2 HQ
    go_wp2_with fail
    go_loopw [10, 11, 44] (fun mm ff j wr => ∃ (i : Nat) (x : Int) (f : Bool), i ≤ m ∧ mm = .int .i64 x ∧ ff = .bool f ∧ j = .int .i64 (i : Int) ∧ Hid (lpG (x, f) ((L.drop i).map IX.f) = Z) ∧ Hid (Below w.heap.size w wr) ∧ Hid (Below w3.heap.size w3 wr)) (fun _ _ j _ => m - (intOf j).toNat)
    case atStart => exact ⟨0, 0, false, by omega, rfl, rfl, rfl, HG3, HBW, Lib.hid (Below.refl _ _)⟩
    case round =>
      clear HG3 HBW
      obtain ⟨i, x, f, hi, rfl, rfl, rfl, HP, HB, HC⟩ := hrel
      by_cases hlt : i < m
      · have kd : decide ((i : Int) < (m : Int)) = true := decide_eq_true (by omega)
        obtain ⟨z, hz⟩ : ∃ z, L[i]? = some z := ⟨_, List.getElem?_eq_getElem (by rw [HM.out]; exact hlt)⟩
        have hzm : z ∈ L := List.mem_of_getElem? hz
        have HIr := Lib.hid (HI3.out.later HC.out)
        obtain ⟨g2, ha, _⟩ := HIr.out.own.some_ (by rw [← HM.out] at hlt; omega)
        have AT := ixAt_of HIr.out ha
        have k0 := AT.at_ i z hz 0 _ rfl
        have k1 := AT.at_ i z hz 1 _ rfl
        have k2 := AT.at_ i z hz 2 _ rfl
        have k3 := AT.at_ i z hz 3 _ rfl
        have k4 := AT.at_ i z hz 4 _ rfl
        have hpar := HIr.out.par z hzm
        have hdr : L.drop i = z :: L.drop (i + 1) := by
          obtain ⟨hb, he⟩ := List.getElem?_eq_some_iff.1 hz
          rw [← he]
          exact List.drop_eq_getElem_cons hb
        simp only [Nat.zero_add, Nat.add_zero] at k0 k1 k2 k3 k4
        obtain ⟨⟨key, ⟨vk, vn, vs⟩⟩, ps, nn, pa, pc⟩ := z
        dsimp only at k0 k1 k2 k3 k4 hpar
        obtain ⟨hp1, hp2, _⟩ := hpar
        obtain ⟨a1, ha1⟩ : ∃ z, lastF [114] (ps.map PB.f) = z := ⟨_, rfl⟩
        obtain ⟨b1, hb1⟩ : ∃ z, lastF [116] (ps.map PB.f) = z := ⟨_, rfl⟩
        have HP2 : Hid (lpG (if a1.2 = true ∧ b1.2 = true ∧ a1.1 ≤ 0 ∧ 0 ≤ b1.1 then (max x b1.1, true) else (x, f)) ((L.drop (i + 1)).map IX.f) = Z) := Lib.hid (by
          rw [← HP.out, hdr, ← ha1, ← hb1]
          rfl)
        have hnn : ps.length ≤ 1000000 := HCN.out _ hzm
        subst hp2
        have HSP : Hid (∃ g, (ps ≠ [] → pa = some ⟨g, 0, none⟩) ∧ (ps ≠ [] → PbAt wr g 0 ps)) := Lib.hid (by
          by_cases h0 : ps = []
          · exact ⟨0, fun h => absurd h0 h, fun h => absurd h0 h⟩
          · have : 0 < ps.length := by cases ps with | nil => exact absurd rfl h0 | cons => simp
            obtain ⟨g, ha, _⟩ := hp1.some_ this
            exact ⟨g, fun _ => ha, fun _ => pbAt_of hp1 ha⟩)
        obtain ⟨gp, hsp, hpt⟩ := HSP.out
        have PR := Lib.hid (fun (kk : ByteArray) (W : World) (hW : Below wr.heap.size wr W) => fparam_at key vs vk vn pa gp 0 pc ps hnn kk W (fun h => ⟨Nat.lt_of_lt_of_le (hpt h).lt hW.size, fun i x hx j v hv => (hW.cell (hpt h).lt).trans ((hpt h).at_ i x hx j v hv)⟩) hsp)
        have PA := Lib.hid (PR.out ⟨#[114]⟩)
        have PB' := Lib.hid (PR.out ⟨#[116]⟩)
        have ea : npI ⟨#[114]⟩ (bkL ps ps.length) = a1 := by rw [npI_last, ← ha1]; rfl
        have eb : npI ⟨#[116]⟩ (bkL ps ps.length) = b1 := by rw [npI_last, ← hb1]; rfl
        rw [ea] at PA
        rw [eb] at PB'
        have ix0 : (0 : Int) ≤ (i : Int) := by omega
        have ix1 : (i : Int) < (m : Int) := by omega
        subst ha
        clear PR ea eb ha1 hb1 hsp hpt HSP hp1 hdr hzm hz AT HIr HP HI3
        obtain ⟨a0, a2⟩ := a1
        obtain ⟨b0, b2⟩ := b1
        dsimp only at PA PB' HP2
        obtain ⟨pn, hpn⟩ : ∃ q, ps.length = q := ⟨_, rfl⟩
        have HPN := Lib.hid hpn
        rw [hpn] at PA PB' k4
        clear hpn hnn
        go_upto_region 10 with fail
        refine code_forget (fun W => Hid (Box W wr.heap.size #[.string key, .int .i64 vk, .int .i64 vn, .string vs, .slice pa pn pc] 73) ∧ Hid (Below wr.heap.size wr W)) ⟨Lib.hid (Box.new wr _ _), Lib.hid ((Below.refl wr.heap.size wr).alloc (Nat.le_refl _) _)⟩ ?_
        obtain ⟨xb, hxb⟩ : ∃ x, wr.heap.size = x := ⟨_, rfl⟩
        have HXB := Lib.hid hxb
        rintro w4 ⟨BX, BL⟩
        rw [hxb] at BX ⊢
        clear hxb k0 k1 k2 k3 k4
        have x0 := BX.out.cell 0
        have x1 := BX.out.cell 1
        have x2 := BX.out.cell 2
        have x3 := BX.out.cell 3
        have x4 := BX.out.cell 4
        go_wp2_with fail
        refine (PA.out _ BL.out).mono ?_
        rintro e w5 ⟨rfl, hb⟩
        have BX5 := Lib.hid (BX.out.later hb)
        have BL5 := Lib.hid (BL.out.trans (hb.mono BL.out.size))
        clear hb x0 x1 x2 x3 x4 BX BL PA
        have x0 := BX5.out.cell 0
        have x1 := BX5.out.cell 1
        have x2 := BX5.out.cell 2
        have x3 := BX5.out.cell 3
        have x4 := BX5.out.cell 4
        go_wp2_with fail
        refine (PB'.out _ BL5.out).mono ?_
        rintro e w6 ⟨rfl, hb⟩
        have BL6 := Lib.hid (BL5.out.trans (hb.mono BL5.out.size))
        have HB6 := Lib.hid (HB.out.trans (BL6.out.mono HB.out.size))
        have HC6 := Lib.hid (HC.out.trans (BL6.out.mono HC.out.size))
        clear hb x0 x1 x2 x3 x4 BX5 BL5 BL6 PB' HB HC
        by_cases hall : a2 = true ∧ b2 = true ∧ a0 ≤ 0 ∧ 0 ≤ b0
        · have HP3 : Hid (lpG (max x b0, true) ((L.drop (i + 1)).map IX.f) = Z) := Lib.hid (by rw [← HP2.out]; exact congrArg (fun z => lpG z _) (if_pos hall).symm)
          obtain ⟨rfl, rfl, h1, h2⟩ := hall
          have d1 : decide (a0 ≤ 0) = true := decide_eq_true h1
          have d2 : decide (0 ≤ b0) = true := decide_eq_true h2
          clear HP2 h1 h2
          go_wp2
          go_roundw
          case rel => exact ⟨i + 1, max x b0, true, by omega, rfl, rfl, by go_num, HP3, HB6, HC6⟩
          case measure => simp [intOf]; omega
        · have HP3 : Hid (lpG (x, f) ((L.drop (i + 1)).map IX.f) = Z) := Lib.hid (by rw [← HP2.out]; exact congrArg (fun z => lpG z _) (if_neg hall).symm)
          clear HP2
          cases a2 with
          | false =>
            clear hall
            go_wp2
            go_roundw
            case rel => exact ⟨i + 1, x, f, by omega, rfl, rfl, by go_num, HP3, HB6, HC6⟩
            case measure => simp [intOf]; omega
          | true =>
            cases b2 with
            | false =>
              clear hall
              go_wp2
              go_roundw
              case rel => exact ⟨i + 1, x, f, by omega, rfl, rfl, by go_num, HP3, HB6, HC6⟩
              case measure => simp [intOf]; omega
            | true =>
              by_cases h1 : a0 ≤ 0
              · have d1 : decide (a0 ≤ 0) = true := decide_eq_true h1
                have d2 : decide (0 ≤ b0) = false := decide_eq_false (fun h2 => hall ⟨rfl, rfl, h1, h2⟩)
                clear hall h1
                go_wp2
                go_roundw
                case rel => exact ⟨i + 1, x, f, by omega, rfl, rfl, by go_num, HP3, HB6, HC6⟩
                case measure => simp [intOf]; omega
              · have d1 : decide (a0 ≤ 0) = false := decide_eq_false h1
                clear hall h1
                go_wp2
                go_roundw
                case rel => exact ⟨i + 1, x, f, by omega, rfl, rfl, by go_num, HP3, HB6, HC6⟩
                case measure => simp [intOf]; omega
      · have kd : decide ((i : Int) < (m : Int)) = false := decide_eq_false (by omega)
        have e : L.drop i = [] := List.drop_eq_nil_of_le (by rw [HM.out]; omega)
        have HE : Hid ((x, f) = Z) := Lib.hid (by rw [← HP.out, e]; rfl)
        clear e HP
        go_wp2
        go_ret2
        exact ⟨by rw [← HE.out]; rfl, HB.out⟩
end Go.Proofs.YtodibjpojfipoaaGreatDoor
namespace Go.Proofs.YtodibjpojfipoaaGreatDoor
open Go Go.RowKit
set_option linter.unusedVariables false
set_option linter.unusedSimpArgs false
set_option maxRecDepth 10000

abbrev HL := List (ByteArray × ByteArray)
def valH (k : ByteArray) (hs : HL) : ByteArray := valB k (bkL hs hs.length)
theorem trL_le (l : List Int) : (trL l).length ≤ l.length := by
  unfold trL
  rw [rdw_rev]
  have h1 := dw_len blI ((l.reverse.dropWhile blI).reverse)
  have h2 := dw_len blI l.reverse
  simp only [List.length_reverse] at h1 h2
  omega
theorem valB_size (k : ByteArray) (B : Nat) : ∀ L : List (Nat × (ByteArray × ByteArray)), (∀ z ∈ L, z.2.2.size ≤ B) → (valB k L).size ≤ B
  | [], _ => by unfold valB; exact Nat.zero_le _
  | x :: r, h => by
    unfold valB
    split
    · have h1 := h x (by simp)
      have h2 := trL_le (btL x.2.2)
      rw [btL_length] at h2
      have h3 : (strL (trL (btL x.2.2))).size = (trL (btL x.2.2)).length := by simp [strL, ByteArray.size]
      omega
    · exact valB_size k B r (fun z hz => h z (by simp [hz]))
theorem bkL_mem {α : Type} {hs : List α} : ∀ (n : Nat) (z : Nat × α), z ∈ bkL hs n → z.2 ∈ hs
  | 0, z, h => by simp [bkL] at h
  | n + 1, z, h => by
    by_cases hn : n < hs.length
    · obtain ⟨x, hx⟩ : ∃ x, hs[n]? = some x := ⟨_, List.getElem?_eq_getElem hn⟩
      rw [bkL_succ hx] at h
      rcases List.mem_cons.1 h with h | h
      · subst h
        exact List.mem_of_getElem? hx
      · exact bkL_mem n z h
    · have e : bkL hs (n + 1) = bkL hs n := by show (match hs[n]? with | some x => (n, x) :: bkL hs n | none => bkL hs n) = _; rw [List.getElem?_eq_none (by omega)]
      rw [e] at h
      exact bkL_mem n z h
theorem valH_size (k : ByteArray) (hs : HL) (hz : ∀ x ∈ hs, x.1.size ≤ 1000000 ∧ x.2.size ≤ 1000000) : (valH k hs).size ≤ 1000000 :=
  valB_size k _ _ (fun z h => (hz _ (bkL_mem _ z h)).2)
def kRl : ByteArray := ⟨#[114, 97, 116, 101, 108, 105, 109, 105, 116]⟩
def kXm : ByteArray := ⟨#[120, 45, 114, 97, 116, 101, 108, 105, 109, 105, 116, 45, 114, 101, 109, 97, 105, 110, 105, 110, 103]⟩
def kXr : ByteArray := ⟨#[120, 45, 114, 97, 116, 101, 108, 105, 109, 105, 116, 45, 114, 101, 115, 101, 116]⟩
def kRa : ByteArray := ⟨#[114, 101, 116, 114, 121, 45, 97, 102, 116, 101, 114]⟩
/-- How many seconds. -/
def secO (hs : HL) : Option Int := if (limT (btL (valH kRl hs))).2 = true then some (limT (btL (valH kRl hs))).1 else oldF (btL (valH kXm hs)) (btL (valH kXr hs))
def resO (now : Int) (hs : HL) : Option Int := match secO hs with
  | none => none
  | some n => if n < 0 then none else some (afterI now n)
set_option maxHeartbeats 4000000 in
theorem freset_at (sa : Option Addr) (g off c : Nat) (hs : HL) (hl : hs.length ≤ 1000000) (hz : ∀ x ∈ hs, x.1.size ≤ 1000000 ∧ x.2.size ≤ 1000000) (now : Int) (w : World) (hA : hs ≠ [] → HdAt w g off hs) (hSa : hs ≠ [] → sa = some ⟨g, off, none⟩) :
    Calls Tryz.prog 13 #[.slice sa hs.length c, .int .i64 now] w (OptP (resO now hs) w) := by
  obtain ⟨R, hR⟩ : ∃ R, resO now hs = R := ⟨_, rfl⟩
  have HR := Lib.hid hR
  rw [hR]
  clear hR
  have V := Lib.hid (fun (k : ByteArray) (W : World) (hW : Below w.heap.size w W) => fvalue_at sa g off c hs hl hz k W (fun h => ⟨Nat.lt_of_lt_of_le (hA h).lt hW.size, fun i x hx => (hW.cell (hA h).lt).trans ((hA h).nm i x hx), fun i x hx => (hW.cell (hA h).lt).trans ((hA h).vl i x hx)⟩) hSa)
  have V1 := Lib.hid (V.out ⟨#[114, 97, 116, 101, 108, 105, 109, 105, 116]⟩)
  have V2 := Lib.hid (V.out ⟨#[120, 45, 114, 97, 116, 101, 108, 105, 109, 105, 116, 45, 114, 101, 109, 97, 105, 110, 105, 110, 103]⟩)
  have V3 := Lib.hid (V.out ⟨#[120, 45, 114, 97, 116, 101, 108, 105, 109, 105, 116, 45, 114, 101, 115, 101, 116]⟩)
  have hz1 := valH_size ⟨#[114, 97, 116, 101, 108, 105, 109, 105, 116]⟩ hs hz
  obtain ⟨v1, hv1⟩ : ∃ v, valH ⟨#[114, 97, 116, 101, 108, 105, 109, 105, 116]⟩ hs = v := ⟨_, rfl⟩
  obtain ⟨v2, hv2⟩ : ∃ v, valH ⟨#[120, 45, 114, 97, 116, 101, 108, 105, 109, 105, 116, 45, 114, 101, 109, 97, 105, 110, 105, 110, 103]⟩ hs = v := ⟨_, rfl⟩
  obtain ⟨v3, hv3⟩ : ∃ v, valH ⟨#[120, 45, 114, 97, 116, 101, 108, 105, 109, 105, 116, 45, 114, 101, 115, 101, 116]⟩ hs = v := ⟨_, rfl⟩
  have e1 : valB ⟨#[114, 97, 116, 101, 108, 105, 109, 105, 116]⟩ (bkL hs hs.length) = v1 := hv1
  have e2 : valB ⟨#[120, 45, 114, 97, 116, 101, 108, 105, 109, 105, 116, 45, 114, 101, 109, 97, 105, 110, 105, 110, 103]⟩ (bkL hs hs.length) = v2 := hv2
  have e3 : valB ⟨#[120, 45, 114, 97, 116, 101, 108, 105, 109, 105, 116, 45, 114, 101, 115, 101, 116]⟩ (bkL hs hs.length) = v3 := hv3
  rw [e1] at V1
  rw [e2] at V2
  rw [e3] at V3
  rw [hv1] at hz1
  have LM := Lib.hid (fun W : World => flimit_at v1 hz1 W)
  have OL := Lib.hid (fun W : World => fold_at v2 v3 W)
  obtain ⟨⟨z0, z1⟩, hzz⟩ : ∃ z, limT (btL v1) = z := ⟨_, rfl⟩
  obtain ⟨o, ho⟩ : ∃ o, oldF (btL v2) (btL v3) = o := ⟨_, rfl⟩
  rw [hzz] at LM
  rw [ho] at OL
  have HS : Hid (secO hs = if z1 = true then some z0 else o) := Lib.hid (by
    unfold secO
    rw [show valH kRl hs = v1 from hv1, show valH kXm hs = v2 from hv2, show valH kXr hs = v3 from hv3, hzz, ho])
  have HR2 : Hid ((match (if z1 = true then some z0 else o) with
    | none => none
    | some n => if n < 0 then none else some (afterI now n)) = R) := Lib.hid (by rw [← HR.out]; unfold resO; rw [HS.out])
  clear hv1 hv2 hv3 e1 e2 e3 hzz ho HR HS V hz1 hl hz hA hSa
  obtain ⟨N, hN⟩ : ∃ N, hs.length = N := ⟨_, rfl⟩
  rw [hN] at V1 V2 V3 ⊢
  clear hN
  dsimp only at LM
  go_enter Tryz.func13, Tryz.ntmps13
  go_wp2_with fail
  refine (V1.out _ (Below.refl _ _)).mono ?_
  rintro e w1 ⟨rfl, hb⟩
  have HB1 := Lib.hid hb
  clear hb V1
  go_wp2_with fail
  refine (LM.out _).mono ?_
  rintro e w2 ⟨rfl, hb⟩
  have HB2 := Lib.hid (HB1.out.trans (hb.mono HB1.out.size))
  clear hb HB1 LM
  cases z1 with
  | true =>
    clear OL V2 V3
    by_cases hn : z0 < 0
    · have hd : decide (z0 < 0) = true := decide_eq_true hn
      have HO : Hid (R = none) := Lib.hid (by rw [← HR2.out]; exact if_pos hn)
      clear hn HR2
      go_wp2
      go_ret2
      exact ⟨by rw [HO.out]; rfl, HB2.out⟩
    · have hd : decide (z0 < 0) = false := decide_eq_false hn
      have HO : Hid (R = some (afterI now z0)) := Lib.hid (by rw [← HR2.out]; exact if_neg hn)
      clear hn HR2
      go_wp2_with fail
      refine (fafter_at now z0 _).mono ?_
      rintro e w9 ⟨rfl, hw⟩
      subst w9
      obtain ⟨af, haf⟩ : ∃ a, afterI now z0 = a := ⟨_, rfl⟩
      rw [haf] at HO ⊢
      clear haf
      go_wp2
      go_ret2
      exact ⟨by rw [HO.out]; rfl, HB2.out⟩
  | false =>
    go_wp2_with fail
    refine (V2.out _ HB2.out).mono ?_
    rintro e w3 ⟨rfl, hb⟩
    have HB3 := Lib.hid (HB2.out.trans (hb.mono HB2.out.size))
    clear hb HB2 V2
    go_wp2_with fail
    refine (V3.out _ HB3.out).mono ?_
    rintro e w4 ⟨rfl, hb⟩
    have HB4 := Lib.hid (HB3.out.trans (hb.mono HB3.out.size))
    clear hb HB3 V3
    go_wp2_with fail
    refine (OL.out _).mono ?_
    rintro e w5 ⟨rfl, hb⟩
    have HB5 := Lib.hid (HB4.out.trans (hb.mono HB4.out.size))
    clear hb HB4 OL
    cases o with
    | none =>
      have HO : Hid (R = none) := Lib.hid (by rw [← HR2.out]; rfl)
      clear HR2
      go_wp2
      go_ret2
      exact ⟨by rw [HO.out]; rfl, HB5.out⟩
    | some n =>
      by_cases hn : n < 0
      · have hd : decide (n < 0) = true := decide_eq_true hn
        have HO : Hid (R = none) := Lib.hid (by rw [← HR2.out]; exact if_pos hn)
        clear hn HR2
        go_wp2
        go_ret2
        exact ⟨by rw [HO.out]; rfl, HB5.out⟩
      · have hd : decide (n < 0) = false := decide_eq_false hn
        have HO : Hid (R = some (afterI now n)) := Lib.hid (by rw [← HR2.out]; exact if_neg hn)
        clear hn HR2
        go_wp2_with fail
        refine (fafter_at now n _).mono ?_
        rintro e w9 ⟨rfl, hw⟩
        subst w9
        obtain ⟨af, haf⟩ : ∃ a, afterI now n = a := ⟨_, rfl⟩
        rw [haf] at HO ⊢
        clear haf
        go_wp2
        go_ret2
        exact ⟨by rw [HO.out]; rfl, HB5.out⟩
def retO (Y now : Int) (hs : HL) : Option Int := retF Y now (btL (strL (trL (btL (valH kRa hs)))))
set_option maxHeartbeats 4000000 in
theorem ffrom_at (st : Int) (sa : Option Addr) (g off c : Nat) (hs : HL) (hl : hs.length ≤ 1000000) (hz : ∀ x ∈ hs, x.1.size ≤ 1000000 ∧ x.2.size ≤ 1000000) (now Y : Int) (hY : YearIs (nowD (capI now / 1000)) Y) (w : World) (hT : TabD w) (hA : hs ≠ [] → HdAt w g off hs) (hSa : hs ≠ [] → sa = some ⟨g, off, none⟩) :
    Calls Tryz.prog 15 #[.int .i64 st, .slice sa hs.length c, .int .i64 now] w fun e w' => e = .returned (.agg #[.int .i64 (classI st), .int .i64 ((retO Y now hs).getD 0), .int .i64 ((resO now hs).getD 0)]) ∧ Below w.heap.size w w' := by
  have hA' : ∀ (W : World), Below w.heap.size w W → hs ≠ [] → HdAt W g off hs := fun W hW h => ⟨Nat.lt_of_lt_of_le (hA h).lt hW.size, fun i x hx => (hW.cell (hA h).lt).trans ((hA h).nm i x hx), fun i x hx => (hW.cell (hA h).lt).trans ((hA h).vl i x hx)⟩
  have V1 := Lib.hid (fun (W : World) (hW : Below w.heap.size w W) => fvalue_at sa g off c hs hl hz ⟨#[114, 101, 116, 114, 121, 45, 97, 102, 116, 101, 114]⟩ W (hA' W hW) hSa)
  have RS := Lib.hid (fun (W : World) (hW : Below w.heap.size w W) => freset_at sa g off c hs hl hz now W (hA' W hW) hSa)
  have hz1 := valH_size ⟨#[114, 101, 116, 114, 121, 45, 97, 102, 116, 101, 114]⟩ hs hz
  obtain ⟨v1, hv1⟩ : ∃ v, valH ⟨#[114, 101, 116, 114, 121, 45, 97, 102, 116, 101, 114]⟩ hs = v := ⟨_, rfl⟩
  have e1 : valB ⟨#[114, 101, 116, 114, 121, 45, 97, 102, 116, 101, 114]⟩ (bkL hs hs.length) = v1 := hv1
  rw [e1] at V1
  rw [hv1] at hz1
  have RT := Lib.hid (fun (W : World) (hW : Below w.heap.size w W) => fretry_at v1 (by omega) now Y hY W (hT.later hW))
  obtain ⟨a, ha⟩ : ∃ a, retF Y now (btL (strL (trL (btL v1)))) = a := ⟨_, rfl⟩
  obtain ⟨b, hb⟩ : ∃ b, resO now hs = b := ⟨_, rfl⟩
  have HRT : Hid (retO Y now hs = a) := Lib.hid (by unfold retO; rw [show valH kRa hs = v1 from hv1, ha])
  rw [ha] at RT
  rw [hb] at RS ⊢
  rw [HRT.out]
  clear ha hb hv1 e1 hz1 hl hz hA hSa hT hY hA' HRT
  obtain ⟨N, hN⟩ : ∃ N, hs.length = N := ⟨_, rfl⟩
  rw [hN] at V1 RS ⊢
  clear hN
  obtain ⟨cs, hcs⟩ : ∃ x, classI st = x := ⟨_, rfl⟩
  have CL := Lib.hid (fun W : World => fclass_at st W)
  rw [hcs] at CL ⊢
  clear hcs
  go_enter Tryz.func15, Tryz.ntmps15
  go_upto_region 1 with fail
  refine code_forget (fun W => Hid (Box W w.heap.size #[.int .i64 0, .int .i64 0, .int .i64 0] 25) ∧ Hid (Below w.heap.size w W)) ⟨Lib.hid (Box.new w _ _), Lib.hid ((Below.refl w.heap.size w).alloc (Nat.le_refl _) _)⟩ ?_
  obtain ⟨rb, hrb⟩ : ∃ x, w.heap.size = x := ⟨_, rfl⟩
  have HRB := Lib.hid hrb
  rintro w1 ⟨BX, HB1⟩
  rw [hrb] at BX ⊢
  clear hrb
  go_wp2_with fail
  refine (V1.out _ HB1.out).mono ?_
  rintro e w2 ⟨rfl, hb⟩
  have HB2 := Lib.hid (HB1.out.trans (hb.mono HB1.out.size))
  have BX2 := Lib.hid (BX.out.later hb)
  clear hb HB1 BX V1
  go_wp2_with fail
  refine (RT.out _ HB2.out).mono ?_
  rintro e w3 ⟨rfl, hb⟩
  have HB3 := Lib.hid (HB2.out.trans (hb.mono HB2.out.size))
  have BX3 := Lib.hid (BX2.out.later hb)
  clear hb HB2 BX2 RT
  obtain ⟨a0, ha0⟩ : ∃ x, a.getD 0 = x := ⟨_, rfl⟩
  obtain ⟨a1, ha1⟩ : ∃ x, a.isSome = x := ⟨_, rfl⟩
  rw [ha0, ha1]
  have HA0 := Lib.hid ha0
  clear ha0 ha1
  go_wp2_with fail
  refine (RS.out _ HB3.out).mono ?_
  rintro e w4 ⟨rfl, hb⟩
  have HB4 := Lib.hid (HB3.out.trans (hb.mono HB3.out.size))
  have BX4 := Lib.hid (BX3.out.later hb)
  clear hb HB3 BX3 RS
  obtain ⟨b0, hb0⟩ : ∃ x, b.getD 0 = x := ⟨_, rfl⟩
  obtain ⟨b1, hb1⟩ : ∃ x, b.isSome = x := ⟨_, rfl⟩
  rw [hb0, hb1]
  have HB0 := Lib.hid hb0
  clear hb0 hb1
  go_wp2_with fail
  refine (CL.out _).mono ?_
  rintro e w5 ⟨rfl, hw⟩
  subst w5
  have c0 := BX4.out.cell 0
  have c1 := BX4.out.cell 1
  have c2 := BX4.out.cell 2
  have f0 := BX4.out.free 0
  have f1 := BX4.out.free 1
  have f2 := BX4.out.free 2
  have l0 := BX4.out.lt
  go_wp2
  have BX5 := Lib.hid (((BX4.out.set 0 (.int .i64 cs)).set 1 (.int .i64 a0)).set 2 (.int .i64 b0))
  have hrw : w.heap.size ≤ rb := by rw [HRB.out]; exact Nat.le_refl _
  have HB6 := Lib.hid (((HB4.out.setCell (p := ⟨rb, 0, none⟩) hrw (.int .i64 cs)).setCell (p := ⟨rb, 1, none⟩) hrw (.int .i64 a0)).setCell (p := ⟨rb, 2, none⟩) hrw (.int .i64 b0))
  obtain ⟨w9, hw9⟩ : ∃ W, ((w4.setCell ⟨rb, 0, none⟩ (.int .i64 cs)).setCell ⟨rb, 1, none⟩ (.int .i64 a0)).setCell ⟨rb, 2, none⟩ (.int .i64 b0) = W := ⟨_, rfl⟩
  rw [hw9] at BX5 HB6 ⊢
  have s0 := BX5.out.cell 0
  have s1 := BX5.out.cell 1
  have s2 := BX5.out.cell 2
  exact bodyPost_ret (v := .agg #[.int .i64 cs, .int .i64 a0, .int .i64 b0]) (by simp [results, Tryz.results15, go_sem, s0, s1, s2]) rfl ⟨by rw [HA0.out, HB0.out], HB6.out⟩
end Go.Proofs.YtodibjpojfipoaaGreatDoor
