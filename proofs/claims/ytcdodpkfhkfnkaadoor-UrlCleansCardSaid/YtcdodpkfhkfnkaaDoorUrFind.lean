/- Where the first of some signs is: the document's. -/
import Derived.Test.YtcdodpkfhkfnkaaDoorUrLower
import Derived.Test.YtcdodpkfhkfnkaaDoorUrKey
import Derived.Test.YtcdodpkfhkfnkaaDoorPcBase
/- A port: the document's. -/
namespace Go.Proofs.YtcdodpkfhkfnkaaDoor
open Go.RowKit
set_option linter.unusedVariables false
set_option linter.unusedSimpArgs false
set_option maxRecDepth 10000

theorem btL_at (s : ByteArray) (k : Nat) (h : k < s.size) : (btL s)[k]? = some ((s[k].toNat : Nat) : Int) := by
  unfold btL
  have h' : k < s.data.toList.length := by simpa using h
  rw [List.getElem?_map, List.getElem?_eq_getElem h']
  rfl
theorem pvI_take {l : List Int} {k : Nat} {c : Int} (h : l[k]? = some c) : pvI 0 (l.take (k + 1)) = 10 * pvI 0 (l.take k) + (c - 48) := by
  obtain ⟨hk, he⟩ := List.getElem?_eq_some_iff.1 h
  rw [List.take_succ_eq_append_getElem hk, he, pvI_snoc]
theorem pvI_small : ∀ (k : Nat) (l : List Int), pdig (l.take k) → k ≤ 5 → 0 ≤ pvI 0 (l.take k) ∧ pvI 0 (l.take k) < 10 ^ k
  | 0, l, _, _ => by rw [List.take_zero]; exact ⟨Int.le_refl _, by decide⟩
  | k + 1, l, hd, hk => by
    by_cases hl : k < l.length
    · have hc := hd (l[k]) (by rw [List.take_succ_eq_append_getElem hl]; exact List.mem_append_right _ (List.mem_singleton.2 rfl))
      obtain ⟨h1, h2⟩ := pvI_small k l (fun x hx => hd x (by rw [List.take_succ_eq_append_getElem hl]; exact List.mem_append_left _ hx)) (by omega)
      rw [pvI_take (List.getElem?_eq_getElem hl), Int.pow_succ]
      omega
    · rw [List.take_of_length_le (by omega)] at hd ⊢
      have := pvI_small k l (by rw [List.take_of_length_le (by omega)]; exact hd) (by omega)
      rw [List.take_of_length_le (by omega)] at this
      have h3 : (10 : Int) ^ (k + 1) = 10 ^ k * 10 := Int.pow_succ _ _
      have h4 : (0 : Int) < 10 ^ k := Int.pow_pos (by decide)
      omega
set_option maxHeartbeats 2000000 in
theorem rport_at (s : ByteArray) (p : Int) (hp : portD (btL s) = p) (hs : s.size ≤ 100000) (w : World) :
    Calls Tryd.prog 57 #[.string s] w fun e w' => e = .returned (.int .i64 p) ∧ w' = w := by
  obtain ⟨l, hl⟩ : ∃ l, btL s = l := ⟨_, rfl⟩
  have hll : l.length = s.size := by rw [← hl, btL_length]
  rw [hl] at hp
  unfold portD at hp
  by_cases h0 : s.size < 1
  · have d0 : decide ((s.size : Int) < 1) = true := decide_eq_true (by omega)
    rw [if_neg (by omega)] at hp
    subst hp
    clear hl hll
    go_enter Tryd.func57, Tryd.ntmps57
    go_wp2
    go_ret
    exact ⟨rfl, rfl⟩
  · have d0 : decide ((s.size : Int) < 1) = false := decide_eq_false (by omega)
    by_cases h5 : 5 < s.size
    · have d5 : decide ((5 : Int) < (s.size : Int)) = true := decide_eq_true (by omega)
      rw [if_neg (by omega)] at hp
      subst hp
      clear hl hll
      go_enter Tryd.func57, Tryd.ntmps57
      go_wp2
      go_ret
      exact ⟨rfl, rfl⟩
    · have d5 : decide ((5 : Int) < (s.size : Int)) = false := decide_eq_false (by omega)
      have z0 : 0 < s.size := by omega
      obtain ⟨u, hu⟩ : ∃ u : Int, (s[0].toNat : Int) = u := ⟨_, rfl⟩
      have hl0 : l[0]? = some u := by rw [← hl, btL_at s 0 z0, hu]
      have hhd : l.head? = some u := by rw [List.head?_eq_getElem?]; exact hl0
      by_cases h48 : u = 48
      · have d48 : (u == 48) = true := beq_iff_eq.2 h48
        rw [if_neg (fun h => h.2.2.1 (by rw [hhd, h48]))] at hp
        subst hp
        clear hl hll hl0 hhd
        go_enter Tryd.func57, Tryd.ntmps57
        go_wp2
        go_ret
        exact ⟨rfl, rfl⟩
      · have d48 : (u == 48) = false := beq_eq_false_iff_ne.2 h48
        have HP : Hid ((if pdig l ∧ pvI 0 l ≤ 65535 then pvI 0 l else 0) = p) := Lib.hid (by
          rw [← hp]
          by_cases hc : pdig l ∧ pvI 0 l ≤ 65535
          · rw [if_pos hc, if_pos ⟨by omega, by omega, by rw [hhd]; simpa using h48, hc.1, hc.2⟩]
          · rw [if_neg hc, if_neg (fun h => hc ⟨h.2.2.2.1, h.2.2.2.2⟩)])
        have HL := Lib.hid hl
        have HLL := Lib.hid hll
        have s5 : s.size ≤ 5 := by omega
        clear hp hl hll hl0 hhd h48 h5 h0
        go_enter Tryd.func57, Tryd.ntmps57
        go_wp2_with fail
        clear hu d48 d0 d5
        go_loop [3, 4] (fun n i => ∃ k : Nat, k ≤ s.size ∧ i = .int .i64 k ∧ ∃ v : Int, n = .int .i64 v ∧ 0 ≤ v ∧ v < 100000 ∧ Hid (pvI 0 (l.take k) = v ∧ pdig (l.take k))) (fun _ i => s.size - (intOf i).toNat)
        case atStart => exact ⟨0, Nat.zero_le _, rfl, 0, rfl, by omega, by omega, Lib.hid ⟨by rw [List.take_zero]; rfl, by rw [List.take_zero]; intro c hc; simp at hc⟩⟩
        case round =>
          obtain ⟨k, hk, rfl, v, rfl, v0, v1, HV⟩ := hrel
          by_cases hlt : k < s.size
          · have hkd : decide ((k : Int) < (s.size : Int)) = true := decide_eq_true (by omega)
            obtain ⟨c, hc⟩ : ∃ u : Int, (s[k].toNat : Int) = u := ⟨_, rfl⟩
            have HC : Hid (l[k]? = some c) := Lib.hid (by rw [← HL.out, btL_at s k hlt, hc])
            have hnd : (c < 48 ∨ 57 < c) → Hid (0 = p) := fun h => Lib.hid (by
              rw [← HP.out, if_neg]
              rintro ⟨hd, _⟩
              have := hd c (List.mem_of_getElem? HC.out)
              omega)
            by_cases c1 : c < 48
            · have d1 : decide (c < (48 : Int)) = true := decide_eq_true c1
              have HZ := hnd (Or.inl c1)
              clear hnd
              go_wp2
              go_ret
              rw [← HZ.out]
              exact ⟨rfl, rfl⟩
            · have d1 : decide (c < (48 : Int)) = false := decide_eq_false c1
              by_cases c2 : 57 < c
              · have d2 : decide ((57 : Int) < c) = true := decide_eq_true c2
                have HZ := hnd (Or.inr c2)
                clear hnd
                go_wp2
                go_ret
                rw [← HZ.out]
                exact ⟨rfl, rfl⟩
              · have d2 : decide ((57 : Int) < c) = false := decide_eq_false c2
                have hd : pdig (l.take (k + 1)) := by
                  obtain ⟨hk', he⟩ := List.getElem?_eq_some_iff.1 HC.out
                  rw [List.take_succ_eq_append_getElem hk', he]
                  intro x hx
                  rcases List.mem_append.1 hx with hx | hx
                  · exact HV.out.2 x hx
                  · rw [List.mem_singleton.1 hx]; omega
                have hv : pvI 0 (l.take (k + 1)) = 10 * v + (c - 48) := by rw [pvI_take HC.out, HV.out.1]
                have hb := pvI_small (k + 1) l hd (by omega)
                rw [hv] at hb
                have hp5 : (10 : Int) ^ (k + 1) ≤ 100000 := by
                  have : k + 1 = 1 ∨ k + 1 = 2 ∨ k + 1 = 3 ∨ k + 1 = 4 ∨ k + 1 = 5 := by omega
                  rcases this with h | h | h | h | h <;> rw [h] <;> decide
                have b1 : 10 * v + (c - 48) < 100000 := by omega
                have w1 : IntKind.i64.wrap (10 * v) = 10 * v := IntWalk.i64_in _ (by omega)
                have w2 : IntKind.u8.wrap (c - 48) = c - 48 := by rw [IntKind.wrap_u8]; omega
                have w3 : IntKind.i64.wrap (c - 48) = c - 48 := IntWalk.i64_in _ (by omega)
                have w4 : IntKind.i64.wrap (10 * v + (c - 48)) = 10 * v + (c - 48) := IntWalk.i64_in _ (by omega)
                have HV2 := Lib.hid (And.intro hv hd)
                have b0 : 0 ≤ 10 * v + (c - 48) := by omega
                clear hnd hd hv hb hp5
                go_wp2
                go_round
                case rel => exact ⟨k + 1, by omega, by go_num, _, rfl, b0, b1, HV2⟩
                case measure => simp [intOf]; omega
          · have hkd : decide ((k : Int) < (s.size : Int)) = false := decide_eq_false (by omega)
            have hall : pvI 0 l = v ∧ pdig l := by
              have := HV.out
              rwa [List.take_of_length_le (by have := HLL.out; omega)] at this
            by_cases hg : 65535 < v
            · have dg : decide ((65535 : Int) < v) = true := decide_eq_true hg
              have HZ : Hid (0 = p) := Lib.hid (by rw [← HP.out, if_neg]; rintro ⟨_, h⟩; omega)
              clear hall
              go_wp2
              go_ret
              rw [← HZ.out]
              exact ⟨rfl, rfl⟩
            · have dg : decide ((65535 : Int) < v) = false := decide_eq_false hg
              have HZ : Hid (v = p) := Lib.hid (by rw [← HP.out, if_pos ⟨hall.2, by omega⟩, hall.1])
              clear hall
              go_wp2
              go_ret
              rw [← HZ.out]
              exact ⟨rfl, rfl⟩
end Go.Proofs.YtcdodpkfhkfnkaaDoor
/- A number's digits: the document's. -/
namespace Go.Proofs.YtcdodpkfhkfnkaaDoor
open Go.RowKit
set_option linter.unusedVariables false
set_option linter.unusedSimpArgs false
set_option maxRecDepth 10000

theorem strL_app (a b : List Int) : strL (a ++ b) = strL a ++ strL b := by
  apply ByteArray.ext
  simp [strL, ByteArray.data_append]
theorem decD_len : ∀ (k n : Nat), n < 10 ^ (k + 1) → (decD n).length ≤ k + 1
  | 0, n, h => by rw [decD_low (by omega)]; simp
  | k + 1, n, h => by
    by_cases h10 : n < 10
    · rw [decD_low h10]; simp
    · have h2 : 10 ^ (k + 1 + 1) = 10 ^ (k + 1) * 10 := Nat.pow_succ ..
      have := decD_len k (n / 10) (by omega)
      rw [decD_high h10, List.length_append, List.length_singleton]
      omega
set_option maxHeartbeats 2000000 in
theorem rdigits_at (N : Nat) (t : ByteArray) (ht : strL (decD N) = t) (hN : N ≤ 9223372036854775807) (w : World) :
    Calls Tryd.prog 61 #[.int .i64 (N : Int)] w fun e w' => e = .returned (.string t) ∧ Below w.heap.size w w' := by
  have HT := Lib.hid ht
  clear ht
  go_enter Tryd.func61, Tryd.ntmps61
  go_wp2_with fail
  go_loopw [0, 3] (fun n o wr => ∃ (k : Nat) (out : List Int), n = .int .i64 (k : Int) ∧ o = .string (strL out) ∧ k ≤ 9223372036854775807 ∧ Hid (decD N = decD k ++ out) ∧ Hid (Below w.heap.size w wr)) (fun n _ _ => (intOf n).toNat)
  case atStart => exact ⟨N, [], rfl, rfl, hN, Lib.hid (by rw [List.append_nil]), Lib.hid (Below.refl _ _)⟩
  case round =>
    obtain ⟨k, out, rfl, rfl, hk, HD, BR⟩ := hrel
    have hol : out.length ≤ 19 := by
      have h1 := congrArg List.length HD.out
      have h3 : (10 : Nat) ^ (18 + 1) = 10000000000000000000 := by decide
      have h2 := decD_len 18 N (by rw [h3]; omega)
      rw [List.length_append] at h1
      omega
    obtain ⟨u, hu⟩ : ∃ u : Int, (k : Int) % 10 = u := ⟨_, rfl⟩
    have u0 : 0 ≤ u := by omega
    have u1 : u < 10 := by omega
    have w1 : IntKind.i64.wrap (48 + u) = 48 + u := IntWalk.i64_in _ (by omega)
    have w2 : IntKind.u8.wrap (48 + u) = 48 + u := by rw [IntKind.wrap_u8]; omega
    have hcv := ((RdB.new wr [48 + u] 5 (0, 0)).drew).text (P := Tryd.prog) 37 5 9 Tryd.underlying37 Tryd.underlying5 Tryd.underlying9 (fun _ => Or.inr ⟨_, _, rfl⟩) 1
    have hcv2 := (RdB.new wr [48 + u] 5 (0, 0)).text (P := Tryd.prog) 37 5 9 Tryd.underlying37 Tryd.underlying5 Tryd.underlying9 (fun _ => Or.inr ⟨_, _, rfl⟩) 1
    simp only [List.map_cons, List.map_nil, List.length_cons, List.length_nil, Nat.zero_add] at hcv hcv2
    obtain ⟨os, hos⟩ : ∃ x, strL out = x := ⟨_, rfl⟩
    obtain ⟨pc, hpc⟩ : ∃ x, strL [48 + u] = x := ⟨_, rfl⟩
    obtain ⟨ns, hns⟩ : ∃ x, strL ((48 + u) :: out) = x := ⟨_, rfl⟩
    have hzs : os.size ≤ 19 := by rw [← hos, strL_size]; exact hol
    have hzp : pc.size ≤ 1 := by rw [← hpc, strL_size]; simp
    have hsum : pc ++ os = ns := by rw [← hos, ← hpc, ← hns, ← strL_app]; rfl
    have hadd : ∀ wx : World, (Op.stringOp .add pc os).run Tryd.prog wx = .ok (.string ns) wx := fun wx => by
      rw [run_string_add_sum wx pc os (by omega), hsum]
    rw [hpc] at hcv hcv2
    have HNS := Lib.hid hns
    have HU := Lib.hid hu
    rw [hos]
    clear hos hpc hns hsum hzs hzp hol
    by_cases h10 : k < 10
    · have d1 : ((k : Int) / 10 == 0) = true := beq_iff_eq.2 (by omega)
      have HE : Hid (ns = t) := Lib.hid (by
        rw [← HT.out, HD.out, decD_low h10, ← HNS.out]
        have : u = (k : Int) := by have := HU.out; omega
        rw [this]
        rfl)
      go_wp2
      go_ret
      rw [HE.out]
      exact ⟨rfl, BR.out.alloc BR.out.size _⟩
    · have d1 : ((k : Int) / 10 == 0) = false := beq_eq_false_iff_ne.2 (by omega)
      have HD2 : Hid (decD N = decD (k / 10) ++ ((48 + u) :: out)) := Lib.hid (by
        rw [HD.out, decD_high h10, List.append_assoc]
        have : ((k % 10 : Nat) : Int) = u := by have := HU.out; omega
        rw [this]
        rfl)
      have HQ : Hid ((k : Int) / 10 = ((k / 10 : Nat) : Int)) := Lib.hid (by omega)
      go_wp2
      go_roundw
      case rel => exact ⟨k / 10, (48 + u) :: out, by rw [← HQ.out], by rw [HNS.out], by omega, HD2, Lib.hid (BR.out.alloc BR.out.size _)⟩
      case measure => simp [intOf]; omega
end Go.Proofs.YtcdodpkfhkfnkaaDoor
/- Whose a place is, and what is asked for: the document's; the usual port: the program's. -/
namespace Go.Proofs.YtcdodpkfhkfnkaaDoor
open Go.RowKit
set_option linter.unusedVariables false
set_option linter.unusedSimpArgs false
set_option maxRecDepth 10000

def isSec (sc : ByteArray) : Bool := sc.toList == [104, 116, 116, 112, 115]
def usB (sc : ByteArray) : Int := if isSec sc then 443 else 80
def keyB (sc ho : ByteArray) (po : Nat) : ByteArray := if (po : Int) = usB sc then sc ++ ⟨#[58, 47, 47]⟩ ++ ho else sc ++ ⟨#[58, 47, 47]⟩ ++ ho ++ (⟨#[58]⟩ ++ strL (decD po))
def tgtB (pa qu : ByteArray) (ak : Bool) : ByteArray := if ak then pa ++ ⟨#[63]⟩ ++ qu else pa
set_option maxHeartbeats 1000000 in
theorem usual_at (sc : ByteArray) (v : Int) (hv : usB sc = v) (w : World) :
    Calls Tryd.prog 52 #[.string sc] w fun e w' => e = .returned (.int .i64 v) ∧ w = w' := by
  unfold usB isSec at hv
  cases hb : sc.toList == [104, 116, 116, 112, 115] with
  | true =>
    rw [hb, if_pos rfl] at hv
    subst hv
    go_enter Tryd.func52, Tryd.ntmps52
    go_wp2
    all_goals
      go_ret
      exact ⟨rfl, rfl⟩
  | false =>
    rw [hb, if_neg (by decide)] at hv
    subst hv
    go_enter Tryd.func52, Tryd.ntmps52
    go_wp2
    all_goals
      go_ret
      exact ⟨rfl, rfl⟩
set_option maxHeartbeats 2000000 in
theorem rkey_at (sc ho pa qu t : ByteArray) (po : Nat) (ak : Bool) (ht : keyB sc ho po = t) (h1 : sc.size ≤ 10000) (h2 : ho.size ≤ 10000) (hp : po ≤ 9223372036854775807) (w : World) :
    Calls Tryd.prog 26 #[.agg #[.string sc, .string ho, .int .i64 (po : Int), .string pa, .string qu, .bool ak]] w fun e w' => e = .returned (.string t) ∧ Below w.heap.size w w' := by
  obtain ⟨d, hd⟩ : ∃ d, strL (decD po) = d := ⟨_, rfl⟩
  have hdl : d.size ≤ 19 := by
    rw [← hd, strL_size]
    have h3 : (10 : Nat) ^ (18 + 1) = 10000000000000000000 := by decide
    exact decD_len 18 po (by rw [h3]; omega)
  obtain ⟨a, ha⟩ : ∃ a, sc ++ (⟨#[58, 47, 47]⟩ : ByteArray) = a := ⟨_, rfl⟩
  obtain ⟨b, hb⟩ : ∃ b, a ++ ho = b := ⟨_, rfl⟩
  obtain ⟨c, hc⟩ : ∃ c, (⟨#[58]⟩ : ByteArray) ++ d = c := ⟨_, rfl⟩
  have za : a.size ≤ 10003 := by rw [← ha, ByteArray.size_append]; show sc.size + 3 ≤ 10003; omega
  have zb : b.size ≤ 20003 := by rw [← hb, ByteArray.size_append]; omega
  have zc : c.size ≤ 20 := by rw [← hc, ByteArray.size_append]; show 1 + d.size ≤ 20; omega
  have s1 : (⟨#[58, 47, 47]⟩ : ByteArray).size = 3 := rfl
  have s2 : (⟨#[58]⟩ : ByteArray).size = 1 := rfl
  have A1 : ∀ wx : World, (Op.stringOp .add sc ⟨#[58, 47, 47]⟩).run Tryd.prog wx = .ok (.string a) wx := fun wx => by rw [run_string_add_sum wx _ _ (by omega), ha]
  have A2 : ∀ wx : World, (Op.stringOp .add a ho).run Tryd.prog wx = .ok (.string b) wx := fun wx => by rw [run_string_add_sum wx _ _ (by omega), hb]
  have A3 : ∀ wx : World, (Op.stringOp .add ⟨#[58]⟩ d).run Tryd.prog wx = .ok (.string c) wx := fun wx => by rw [run_string_add_sum wx _ _ (by omega), hc]
  have A4 : ∀ wx : World, (Op.stringOp .add b c).run Tryd.prog wx = .ok (.string (b ++ c)) wx := fun wx => run_string_add_sum wx _ _ (by omega)
  unfold keyB usB isSec at ht
  rw [hd, ha, hb, hc] at ht
  have HD := Lib.hid hd
  clear s1 s2 hd ha hb hc za zb zc hdl h1 h2
  cases hs : sc.toList == [104, 116, 116, 112, 115] with
  | true =>
    rw [hs, if_pos rfl] at ht
    by_cases h : po = 443
    · rw [if_pos (by omega)] at ht
      subst ht
      have hq : (po : Int) = 443 := by omega
      have dp : ((po : Int) == 443) = true := beq_iff_eq.2 hq
      clear h
      go_enter Tryd.func26, Tryd.ntmps26
      go_wp2
      go_ret
      exact ⟨rfl, (Below.refl _ _).alloc (Nat.le_refl _) _⟩
    · rw [if_neg (by omega)] at ht
      have HT := Lib.hid ht
      have hq : ¬ (po : Int) = 443 := by omega
      have dp : ((po : Int) == 443) = false := beq_eq_false_iff_ne.2 hq
      clear ht h
      go_enter Tryd.func26, Tryd.ntmps26
      go_wp2_with fail
      refine (rdigits_at po d HD.out hp _).mono ?_
      rintro e w1 ⟨rfl, hb⟩
      have HB := Lib.hid (((Below.refl w.heap.size w).alloc (Nat.le_refl _) (.cells #[.string sc, .string ho, .int .i64 (po : Int), .string pa, .string qu, .bool ak] 41)).trans (hb.mono (by simp)))
      clear hb
      go_wp2
      go_ret
      rw [HT.out]
      exact ⟨rfl, HB.out⟩
  | false =>
    rw [hs, if_neg (show ¬ (false = true) from by decide)] at ht
    by_cases h : po = 80
    · rw [if_pos (by omega)] at ht
      subst ht
      have hq : (po : Int) = 80 := by omega
      have dp : ((po : Int) == 80) = true := beq_iff_eq.2 hq
      clear h
      go_enter Tryd.func26, Tryd.ntmps26
      go_wp2
      go_ret
      exact ⟨rfl, (Below.refl _ _).alloc (Nat.le_refl _) _⟩
    · rw [if_neg (by omega)] at ht
      have HT := Lib.hid ht
      have hq : ¬ (po : Int) = 80 := by omega
      have dp : ((po : Int) == 80) = false := beq_eq_false_iff_ne.2 hq
      clear ht h
      go_enter Tryd.func26, Tryd.ntmps26
      go_wp2_with fail
      refine (rdigits_at po d HD.out hp _).mono ?_
      rintro e w1 ⟨rfl, hb⟩
      have HB := Lib.hid (((Below.refl w.heap.size w).alloc (Nat.le_refl _) (.cells #[.string sc, .string ho, .int .i64 (po : Int), .string pa, .string qu, .bool ak] 41)).trans (hb.mono (by simp)))
      clear hb
      go_wp2
      go_ret
      rw [HT.out]
      exact ⟨rfl, HB.out⟩
end Go.Proofs.YtcdodpkfhkfnkaaDoor
/- What is asked for: the program's and the document's. -/
namespace Go.Proofs.YtcdodpkfhkfnkaaDoor
open Go.RowKit
set_option linter.unusedVariables false
set_option linter.unusedSimpArgs false
set_option maxRecDepth 10000

set_option maxHeartbeats 1000000 in
theorem target_at (sc ho pa qu t : ByteArray) (po : Int) (ak : Bool) (ht : tgtB pa qu ak = t) (h1 : pa.size ≤ 10000) (h2 : qu.size ≤ 10000) (w : World) :
    Calls Tryd.prog 27 #[.agg #[.string sc, .string ho, .int .i64 po, .string pa, .string qu, .bool ak]] w fun e w' => e = .returned (.string t) ∧ Below w.heap.size w w' := by
  obtain ⟨a, ha⟩ : ∃ a, pa ++ (⟨#[63]⟩ : ByteArray) = a := ⟨_, rfl⟩
  have s1 : (⟨#[63]⟩ : ByteArray).size = 1 := rfl
  have za : a.size ≤ 10001 := by rw [← ha, ByteArray.size_append]; show pa.size + 1 ≤ 10001; omega
  have A1 : ∀ wx : World, (Op.stringOp .add pa ⟨#[63]⟩).run Tryd.prog wx = .ok (.string a) wx := fun wx => by rw [run_string_add_sum wx _ _ (by omega), ha]
  have A2 : ∀ wx : World, (Op.stringOp .add a qu).run Tryd.prog wx = .ok (.string (a ++ qu)) wx := fun wx => run_string_add_sum wx _ _ (by omega)
  unfold tgtB at ht
  rw [ha] at ht
  clear s1 za ha h1 h2
  have HT := Lib.hid ht
  clear ht
  cases ak
  all_goals
    go_enter Tryd.func27, Tryd.ntmps27
    go_wp2
    go_ret
    rw [← HT.out]
    exact ⟨rfl, (Below.refl _ _).alloc (Nat.le_refl _) _⟩
set_option maxHeartbeats 1000000 in
theorem rtarget_at (sc ho pa qu t : ByteArray) (po : Int) (ak : Bool) (ht : tgtB pa qu ak = t) (h1 : pa.size ≤ 10000) (h2 : qu.size ≤ 10000) (w : World) :
    Calls Tryd.prog 28 #[.agg #[.string sc, .string ho, .int .i64 po, .string pa, .string qu, .bool ak]] w fun e w' => e = .returned (.string t) ∧ Below w.heap.size w w' := by
  obtain ⟨a, ha⟩ : ∃ a, pa ++ (⟨#[63]⟩ : ByteArray) = a := ⟨_, rfl⟩
  have s1 : (⟨#[63]⟩ : ByteArray).size = 1 := rfl
  have za : a.size ≤ 10001 := by rw [← ha, ByteArray.size_append]; show pa.size + 1 ≤ 10001; omega
  have A1 : ∀ wx : World, (Op.stringOp .add pa ⟨#[63]⟩).run Tryd.prog wx = .ok (.string a) wx := fun wx => by rw [run_string_add_sum wx _ _ (by omega), ha]
  have A2 : ∀ wx : World, (Op.stringOp .add a qu).run Tryd.prog wx = .ok (.string (a ++ qu)) wx := fun wx => run_string_add_sum wx _ _ (by omega)
  unfold tgtB at ht
  rw [ha] at ht
  clear s1 za ha h1 h2
  have HT := Lib.hid ht
  clear ht
  cases ak
  all_goals
    go_enter Tryd.func28, Tryd.ntmps28
    go_wp2
    go_ret
    rw [← HT.out]
    exact ⟨rfl, (Below.refl _ _).alloc (Nat.le_refl _) _⟩
end Go.Proofs.YtcdodpkfhkfnkaaDoor
namespace Go.Proofs.YtcdodpkfhkfnkaaDoor
open Go.RowKit
set_option linter.unusedVariables false
set_option linter.unusedSimpArgs false
set_option maxRecDepth 10000

/-- Where the first of the signs is; the end, if there is none. -/
def fndI (L : List Int) : List Int → Nat
  | [] => 0
  | c :: t => if c ∈ L then 0 else fndI L t + 1
theorem fndI_drop {L l : List Int} {k : Nat} {c : Int} (h : l[k]? = some c) : fndI L (l.drop k) = if c ∈ L then 0 else fndI L (l.drop (k + 1)) + 1 := by
  obtain ⟨hk, he⟩ := List.getElem?_eq_some_iff.1 h
  rw [List.drop_eq_getElem_cons hk, he]
  rfl
theorem fndI_le (L : List Int) : ∀ l : List Int, fndI L l ≤ l.length
  | [] => Nat.le_refl _
  | c :: t => by
    unfold fndI
    have := fndI_le L t
    split
    · omega
    · rw [List.length_cons]; omega
/-- What is ahead of it has none of them. -/
theorem fndI_ahead (L : List Int) : ∀ l : List Int, ∀ c ∈ l.take (fndI L l), c ∉ L
  | [], c, h => by simp at h
  | x :: t, c, h => by
    unfold fndI at h
    split at h
    · simp at h
    · rename_i hx
      rw [List.take_succ_cons] at h
      rcases List.mem_cons.1 h with rfl | h
      · exact hx
      · exact fndI_ahead L t c h
set_option maxHeartbeats 2000000 in
theorem rfind_at (s L : ByteArray) (n : Nat) (hn : fndI (btL L) (btL s) = n) (hs : s.size ≤ 100000) (hL : L.size ≤ 1000) (w : World) :
    Calls Tryd.prog 56 #[.string s, .string L] w fun e w' => e = .returned (.int .i64 (n : Int)) ∧ w' = w := by
  obtain ⟨l, hl⟩ : ∃ l, btL s = l := ⟨_, rfl⟩
  have hll : l.length = s.size := by rw [← hl, btL_length]
  rw [hl] at hn
  have HL := Lib.hid hl
  have HLL := Lib.hid hll
  have HN := Lib.hid hn
  clear hl hll hn
  go_enter Tryd.func56, Tryd.ntmps56
  go_wp2_with fail
  go_loop [5] (fun i => ∃ k : Nat, k ≤ s.size ∧ i = .int .i64 k ∧ Hid (n = k + fndI (btL L) (l.drop k))) (fun i => s.size - (intOf i).toNat)
  case atStart => exact ⟨0, Nat.zero_le _, rfl, Lib.hid (by rw [List.drop_zero, HN.out]; omega)⟩
  case round =>
    obtain ⟨k, hk, rfl, HK⟩ := hrel
    by_cases hlt : k < s.size
    · have hkd : decide ((k : Int) < (s.size : Int)) = true := decide_eq_true (by omega)
      obtain ⟨c, hc⟩ : ∃ u : Int, (s[k].toNat : Int) = u := ⟨_, rfl⟩
      have HC : Hid (l[k]? = some c) := Lib.hid (by rw [← HL.out, btL_at s k hlt, hc])
      obtain ⟨b, hb⟩ : ∃ b, decide (c ∈ btL L) = b := ⟨_, rfl⟩
      have HB := Lib.hid hb
      clear hb
      go_wp2_with fail
      refine (rin_as L c b HB.out hL _).mono ?_
      rintro e w1 ⟨rfl, hw⟩
      subst w1
      cases b with
      | true =>
        have HE : Hid (k = n) := Lib.hid (by
          rw [HK.out, fndI_drop HC.out, if_pos (of_decide_eq_true HB.out)]
          rfl)
        go_wp2
        go_ret
        rw [← HE.out]
        exact ⟨rfl, rfl⟩
      | false =>
        have HK2 : Hid (n = k + 1 + fndI (btL L) (l.drop (k + 1))) := Lib.hid (by
          have := HK.out
          rw [fndI_drop HC.out, if_neg (of_decide_eq_false HB.out)] at this
          omega)
        go_wp2
        go_round
        case rel => exact ⟨k + 1, by omega, by go_num, HK2⟩
        case measure => simp [intOf]; omega
    · have hkd : decide ((k : Int) < (s.size : Int)) = false := decide_eq_false (by omega)
      have HE : Hid (s.size = n) := Lib.hid (by
        have := HK.out
        rw [List.drop_eq_nil_of_le (by have := HLL.out; omega)] at this
        have h2 : fndI (btL L) [] = 0 := rfl
        omega)
      go_wp2
      go_ret
      rw [← HE.out]
      exact ⟨rfl, rfl⟩
end Go.Proofs.YtcdodpkfhkfnkaaDoor
