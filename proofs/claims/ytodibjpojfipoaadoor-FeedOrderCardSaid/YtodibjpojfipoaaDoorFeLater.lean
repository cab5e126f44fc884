/- FeedLater: what is told in seconds. -/
import Derived.Test.YtodibjpojfipoaaDoorFeMost
namespace Go.Proofs.YtodibjpojfipoaaDoor
open Go Go.RowKit
set_option linter.unusedVariables false
set_option linter.unusedSimpArgs false
set_option maxRecDepth 10000

theorem rdw_keep : ∀ l : List Int, (∀ c ∈ l, blI c = false) → rdw l = l
  | [], _ => rfl
  | c :: t, h => by
    have e := rdw_keep t (fun x hx => h x (by simp [hx]))
    unfold rdw
    rw [if_neg (fun hh => by rw [h c (by simp)] at hh; exact absurd hh.2 (by decide)), e]
theorem trL_keep {l : List Int} (h : ∀ c ∈ l, blI c = false) : trL l = l := by
  unfold trL
  rw [rdw_keep l h]
  cases l with
  | nil => rfl
  | cons c t => rw [List.dropWhile_cons, if_neg (by rw [h c (by simp)]; decide)]
structure DecR (l : List Int) (k x : Nat) : Prop where
  len : l.length = k
  dig : ∀ c ∈ l, 48 ≤ c ∧ c ≤ 57
  val : ∀ v : Nat, v * 10 ^ k + x < 4611686018427387903 → dgN (v : Int) l = some ((v * 10 ^ k + x : Nat) : Int)
theorem decR_nil : DecR [] 0 0 := ⟨rfl, (fun c h => by cases h), (fun v _ => by simp [dgN])⟩
theorem decR_cons {l : List Int} {k x : Nat} (h : DecR l k x) {d : Nat} (hd : d < 10) : DecR ((48 + (d : Int)) :: l) (k + 1) (d * 10 ^ k + x) := by
  refine ⟨by rw [List.length_cons, h.len], fun c hc => ?_, fun v hv => ?_⟩
  · rcases List.mem_cons.1 hc with rfl | hc
    · omega
    · exact h.dig c hc
  · have e1 : v * (10 ^ k * 10) = v * 10 * 10 ^ k := by rw [Nat.mul_comm (10 ^ k) 10, Nat.mul_assoc]
    have e : v * 10 ^ (k + 1) + (d * 10 ^ k + x) = (v * 10 + d) * 10 ^ k + x := by
      rw [Nat.pow_succ, Nat.add_mul, e1]
      omega
    rw [e] at hv ⊢
    have hp : 1 ≤ 10 ^ k := Nat.pow_pos (by decide)
    have hb : v * 10 + d < 4611686018427387903 := by
      have := Nat.le_mul_of_pos_right (v * 10 + d) hp
      omega
    have h1 : fNum (48 + (d : Int)) = true := by simp [fNum]; omega
    have h2 : addI (mulI (v : Int) 10) (48 + (d : Int) - 48) = ((v * 10 + d : Nat) : Int) := by
      unfold addI mulI
      rw [clampI_id (a := (v : Int)) (by omega) (by omega), clampI_id (a := 10) (by omega) (by omega), clampI_id (a := (v : Int) * 10) (by omega) (by omega), clampI_id (a := (v : Int) * 10) (by omega) (by omega), clampI_id (a := 48 + (d : Int) - 48) (by omega) (by omega), clampI_id (by omega) (by omega)]
      omega
    rw [dgN_cons, if_pos h1, h2, h.val _ hv]
theorem decR_dig {l : List Int} {k x : Nat} (h : DecR l k x) (hk : 1 ≤ k) (hx : x < 4611686018427387903) : digP l = ((x : Int), true) := by
  have := h.val 0 (by omega)
  simp at this
  unfold digP
  rw [this]
  have hne : l ≠ [] := fun e => by have := h.len; rw [e] at this; simp at this; omega
  simp [hne]
theorem decR_bl {l : List Int} {k x : Nat} (h : DecR l k x) : ∀ c ∈ l, blI c = false := fun c hc => by
  have := h.dig c hc
  unfold blI
  simp only [Bool.or_eq_false_iff, decide_eq_false_iff_not]
  omega
theorem afterI_u {n s : Int} (n0 : 0 ≤ n) (n1 : n < 8589934592) (s0 : 0 ≤ s) (s1 : s < 4294967296) : afterI n s = min 1099511627776 (n + 1000 * s) := by
  have e : capI n = min n 1099511627776 := by unfold capI; omega
  unfold afterI addI mulI
  rw [e, clampI_id (a := min n 1099511627776) (by omega) (by omega), clampI_id (a := 1000) (by omega) (by omega), clampI_id (a := s) (by omega) (by omega), clampI_id (a := 1000 * s) (by omega) (by omega), clampI_id (a := 1000 * s) (by omega) (by omega), clampI_id (by omega) (by omega)]
  unfold capI
  omega
theorem dec_trim {ns : ByteArray} {K s : Nat} (h : DecR (btL ns) K s) : strL (trL (btL ns)) = ns := by rw [trL_keep (decR_bl h), strL_btL]
theorem retry_dec {ns : ByteArray} {K s : Nat} {now : Int} (h : DecR (btL ns) K s) (hK : 1 ≤ K) (hs : s < 4294967296) (hz : ns.size ≤ 100) (W : World) (hT : TabD W) :
    Calls Tryd.prog 6 #[.string ns, .int .i64 now] W fun e w' => e = .returned (.tuple #[.int .i64 (afterI now (s : Int)), .bool true]) ∧ Below W.heap.size W w' := by
  obtain ⟨Y, hY⟩ := YearIs.some_ (nowD (capI now / 1000)) (nowD_bd _).1 (nowD_bd _).2
  have := fretry_at ns (by omega) now Y hY W hT
  have e : retF Y now (btL (strL (trL (btL ns)))) = some (afterI now (s : Int)) := by
    rw [dec_trim h]
    unfold retF
    rw [decR_dig h hK (by omega), if_pos rfl]
  rw [e] at this
  exact this
def nXm : ByteArray := ⟨#[120, 45, 114, 97, 116, 101, 108, 105, 109, 105, 116, 45, 114, 101, 109, 97, 105, 110, 105, 110, 103]⟩
def nXr : ByteArray := ⟨#[88, 45, 82, 65, 84, 69, 76, 73, 77, 73, 84, 45, 82, 69, 83, 69, 84]⟩
def hsL (ns : ByteArray) : HL := [(nXm, ⟨#[48]⟩), (nXr, ns)]
theorem hsL_rl (ns : ByteArray) : valH kRl (hsL ns) = ByteArray.empty := by
  rw [show valH kRl (hsL ns) = valB kRl [(1, (nXr, ns)), (0, (nXm, ⟨#[48]⟩))] from rfl]
  simp only [valB]
  rw [if_neg (show ¬ lowB nXr = kRl by decide), if_neg (show ¬ lowB nXm = kRl by decide)]
theorem hsL_xm (ns : ByteArray) : valH kXm (hsL ns) = ⟨#[48]⟩ := by
  rw [show valH kXm (hsL ns) = valB kXm [(1, (nXr, ns)), (0, (nXm, ⟨#[48]⟩))] from rfl]
  simp only [valB]
  rw [if_neg (show ¬ lowB nXr = kXm by decide), if_pos (show lowB nXm = kXm by decide)]
  decide
theorem hsL_xr (ns : ByteArray) : valH kXr (hsL ns) = strL (trL (btL ns)) := by
  rw [show valH kXr (hsL ns) = valB kXr [(1, (nXr, ns)), (0, (nXm, ⟨#[48]⟩))] from rfl]
  simp only [valB]
  rw [if_pos (show lowB nXr = kXr by decide)]
theorem hdAt_two {w : World} {b : Nat} {x y x' y' : ByteArray} {t : TypeId} (h : Box w b #[.string x, .string y, .string x', .string y'] t) : HdAt w b 0 [(x, y), (x', y')] := by
  refine ⟨h.lt, fun i z hz => ?_, fun i z hz => ?_⟩
  all_goals
    match i with
    | 0 =>
      have e : (x, y) = z := by simpa using hz
      subst e
      first | exact h.cell 0 | exact h.cell 1
    | 1 =>
      have e : (x', y') = z := by simpa using hz
      subst e
      first | exact h.cell 2 | exact h.cell 3
    | i + 2 => simp at hz
theorem reset_dec {ns : ByteArray} {K s : Nat} {now : Int} (h : DecR (btL ns) K s) (hK : 1 ≤ K) (hs : s < 4294967296) (hz : ns.size ≤ 100) (g : Nat) (W : World) (hA : HdAt W g 0 (hsL ns)) :
    Calls Tryd.prog 7 #[.slice (some ⟨g, 0, none⟩) 2 2, .int .i64 now] W fun e w' => e = .returned (.tuple #[.int .i64 (afterI now (s : Int)), .bool true]) ∧ Below W.heap.size W w' := by
  have hzz : ∀ x ∈ hsL ns, x.1.size ≤ 1000000 ∧ x.2.size ≤ 1000000 := fun x hx => by
    unfold hsL at hx
    rcases List.mem_cons.1 hx with rfl | hx
    · exact ⟨by decide, by decide⟩
    · rcases List.mem_cons.1 hx with rfl | hx
      · exact ⟨(by decide : nXr.size ≤ 1000000), by dsimp only; omega⟩
      · cases hx
  have := freset_at (some ⟨g, 0, none⟩) g 0 2 (hsL ns) (by show 2 ≤ 1000000; decide) hzz now W (fun _ => hA) (fun _ => rfl)
  have e : resO now (hsL ns) = some (afterI now (s : Int)) := by
    have e1 : secO (hsL ns) = some (s : Int) := by
      unfold secO
      rw [hsL_rl, hsL_xm, hsL_xr, dec_trim h, if_neg (by decide)]
      unfold oldF
      rw [decR_dig h hK (by omega), if_pos ⟨by decide, rfl, by decide⟩]
    unfold resO
    rw [e1]
    exact if_neg (by omega)
  rw [e] at this
  exact this
attribute [local go_sem] Oper.semAt_some
set_option maxHeartbeats 4000000 in
theorem feedLater_walk (si ni mi : Int) (w : World) (h0 : (Lit.int .u32 si).wf = true) (h1 : (Lit.int .u32 ni).wf = true) (h2 : (Lit.int .u32 mi).wf = true) (hT : TabD w) :
    Calls Tryd.prog 3 #[.int .u32 si, .int .u32 ni, .int .u32 mi] w fun e w' => e = .returned (.bool true) ∧ Below w.heap.size w w' := by
  have HT := Lib.hid hT
  have s0 : 0 ≤ si ∧ si < 4294967296 := by simp [Lit.wf, IntKind.min, IntKind.max, IntKind.signed, IntKind.bits] at h0; omega
  have n0 : 0 ≤ ni ∧ ni < 4294967296 := by simp [Lit.wf, IntKind.min, IntKind.max, IntKind.signed, IntKind.bits] at h1; omega
  have m0 : 0 ≤ mi ∧ mi < 4294967296 := by simp [Lit.wf, IntKind.min, IntKind.max, IntKind.signed, IntKind.bits] at h2; omega
  obtain ⟨s, rfl⟩ : ∃ s : Nat, si = (s : Int) := ⟨si.toNat, by omega⟩
  have hs : s < 4294967296 := by omega
  clear h0 h1 h2 hT s0
  go_enter Tryd.func3, Tryd.ntmps3
  go_wp2_with fail
  go_loopw [7, 8] (fun t n wr => ∃ (k x m : Nat) (os : ByteArray), t = .string os ∧ n = .int .u32 (m : Int) ∧ m < 4294967296 ∧ os.size ≤ 10 ∧ Hid (DecR (btL os) k x) ∧ Hid (s = m * 10 ^ k + x) ∧ Hid (k = 0 ∨ 1 ≤ m) ∧ Hid (Below w.heap.size w wr)) (fun _ n _ => (intOf n).toNat)
  case atStart => exact ⟨0, 0, s, _, rfl, rfl, hs, by decide, Lib.hid decR_nil, Lib.hid (by simp), Lib.hid (Or.inl rfl), Lib.hid (Below.refl _ _)⟩
  case round =>
    obtain ⟨k, x, m, os, rfl, rfl, hm, hzs, HD, HE, HO, BR⟩ := hrel
    obtain ⟨u, hu⟩ : ∃ u : Nat, m % 10 = u := ⟨_, rfl⟩
    have u1 : u < 10 := by omega
    have hu2 : (m : Int) % 10 = (u : Int) := by omega
    have w1 : IntKind.u32.wrap (48 + (u : Int)) = 48 + (u : Int) := by rw [IntKind.wrap_u32]; omega
    have w2 : IntKind.u8.wrap (48 + (u : Int)) = 48 + (u : Int) := by rw [IntKind.wrap_u8]; omega
    have hcv := ((RdB.new wr [48 + (u : Int)] 5 (0, 0)).drew).text (P := Tryd.prog) 23 5 9 Tryd.underlying23 Tryd.underlying5 Tryd.underlying9 (fun _ => Or.inr ⟨_, _, rfl⟩) 1
    have hcv2 := (RdB.new wr [48 + (u : Int)] 5 (0, 0)).text (P := Tryd.prog) 23 5 9 Tryd.underlying23 Tryd.underlying5 Tryd.underlying9 (fun _ => Or.inr ⟨_, _, rfl⟩) 1
    simp only [List.map_cons, List.map_nil, List.length_cons, List.length_nil, Nat.zero_add] at hcv hcv2
    obtain ⟨pc, hpc⟩ : ∃ x, strL [48 + (u : Int)] = x := ⟨_, rfl⟩
    obtain ⟨ns, hns⟩ : ∃ x, pc ++ os = x := ⟨_, rfl⟩
    have hzp : pc.size = 1 := by rw [← hpc, strL_size]; rfl
    have hbn : btL ns = (48 + (u : Int)) :: btL os := by
      have e1 : btL pc = [48 + (u : Int)] := by rw [← hpc, btL_strL (fun c hc => by rw [List.mem_singleton] at hc; omega)]
      rw [← hns]
      show btL (pc ++ os) = _
      have : btL (pc ++ os) = btL pc ++ btL os := by simp [btL, ByteArray.data_append]
      rw [this, e1]
      rfl
    have HN : Hid (DecR (btL ns) (k + 1) (u * 10 ^ k + x)) := Lib.hid (by rw [hbn]; exact decR_cons HD.out u1)
    have HE2 : Hid (s = m / 10 * 10 ^ (k + 1) + (u * 10 ^ k + x)) := Lib.hid (by
      have e1 : m = m / 10 * 10 + u := by omega
      have e2 : m * 10 ^ k = m / 10 * (10 ^ k * 10) + u * 10 ^ k := by
        conv => lhs; rw [e1]
        rw [Nat.add_mul, Nat.mul_comm (10 ^ k) 10, Nat.mul_assoc]
      rw [HE.out, Nat.pow_succ, e2]
      omega)
    have hkz : k ≤ 9 := by
      rcases HO.out with h | h
      · omega
      · have h1 : 10 ^ k ≤ s := by
          have := Nat.le_mul_of_pos_left (10 ^ k) h
          rw [HE.out]
          omega
        have h2 : ¬ 10 ≤ k := fun h => by
          have := Nat.pow_le_pow_right (n := 10) (by decide) h
          omega
        omega
    have hzn : ns.size ≤ 10 := by
      have := HN.out.len
      rw [btL_length] at this
      omega
    have hadd : ∀ wx : World, (Op.stringOp .add pc os).run Tryd.prog wx = .ok (.string ns) wx := fun wx => by
      rw [run_string_add_sum wx pc os (by omega), hns]
    rw [hpc] at hcv hcv2
    clear hpc hns hzp hu hbn
    by_cases hlt : m < 10
    · have d1 : decide ((m : Int) < 10) = true := decide_eq_true (by omega)
      have HF : Hid (DecR (btL ns) (k + 1) s) := Lib.hid (by
        have e : s = u * 10 ^ k + x := by have := HE2.out; rw [Nat.div_eq_of_lt hlt] at this; omega
        rw [e]
        exact HN.out)
      have HBR := Lib.hid (BR.out.alloc (o := .cells #[.int .u8 (48 + (u : Int))] 5) BR.out.size)
      clear HN HE2 HO HE HD
      go_upto_region 6 with fail
      obtain ⟨wa, hwa⟩ : ∃ W, wr.alloc (.cells #[.int .u8 (48 + (u : Int))] 5) = W := ⟨_, rfl⟩
      rw [hwa] at HBR ⊢
      clear hwa hcv hcv2 BR w1 w2 hadd d1
      have hz100 : ns.size ≤ 100 := by omega
      have RT1 := Lib.hid (fun (W : World) (hW : Below w.heap.size w W) => retry_dec (now := ni) HF.out (by omega) hs hz100 W (HT.out.later hW))
      have RT2 := Lib.hid (fun (W : World) (hW : Below w.heap.size w W) => retry_dec (now := ni + mi) HF.out (by omega) hs hz100 W (HT.out.later hW))
      have RS := Lib.hid (fun (g : Nat) (W : World) (hA : HdAt W g 0 (hsL ns)) => reset_dec (now := ni) HF.out (by omega) hs hz100 g W hA)
      have ea := afterI_u (n := ni) (s := (s : Int)) (by omega) (by omega) (by omega) (by omega)
      have eb := afterI_u (n := ni + mi) (s := (s : Int)) (by omega) (by omega) (by omega) (by omega)
      obtain ⟨A, hA⟩ : ∃ A, afterI ni (s : Int) = A := ⟨_, rfl⟩
      obtain ⟨B, hB⟩ : ∃ B, afterI (ni + mi) (s : Int) = B := ⟨_, rfl⟩
      rw [hA] at RT1 RS ea
      rw [hB] at RT2 eb
      have k1 : decide (ni ≤ A) = true := decide_eq_true (by omega)
      have k2 : decide (A ≤ 1099511627776) = true := decide_eq_true (by omega)
      have k3 : decide (A ≤ B) = true := decide_eq_true (by omega)
      have wn : IntKind.i64.wrap ni = ni := IntWalk.i64_in _ (by omega)
      have wm : IntKind.i64.wrap mi = mi := IntWalk.i64_in _ (by omega)
      obtain ⟨nm, hnm⟩ : ∃ n, ni + mi = n := ⟨_, rfl⟩
      have wnm : IntKind.i64.wrap (ni + mi) = nm := by rw [← hnm]; exact IntWalk.i64_in _ (by omega)
      rw [hnm] at RT2
      have AW := Lib.hid (fun (W : World) (hW : Below w.heap.size w W) => fawake_at W (HT.out.later hW))
      clear hA hB ea eb hnm HF n0 m0 hu2 hm
      go_wp2_with fail
      refine (RT1.out _ HBR.out).mono ?_
      rintro e w1 ⟨rfl, hb⟩
      have HB1 := Lib.hid (HBR.out.trans (hb.mono HBR.out.size))
      clear hb HBR
      go_wp2_with fail
      refine (RT2.out _ HB1.out).mono ?_
      rintro e w2 ⟨rfl, hb⟩
      have HB2 := Lib.hid (HB1.out.trans (hb.mono HB1.out.size))
      clear hb HB1
      go_wp2_with fail
      refine (RS.out w2.heap.size _ (hdAt_two (Box.new w2 _ _))).mono ?_
      rintro e w3 ⟨rfl, hb⟩
      have HB3 := Lib.hid ((HB2.out.alloc HB2.out.size _).trans (hb.mono (HB2.out.alloc HB2.out.size _).size))
      clear hb HB2
      go_wp2_with fail
      refine (AW.out _ HB3.out).mono ?_
      rintro e w4 ⟨rfl, hb⟩
      have HB4 := Lib.hid (HB3.out.trans (hb.mono HB3.out.size))
      clear hb HB3
      go_wp2
      go_ret
      exact ⟨rfl, HB4.out⟩
    · have d1 : decide ((m : Int) < 10) = false := decide_eq_false (by omega)
      have HQ : Hid ((m : Int) / 10 = ((m / 10 : Nat) : Int)) := Lib.hid (by omega)
      go_wp2
      go_roundw
      case rel => exact ⟨k + 1, u * 10 ^ k + x, m / 10, ns, rfl, by rw [← HQ.out], by omega, hzn, HN, HE2, Lib.hid (Or.inr (by omega)), Lib.hid (BR.out.alloc BR.out.size _)⟩
      case measure => simp [intOf]; omega
end Go.Proofs.YtodibjpojfipoaaDoor
