/- UrlAlike: the walk. -/
import Derived.Test.YtcdodpkfhkfnkaaDoorUrAlkM
import Derived.Test.YtcdodpkfhkfnkaaDoorUrEq
import Derived.Test.YtcdodpkfhkfnkaaDoorUrParsesL
import Derived.SizedLaws
namespace Go.Proofs.YtcdodpkfhkfnkaaDoor
open Go.RowKit
set_option linter.unusedVariables false
set_option linter.unusedSimpArgs false
set_option maxRecDepth 10000

theorem hok_next {l : List Int} {k : Nat} {c : Int} (h : ∀ c ∈ l.take k, hok c) (hc : l[k]? = some c) (ho : hok c) : ∀ c ∈ l.take (k + 1), hok c := by
  obtain ⟨hk, he⟩ := List.getElem?_eq_some_iff.1 hc
  rw [List.take_succ_eq_append_getElem hk, he]
  intro x hx
  rcases List.mem_append.1 hx with hx | hx
  · exact h x hx
  · rw [List.mem_singleton.1 hx]; exact ho
theorem no35_next {l : List Int} {k : Nat} {c : Int} (h : (35 : Int) ∉ l.take k) (hc : l[k]? = some c) (ho : c ≠ 35) : (35 : Int) ∉ l.take (k + 1) := by
  obtain ⟨hk, he⟩ := List.getElem?_eq_some_iff.1 hc
  rw [List.take_succ_eq_append_getElem hk, he]
  intro hx
  rcases List.mem_append.1 hx with hx | hx
  · exact h hx
  · exact ho (List.mem_singleton.1 hx).symm
theorem bt_app (a b : ByteArray) : btL (a ++ b) = btL a ++ btL b := by simp [btL]
/-- How far the letters have been made large. -/
structure Big (l m : List Int) (k : Nat) : Prop where
  len : m.length = l.length
  low : m.map lwI = l
  rest : ∀ j c, k ≤ j → l[j]? = some c → m[j]? = some c
theorem Big.start {l : List Int} (h : ∀ c ∈ l, hok c) : Big l l 0 := ⟨rfl, by
  conv => rhs; rw [← List.map_id l]
  exact List.map_congr_left fun c hc => lw_of_hok (h c hc), fun j c _ h => h⟩
theorem Big.set {l m : List Int} {k : Nat} {c : Int} (h : Big l m k) (hc : l[k]? = some c) (h1 : 97 ≤ c) (h2 : c ≤ 122) : Big l (m.set k (c - 32)) (k + 1) := by
  have hm := h.rest k c (Nat.le_refl _) hc
  refine ⟨by rw [List.length_set, h.len], ?_, fun j d hj hd => ?_⟩
  · rw [List.map_set, h.low]
    have : lwI (c - 32) = c := by unfold lwI; rw [if_pos (by omega)]; omega
    rw [this]
    obtain ⟨hk, he⟩ := List.getElem?_eq_some_iff.1 hc
    rw [← he]
    exact List.set_getElem_self hk
  · rw [List.getElem?_set_ne (by omega)]
    exact h.rest j d (by omega) hd
theorem Big.next {l m : List Int} {k : Nat} (h : Big l m k) : Big l m (k + 1) := ⟨h.len, h.low, fun j c hj hc => h.rest j c (by omega) hc⟩
set_option maxHeartbeats 4000000 in
theorem urlAlike_walk (host rest mark : ByteArray) (large : Bool) (w : World) (z1 : host.size ≤ 140737488351232) (z2 : rest.size ≤ 140737488351232) (z3 : mark.size ≤ 140737488351232) (hT : TabsU w) :
    Calls Tryd.prog 10 #[.string host, .string rest, .string mark, .bool large] w fun e w' => e = .returned (.bool true) ∧ Below w.heap.size w w' := by
  have HT := Lib.hid hT
  clear hT
  have s0 : (0 : Int) ≤ (host.size : Int) + (rest.size : Int) := by omega
  by_cases h : 200 < host.size + rest.size + mark.size
  · have d : decide ((200 : Int) < (host.size : Int) + (rest.size : Int) + (mark.size : Int)) = true := decide_eq_true (by omega)
    have dn : decide (200 < host.size + rest.size + mark.size) = true := decide_eq_true h
    go_enter Tryd.func10, Tryd.ntmps10
    go_wp2_with fail
    refine (awake_at _ HT.out).mono ?_
    rintro e wq ⟨rfl, hbq⟩
    have BQ := Lib.hid (hbq)
    clear hbq
    go_wp2
    go_ret
    exact ⟨rfl, BQ.out⟩
  · have d : decide ((200 : Int) < (host.size : Int) + (rest.size : Int) + (mark.size : Int)) = false := decide_eq_false (by omega)
    have dn : decide (200 < host.size + rest.size + mark.size) = false := decide_eq_false h
    have zs : host.size + rest.size + mark.size ≤ 200 := by omega
    go_enter Tryd.func10, Tryd.ntmps10
    go_wp2_with fail
    clear h d dn
    go_loop [9] (fun i => ∃ k : Nat, k ≤ rest.size ∧ i = .int .i64 (k : Int) ∧ Hid ((35 : Int) ∉ (btL rest).take k)) (fun i => rest.size - (intOf i).toNat)
    case atStart => exact ⟨0, Nat.zero_le _, rfl, Lib.hid (by simp)⟩
    case round =>
      obtain ⟨k, hk, rfl, HK⟩ := hrel
      by_cases hlt : k < rest.size
      · have hkd : decide ((k : Int) < (rest.size : Int)) = true := decide_eq_true (by omega)
        obtain ⟨c, hc⟩ : ∃ c : Int, (rest[k].toNat : Int) = c := ⟨_, rfl⟩
        have HC : Hid ((btL rest)[k]? = some c) := Lib.hid (by rw [btL_at rest k hlt, hc])
        by_cases h35 : c = 35
        · have d35 : (c == 35) = true := beq_iff_eq.2 h35
          clear h35
          go_wp2_with fail
          refine (awake_at _ HT.out).mono ?_
          rintro e wq ⟨rfl, hbq⟩
          have BQ := Lib.hid (hbq)
          clear hbq
          go_wp2
          go_ret
          exact ⟨rfl, BQ.out⟩
        · have d35 : (c == 35) = false := beq_eq_false_iff_ne.2 h35
          have HK2 : Hid ((35 : Int) ∉ (btL rest).take (k + 1)) := Lib.hid (no35_next HK.out HC.out h35)
          clear h35
          go_wp2
          go_round
          case rel => exact ⟨k + 1, by omega, by go_num, HK2⟩
          case measure => simp [intOf]; omega
      · have hkd : decide ((k : Int) < (rest.size : Int)) = false := decide_eq_false (by omega)
        have HR : Hid ((35 : Int) ∉ btL rest) := Lib.hid (by have := HK.out; rwa [List.take_of_length_le (by simp; omega)] at this)
        clear HK
        go_wp2_with fail
        clear hkd hlt hk
        go_loop [10, 11] (fun i _ => ∃ k : Nat, k ≤ host.size ∧ i = .int .i64 (k : Int) ∧ Hid (∀ c ∈ (btL host).take k, hok c)) (fun i _ => host.size - (intOf i).toNat)
        case atStart => exact ⟨0, Nat.zero_le _, rfl, Lib.hid (by simp)⟩
        case round =>
          obtain ⟨k, hk, rfl, HK⟩ := hrel
          by_cases hlt : k < host.size
          · have hkd : decide ((k : Int) < (host.size : Int)) = true := decide_eq_true (by omega)
            obtain ⟨c, hc⟩ : ∃ c : Int, (host[k].toNat : Int) = c := ⟨_, rfl⟩
            have HC : Hid ((btL host)[k]? = some c) := Lib.hid (by rw [btL_at host k hlt, hc])
            rcases (show (c < 45) ∨ (c = 45) ∨ (c = 46) ∨ (c = 47) ∨ (48 ≤ c ∧ c ≤ 57) ∨ (58 ≤ c ∧ c ≤ 96) ∨ (97 ≤ c ∧ c ≤ 122) ∨ (122 < c) by omega) with hr | hr | hr | hr | hr | hr | hr | hr
            · have t0 : decide (c < (97 : Int)) = true := decide_eq_true (by omega)
              have t1 : decide ((122 : Int) < c) = false := decide_eq_false (by omega)
              have t2 : decide (c < (48 : Int)) = true := decide_eq_true (by omega)
              have t3 : decide ((57 : Int) < c) = false := decide_eq_false (by omega)
              have t4 : (c != 45) = true := bne_iff_ne.2 (by omega)
              have t5 : (c != 46) = true := bne_iff_ne.2 (by omega)
              clear hr
              go_wp2_with fail
              refine (awake_at _ HT.out).mono ?_
              rintro e wq ⟨rfl, hbq⟩
              have BQ := Lib.hid (hbq)
              clear hbq
              go_wp2
              go_ret
              exact ⟨rfl, BQ.out⟩
            · have t0 : decide (c < (97 : Int)) = true := decide_eq_true (by omega)
              have t1 : decide ((122 : Int) < c) = false := decide_eq_false (by omega)
              have t2 : decide (c < (48 : Int)) = true := decide_eq_true (by omega)
              have t3 : decide ((57 : Int) < c) = false := decide_eq_false (by omega)
              have t4 : (c != 45) = false := by rw [bne_eq_false_iff_eq]; omega
              have t5 : (c != 46) = true := bne_iff_ne.2 (by omega)
              have HK2 : Hid (∀ c ∈ (btL host).take (k + 1), hok c) := Lib.hid (hok_next HK.out HC.out (by unfold hok; omega))
              clear hr
              go_wp2
              go_round
              case rel => exact ⟨k + 1, by omega, by go_num, HK2⟩
              case measure => simp [intOf]; omega
            · have t0 : decide (c < (97 : Int)) = true := decide_eq_true (by omega)
              have t1 : decide ((122 : Int) < c) = false := decide_eq_false (by omega)
              have t2 : decide (c < (48 : Int)) = true := decide_eq_true (by omega)
              have t3 : decide ((57 : Int) < c) = false := decide_eq_false (by omega)
              have t4 : (c != 45) = true := bne_iff_ne.2 (by omega)
              have t5 : (c != 46) = false := by rw [bne_eq_false_iff_eq]; omega
              have HK2 : Hid (∀ c ∈ (btL host).take (k + 1), hok c) := Lib.hid (hok_next HK.out HC.out (by unfold hok; omega))
              clear hr
              go_wp2
              go_round
              case rel => exact ⟨k + 1, by omega, by go_num, HK2⟩
              case measure => simp [intOf]; omega
            · have t0 : decide (c < (97 : Int)) = true := decide_eq_true (by omega)
              have t1 : decide ((122 : Int) < c) = false := decide_eq_false (by omega)
              have t2 : decide (c < (48 : Int)) = true := decide_eq_true (by omega)
              have t3 : decide ((57 : Int) < c) = false := decide_eq_false (by omega)
              have t4 : (c != 45) = true := bne_iff_ne.2 (by omega)
              have t5 : (c != 46) = true := bne_iff_ne.2 (by omega)
              clear hr
              go_wp2_with fail
              refine (awake_at _ HT.out).mono ?_
              rintro e wq ⟨rfl, hbq⟩
              have BQ := Lib.hid (hbq)
              clear hbq
              go_wp2
              go_ret
              exact ⟨rfl, BQ.out⟩
            · have t0 : decide (c < (97 : Int)) = true := decide_eq_true (by omega)
              have t1 : decide ((122 : Int) < c) = false := decide_eq_false (by omega)
              have t2 : decide (c < (48 : Int)) = false := decide_eq_false (by omega)
              have t3 : decide ((57 : Int) < c) = false := decide_eq_false (by omega)
              have t4 : (c != 45) = true := bne_iff_ne.2 (by omega)
              have t5 : (c != 46) = true := bne_iff_ne.2 (by omega)
              have HK2 : Hid (∀ c ∈ (btL host).take (k + 1), hok c) := Lib.hid (hok_next HK.out HC.out (by unfold hok; omega))
              clear hr
              go_wp2
              go_round
              case rel => exact ⟨k + 1, by omega, by go_num, HK2⟩
              case measure => simp [intOf]; omega
            · have t0 : decide (c < (97 : Int)) = true := decide_eq_true (by omega)
              have t1 : decide ((122 : Int) < c) = false := decide_eq_false (by omega)
              have t2 : decide (c < (48 : Int)) = false := decide_eq_false (by omega)
              have t3 : decide ((57 : Int) < c) = true := decide_eq_true (by omega)
              have t4 : (c != 45) = true := bne_iff_ne.2 (by omega)
              have t5 : (c != 46) = true := bne_iff_ne.2 (by omega)
              clear hr
              go_wp2_with fail
              refine (awake_at _ HT.out).mono ?_
              rintro e wq ⟨rfl, hbq⟩
              have BQ := Lib.hid (hbq)
              clear hbq
              go_wp2
              go_ret
              exact ⟨rfl, BQ.out⟩
            · have t0 : decide (c < (97 : Int)) = false := decide_eq_false (by omega)
              have t1 : decide ((122 : Int) < c) = false := decide_eq_false (by omega)
              have t2 : decide (c < (48 : Int)) = false := decide_eq_false (by omega)
              have t3 : decide ((57 : Int) < c) = true := decide_eq_true (by omega)
              have t4 : (c != 45) = true := bne_iff_ne.2 (by omega)
              have t5 : (c != 46) = true := bne_iff_ne.2 (by omega)
              have HK2 : Hid (∀ c ∈ (btL host).take (k + 1), hok c) := Lib.hid (hok_next HK.out HC.out (by unfold hok; omega))
              clear hr
              go_wp2
              go_round
              case rel => exact ⟨k + 1, by omega, by go_num, HK2⟩
              case measure => simp [intOf]; omega
            · have t0 : decide (c < (97 : Int)) = false := decide_eq_false (by omega)
              have t1 : decide ((122 : Int) < c) = true := decide_eq_true (by omega)
              have t2 : decide (c < (48 : Int)) = false := decide_eq_false (by omega)
              have t3 : decide ((57 : Int) < c) = true := decide_eq_true (by omega)
              have t4 : (c != 45) = true := bne_iff_ne.2 (by omega)
              have t5 : (c != 46) = true := bne_iff_ne.2 (by omega)
              clear hr
              go_wp2_with fail
              refine (awake_at _ HT.out).mono ?_
              rintro e wq ⟨rfl, hbq⟩
              have BQ := Lib.hid (hbq)
              clear hbq
              go_wp2
              go_ret
              exact ⟨rfl, BQ.out⟩
          · have hkd : decide ((k : Int) < (host.size : Int)) = false := decide_eq_false (by omega)
            have HH : Hid (∀ c ∈ btL host, hok c) := Lib.hid (by have := HK.out; rwa [List.take_of_length_le (by simp; omega)] at this)
            obtain ⟨l, hl⟩ : ∃ l, btL host = l := ⟨_, rfl⟩
            have HL := Lib.hid hl
            have hll : l.length = host.size := by rw [← hl, btL_length]
            have HLL := Lib.hid hll
            have hcv := run_bytes_of_string (P := Tryd.prog) w 9 37 5 host Tryd.underlying9 Tryd.underlying37 Tryd.underlying5
            obtain ⟨cap, hcap⟩ : ∃ c, grownCap w host.size 0 5 = c := ⟨_, rfl⟩
            rw [hcap] at hcv
            clear HK hll hcap
            go_upto_region 15 with fail
            refine code_forget (fun w1 => Hid (ByAt w1 w.heap.size l) ∧ Hid (Below w.heap.size w w1)) ⟨Lib.hid (by rw [← hl]; exact ByAt.new w.drew host cap _), Lib.hid ((Below.refl _ _).drew.alloc (Nat.le_refl _) _)⟩ ?_
            rintro w1 ⟨b1, l1⟩
            clear hcv hl hkd hlt hk
            go_wp2_with fail
            go_loopw [13] (fun i wr => ∃ (k : Nat) (m : List Int), k ≤ host.size ∧ i = .int .i64 (k : Int) ∧ Hid (ByAt wr w.heap.size m) ∧ Hid (Below w.heap.size w wr) ∧ Hid (Big l m k)) (fun i _ => host.size - (intOf i).toNat)
            case atStart => exact ⟨0, l, Nat.zero_le _, rfl, b1, l1, Lib.hid (Big.start (by rw [← HL.out]; exact HH.out))⟩
            case round =>
              clear b1 l1
              obtain ⟨k, m, hk, rfl, HW, BR, HG⟩ := hrel
              by_cases hlt : k < host.size
              · have hkd : decide ((k : Int) < (host.size : Int)) = true := decide_eq_true (by omega)
                obtain ⟨c, hc⟩ : ∃ c, l[k]? = some c := ⟨l[k]'(by have := HLL.out; omega), List.getElem?_eq_getElem _⟩
                have HC := Lib.hid hc
                have c0 := HW.out.cell k c (HG.out.rest k c (Nat.le_refl _) hc)
                have fr := HW.out.free k (by rw [HG.out.len, HLL.out]; exact hlt)
                have lt := HW.out.lt
                have ho : hok c := HH.out c (by rw [HL.out]; exact List.mem_of_getElem? hc)
                unfold hok at ho
                clear hc
                by_cases h1 : 97 ≤ c
                · have d1 : decide ((97 : Int) ≤ c) = true := decide_eq_true h1
                  have h2 : c ≤ 122 := by omega
                  have d2 : decide (c ≤ (122 : Int)) = true := decide_eq_true h2
                  have e2 : IntKind.u8.wrap (c - 32) = c - 32 := by rw [IntKind.wrap_u8]; omega
                  have W2 : Hid (ByAt (wr.setCell ⟨w.heap.size, k, none⟩ (.int .u8 (c - 32))) w.heap.size (m.set k (c - 32))) := Lib.hid (HW.out.set k (c - 32))
                  have B2 := Lib.hid (BR.out.setCell (p := ⟨w.heap.size, k, none⟩) (show w.heap.size ≤ w.heap.size from Nat.le_refl _) (.int .u8 (c - 32)))
                  have G2 := Lib.hid (HG.out.set HC.out h1 h2)
                  have G3 := Lib.hid HG.out.next
                  have km : (k : Int) % 2 = ((k % 2 : Nat) : Int) := by omega
                  clear ho
                  cases large with
                  | true =>
                    go_wp2
                    go_roundw
                    case rel => exact ⟨k + 1, m.set k (c - 32), by omega, by go_num, W2, B2, G2⟩
                    case measure => simp [intOf]; omega
                  | false =>
                    rcases Nat.mod_two_eq_zero_or_one k with hp | hp
                    · have kp : (k : Int) % 2 = 0 := by omega
                      have kq : ((k : Int) % 2 == 1) = false := beq_eq_false_iff_ne.2 (by omega)
                      clear hp km
                      go_wp2
                      go_roundw
                      case rel => exact ⟨k + 1, m, by omega, by go_num, HW, BR, G3⟩
                      case measure => simp [intOf]; omega
                    · have kp : (k : Int) % 2 = 1 := by omega
                      have kq : ((k : Int) % 2 == 1) = true := beq_iff_eq.2 kp
                      clear hp km
                      go_wp2
                      go_roundw
                      case rel => exact ⟨k + 1, m.set k (c - 32), by omega, by go_num, W2, B2, G2⟩
                      case measure => simp [intOf]; omega
                · have d1 : decide ((97 : Int) ≤ c) = false := decide_eq_false h1
                  have G3 := Lib.hid HG.out.next
                  clear ho
                  go_wp2
                  go_roundw
                  case rel => exact ⟨k + 1, m, by omega, by go_num, HW, BR, G3⟩
                  case measure => simp [intOf]; omega
              · have hkd : decide ((k : Int) < (host.size : Int)) = false := decide_eq_false (by omega)
                have hrd := HW.out.rd
                have HAK : Hid (Alk l m (btL rest)) := Lib.hid ⟨fun c hc => HH.out c (by rw [HL.out]; exact hc), HG.out.low, HR.out⟩
                obtain ⟨hb, hhb⟩ : ∃ v, strL m = v := ⟨_, rfl⟩
                have hbs : hb.size = host.size := by rw [← hhb, strL_size, HG.out.len, HLL.out]
                have hbm : Byts m := by
                  intro c hc
                  have := HAK.out.h (lwI c) (by rw [← HAK.out.b]; exact List.mem_map.2 ⟨c, hc, rfl⟩)
                  unfold hok lwI at this
                  split at this <;> omega
                have hcv : ∀ W : World, Below wr.heap.size wr W → (convert 37 9 (.slice (some ⟨w.heap.size, 0, none⟩) host.size cap)).run Tryd.prog W = .ok (.string hb) W := fun W hW => by
                  have := (hrd.later hW).text (P := Tryd.prog) 37 5 9 Tryd.underlying37 Tryd.underlying5 Tryd.underlying9 (fun _ => Or.inr ⟨_, _, rfl⟩) cap
                  rw [HG.out.len, HLL.out, hhb] at this
                  exact this
                have HCV := Lib.hid hcv
                obtain ⟨T1, hT1⟩ : ∃ v, (⟨#[104, 116, 116, 112, 115, 58, 47, 47]⟩ : ByteArray) ++ host = v := ⟨_, rfl⟩
                obtain ⟨T2, hT2⟩ : ∃ v, T1 ++ (⟨#[47]⟩ : ByteArray) = v := ⟨_, rfl⟩
                obtain ⟨T3, hT3⟩ : ∃ v, T2 ++ rest = v := ⟨_, rfl⟩
                obtain ⟨R1, hR1⟩ : ∃ v, (⟨#[104, 84, 84, 112, 115, 58, 47, 47]⟩ : ByteArray) ++ hb = v := ⟨_, rfl⟩
                obtain ⟨R2, hR2⟩ : ∃ v, R1 ++ (⟨#[58, 52, 52, 51, 47]⟩ : ByteArray) = v := ⟨_, rfl⟩
                obtain ⟨R3, hR3⟩ : ∃ v, R2 ++ rest = v := ⟨_, rfl⟩
                obtain ⟨R4, hR4⟩ : ∃ v, R3 ++ (⟨#[35]⟩ : ByteArray) = v := ⟨_, rfl⟩
                obtain ⟨R5, hR5⟩ : ∃ v, R4 ++ mark = v := ⟨_, rfl⟩
                have y1 : T1.size = 8 + host.size := by rw [← hT1, ByteArray.size_append]; rfl
                have y2 : T2.size = 9 + host.size := by rw [← hT2, ByteArray.size_append, y1]; show 8 + host.size + 1 = _; omega
                have r1 : R1.size = 8 + host.size := by rw [← hR1, ByteArray.size_append, hbs]; rfl
                have r2 : R2.size = 13 + host.size := by rw [← hR2, ByteArray.size_append, r1]; show 8 + host.size + 5 = _; omega
                have r3 : R3.size = 13 + host.size + rest.size := by rw [← hR3, ByteArray.size_append, r2]
                have r4 : R4.size = 14 + host.size + rest.size := by rw [← hR4, ByteArray.size_append, r3]; show 13 + host.size + rest.size + 1 = _; omega
                have l8 : (⟨#[104, 116, 116, 112, 115, 58, 47, 47]⟩ : ByteArray).size = 8 := rfl
                have l8' : (⟨#[104, 84, 84, 112, 115, 58, 47, 47]⟩ : ByteArray).size = 8 := rfl
                have l1' : (⟨#[47]⟩ : ByteArray).size = 1 := rfl
                have l5' : (⟨#[58, 52, 52, 51, 47]⟩ : ByteArray).size = 5 := rfl
                have l1'' : (⟨#[35]⟩ : ByteArray).size = 1 := rfl
                have A1 : ∀ wx : World, (Op.stringOp .add ⟨#[104, 116, 116, 112, 115, 58, 47, 47]⟩ host).run Tryd.prog wx = .ok (.string T1) wx := fun wx => by rw [run_string_add_sum wx _ _ (by omega), hT1]
                have A2 : ∀ wx : World, (Op.stringOp .add T1 ⟨#[47]⟩).run Tryd.prog wx = .ok (.string T2) wx := fun wx => by rw [run_string_add_sum wx _ _ (by omega), hT2]
                have A3 : ∀ wx : World, (Op.stringOp .add T2 rest).run Tryd.prog wx = .ok (.string T3) wx := fun wx => by rw [run_string_add_sum wx _ _ (by omega), hT3]
                have A4 : ∀ wx : World, (Op.stringOp .add ⟨#[104, 84, 84, 112, 115, 58, 47, 47]⟩ hb).run Tryd.prog wx = .ok (.string R1) wx := fun wx => by rw [run_string_add_sum wx _ _ (by omega), hR1]
                have A5 : ∀ wx : World, (Op.stringOp .add R1 ⟨#[58, 52, 52, 51, 47]⟩).run Tryd.prog wx = .ok (.string R2) wx := fun wx => by rw [run_string_add_sum wx _ _ (by omega), hR2]
                have A6 : ∀ wx : World, (Op.stringOp .add R2 rest).run Tryd.prog wx = .ok (.string R3) wx := fun wx => by rw [run_string_add_sum wx _ _ (by omega), hR3]
                have A7 : ∀ wx : World, (Op.stringOp .add R3 ⟨#[35]⟩).run Tryd.prog wx = .ok (.string R4) wx := fun wx => by rw [run_string_add_sum wx _ _ (by omega), hR4]
                have A8 : ∀ wx : World, (Op.stringOp .add R4 mark).run Tryd.prog wx = .ok (.string R5) wx := fun wx => by rw [run_string_add_sum wx _ _ (by omega), hR5]
                have hsame : parI (btL R5) = parI (btL T3) := by
                  have h1 := alike_same (M := btL mark) HAK.out (by rw [HLL.out, btL_length, btL_length]; exact zs)
                  have f1 : btL T3 = [104, 116, 116, 112, 115, 58, 47, 47] ++ l ++ [47] ++ btL rest := by
                    rw [← hT3, ← hT2, ← hT1, bt_app, bt_app, bt_app, HL.out]; rfl
                  have f2 : btL R5 = [104, 84, 84, 112, 115, 58, 47, 47] ++ m ++ [58, 52, 52, 51, 47] ++ btL rest ++ [35] ++ btL mark := by
                    rw [← hR5, ← hR4, ← hR3, ← hR2, ← hR1, bt_app, bt_app, bt_app, bt_app, bt_app, ← hhb, btL_strL hbm]; rfl
                  rw [f1, f2, h1]
                obtain ⟨va, vb, vc, vd, vp, ve, vk, hv⟩ := prV_form (parI (btL T3))
                have C1 : Hid (∀ W : World, TabsU W → Calls Tryd.prog 22 #[.string T3] W fun e w' => e = .returned (.tuple #[.agg #[.string va, .string vb, .int .i64 vp, .string vc, .string vd, .bool vk], .int .i64 ve]) ∧ Below W.heap.size W w') := Lib.hid (fun W hW => by
                  have := parse_any T3 _ rfl W hW
                  rw [hv] at this
                  exact this)
                have C2 : Hid (∀ W : World, TabsU W → Calls Tryd.prog 22 #[.string R5] W fun e w' => e = .returned (.tuple #[.agg #[.string va, .string vb, .int .i64 vp, .string vc, .string vd, .bool vk], .int .i64 ve]) ∧ Below W.heap.size W w') := Lib.hid (fun W hW => by
                  have := parse_any R5 _ rfl W hW
                  rw [hsame, hv] at this
                  exact this)
                have HEQ := url_same va vb vc vd vp vk
                have T0 := Lib.hid (HT.out.later BR.out)
                clear hhb hbs hbm hcv hT1 hT2 hT3 hR1 hR2 hR3 hR4 hR5 y1 y2 r1 r2 r3 r4 l8 l8' l1' l5' l1'' hsame hv hrd HG HW HAK HR HH
                go_wp2_with fail
                refine (C1.out _ T0.out).mono ?_
                rintro e w3 ⟨rfl, hb3⟩
                have B3 := Lib.hid (BR.out.trans (hb3.mono BR.out.size))
                have T3' := Lib.hid (T0.out.later hb3)
                have cv1 := HCV.out (w3.alloc (.cells #[.string va, .string vb, .int .i64 vp, .string vc, .string vd, .bool vk] 41)) (hb3.alloc hb3.size _)
                clear hb3
                obtain ⟨g, hg⟩ : ∃ g, w3.heap.size = g := ⟨_, rfl⟩
                go_wp2_with fail
                refine calls_forget (fun w4 => Hid (Box w4 g #[.string va, .string vb, .int .i64 vp, .string vc, .string vd, .bool vk] 41) ∧ Hid (TabsU w4) ∧ Hid (Below w.heap.size w w4)) ⟨Lib.hid (box_new_at hg.symm), Lib.hid (T3'.out.later ((Below.refl _ _).alloc (Nat.le_refl _) _)), Lib.hid (B3.out.alloc B3.out.size _)⟩ ?_
                clear hg cv1
                rintro w4 ⟨X4, T4, B4⟩
                clear B3 T3'
                refine (C2.out _ T4.out).mono ?_
                rintro e w5 ⟨rfl, hb5⟩
                have X5 := Lib.hid (X4.out.later hb5)
                have T5 := Lib.hid (T4.out.later hb5)
                have B5 := Lib.hid (B4.out.trans (hb5.mono B4.out.size))
                clear hb5 X4 T4 B4
                obtain ⟨g2, hg2⟩ : ∃ g2, w5.heap.size = g2 := ⟨_, rfl⟩
                go_wp2_with fail
                refine calls_forget (fun w6 => Hid (Box w6 g #[.string va, .string vb, .int .i64 vp, .string vc, .string vd, .bool vk] 41) ∧ Hid (Box w6 g2 #[.string va, .string vb, .int .i64 vp, .string vc, .string vd, .bool vk] 41) ∧ Hid (TabsU w6) ∧ Hid (Below w.heap.size w w6)) ⟨Lib.hid (X5.out.alloc _), Lib.hid (box_new_at hg2.symm), Lib.hid (T5.out.later ((Below.refl _ _).alloc (Nat.le_refl _) _)), Lib.hid (B5.out.alloc B5.out.size _)⟩ ?_
                clear hg2
                rintro w6 ⟨X6, Y6, T6, B6⟩
                clear X5 T5 B5
                refine (awake_at _ T6.out).mono ?_
                rintro e w7 ⟨rfl, hb7⟩
                have X7 := Lib.hid (X6.out.later hb7)
                have Y7 := Lib.hid (Y6.out.later hb7)
                have B7 := Lib.hid (B6.out.trans (hb7.mono B6.out.size))
                clear hb7 X6 Y6 T6 B6
                obtain ⟨⟨c0, c1, c2, c3, c4, c5⟩, _, lt⟩ := box6 X7.out
                obtain ⟨⟨e0, e1, e2, e3, e4, e5⟩, _, lt2⟩ := box6 Y7.out
                go_wp2
                go_ret
                exact ⟨rfl, B7.out⟩
end Go.Proofs.YtcdodpkfhkfnkaaDoor
