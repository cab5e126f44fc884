/- LinesCalm: the walk. -/
import Derived.Test.YtejmhndlfbmpdaaDoorLnCalm
import Derived.Deep.CutBlock
namespace Go.Proofs.YtejmhndlfbmpdaaDoor
open Go Go.RowKit
set_option linter.unusedVariables false
set_option linter.unusedSimpArgs false
set_option maxRecDepth 10000

def mixU (l : List Int) (k : Nat) : List Int := (l.take k).map upI ++ l.drop k
theorem mixU_get {l : List Int} {k : Nat} {c : Int} (h : l[k]? = some c) : (mixU l k)[k]? = some c := by
  have hk := (List.getElem?_eq_some_iff.1 h).1
  unfold mixU
  rw [List.getElem?_append_right (by simp; omega), List.length_map, List.length_take, Nat.min_eq_left (by omega), Nat.sub_self, List.getElem?_drop, Nat.add_zero]
  exact h
theorem mixU_next {l : List Int} {k : Nat} {c : Int} (h : l[k]? = some c) : (mixU l k).set k (upI c) = mixU l (k + 1) := by
  obtain ⟨hk, he⟩ := List.getElem?_eq_some_iff.1 h
  unfold mixU
  rw [List.set_append_right _ _ (by simp; omega), List.length_map, List.length_take, Nat.min_eq_left (by omega), Nat.sub_self, List.drop_eq_getElem_cons hk, List.set_cons_zero, List.take_succ_eq_append_getElem hk, List.map_append, he, List.append_assoc]
  rfl
theorem mixU_same {l : List Int} {k : Nat} {c : Int} (h : l[k]? = some c) (hc : upI c = c) : mixU l k = mixU l (k + 1) := by
  rw [← mixU_next h, hc]
  obtain ⟨h1, h2⟩ := List.getElem?_eq_some_iff.1 (mixU_get h)
  have h3 := List.set_getElem_self h1
  rw [h2] at h3
  exact h3.symm
theorem mixU_len (l : List Int) (k : Nat) : (mixU l k).length = l.length := by
  unfold mixU
  simp
  omega
theorem mixU_all (l : List Int) (k : Nat) (h : l.length ≤ k) : mixU l k = l.map upI := by
  unfold mixU
  rw [List.take_of_length_le h, List.drop_eq_nil_of_le h, List.append_nil]
/-- What the law asks of the sign at a place. -/
def calmI (n i : Nat) (c : Int) : Bool := decide (c = 10) || decide (c = 13) || decide (c = 35) || (decide (i < n) && decide (c = 58))
set_option maxHeartbeats 4000000 in
theorem linesCalm_walk (key value mark : ByteArray) (large : Bool) (w : World) (zk : key.size ≤ 140737488351232) (zv : value.size ≤ 140737488351232) (zm : mark.size ≤ 140737488351232) (_ : True) :
    Calls Tryd.prog 7 #[.string key, .string value, .string mark, .bool large] w fun e w' => e = .returned (.bool true) ∧ Below w.heap.size w w' := by
  go_enter Tryd.func7, Tryd.ntmps7
  by_cases hbig : 300 < key.size + value.size + mark.size
  · have d1 : decide ((300 : Int) < (key.size : Int) + (value.size : Int) + (mark.size : Int)) = true := decide_eq_true (by omega)
    have d2 : decide (300 < key.size + value.size + mark.size) = true := decide_eq_true hbig
    go_wp2_with fail
    refine (awake9 _).mono ?_
    rintro e w1 ⟨rfl, hb⟩
    have B1 := Lib.hid hb
    clear hb
    go_wp2
    go_ret
    exact ⟨rfl, B1.out⟩
  · have d1 : decide ((300 : Int) < (key.size : Int) + (value.size : Int) + (mark.size : Int)) = false := decide_eq_false (by omega)
    have d2 : decide (300 < key.size + value.size + mark.size) = false := decide_eq_false hbig
    have yk : key.size ≤ 300 := by omega
    have yv : value.size ≤ 300 := by omega
    have ym : mark.size ≤ 300 := by omega
    have hsum : key.size + value.size + mark.size ≤ 300 := by omega
    clear zk zv zm
    go_upto_region 4 with fail
    clear d1 d2 hbig
    obtain ⟨all, hall⟩ : ∃ x, key ++ value ++ mark = x := ⟨_, rfl⟩
    have HALL : Hid (btL all = btL key ++ btL value ++ btL mark) := Lib.hid (by rw [← hall, ln_append, ln_append])
    have zall : all.size ≤ 300 := by rw [← hall, ByteArray.size_append, ByteArray.size_append]; exact hsum
    rw [hall]
    clear hall
    go_wp2_with fail
    go_loop [8, 10] (fun r j => ∃ k : Nat, k ≤ all.size ∧ r = .bool false ∧ j = .int .i64 (k : Int) ∧ Hid (∀ i c, i < k → (btL all)[i]? = some c → calmI key.size i c = false)) (fun _ j => all.size - (intOf j).toNat)
    case atStart => exact ⟨0, by omega, rfl, rfl, Lib.hid (fun i c hi => by omega)⟩
    case round =>
      obtain ⟨k, hk, rfl, rfl, HF⟩ := hrel
      by_cases hlt : k < all.size
      · have hkd : decide ((k : Int) < (all.size : Int)) = true := decide_eq_true (by omega)
        have hkd' : decide (k < all.size) = true := decide_eq_true hlt
        obtain ⟨c, hc⟩ : ∃ c : Int, (all[k].toNat : Int) = c := ⟨_, rfl⟩
        have HC : Hid ((btL all)[k]? = some c) := Lib.hid (by rw [ln_at all k hlt, hc])
        obtain ⟨q, hq⟩ : ∃ q, calmI key.size k c = q := ⟨_, rfl⟩
        have HQ := Lib.hid hq
        clear hq
        go_upto_region 7 with fail
        go_cut [64] from 31 to 65 (fun v wx => v = .bool q ∧ wx = w)
        case first =>
          have HQ2 : Hid (q = (decide (c = 10) || decide (c = 13) || decide (c = 35) || (decide (k < key.size) && decide (c = 58)))) := Lib.hid HQ.out.symm
          by_cases h1 : c = 10
          · have e1 : (c == 10) = true := beq_iff_eq.2 h1
            have HE : Hid (q = true) := Lib.hid (by rw [HQ2.out, decide_eq_true h1]; rfl)
            go_wp2
            go_meet
            exact ⟨by rw [HE.out], rfl⟩
          · have e1 : (c == 10) = false := beq_eq_false_iff_ne.2 h1
            by_cases h2 : c = 13
            · have e2 : (c == 13) = true := beq_iff_eq.2 h2
              have HE : Hid (q = true) := Lib.hid (by rw [HQ2.out, decide_eq_true h2, Bool.or_true, Bool.true_or, Bool.true_or])
              go_wp2
              go_meet
              exact ⟨by rw [HE.out], rfl⟩
            · have e2 : (c == 13) = false := beq_eq_false_iff_ne.2 h2
              by_cases h3 : c = 35
              · have e3 : (c == 35) = true := beq_iff_eq.2 h3
                have HE : Hid (q = true) := Lib.hid (by rw [HQ2.out, decide_eq_true h3, Bool.or_true, Bool.true_or])
                go_wp2
                go_meet
                exact ⟨by rw [HE.out], rfl⟩
              · have e3 : (c == 35) = false := beq_eq_false_iff_ne.2 h3
                have HQ3 : Hid (q = (decide (k < key.size) && decide (c = 58))) := Lib.hid (by rw [HQ2.out, decide_eq_false h1, decide_eq_false h2, decide_eq_false h3, Bool.or_false, Bool.or_false, Bool.false_or])
                by_cases h4 : k < key.size
                · have e4 : decide ((k : Int) < (key.size : Int)) = true := decide_eq_true (by omega)
                  have e4' : decide (k < key.size) = true := decide_eq_true h4
                  obtain ⟨r, hr⟩ : ∃ r, (c == 58) = r := ⟨_, rfl⟩
                  have HE : Hid (q = r) := Lib.hid (by rw [HQ3.out, e4', Bool.true_and, ← hr, Bool.eq_iff_iff, decide_eq_true_eq, beq_iff_eq])
                  go_wp2
                  go_meet
                  exact ⟨by rw [HE.out], rfl⟩
                · have e4 : decide ((k : Int) < (key.size : Int)) = false := decide_eq_false (by omega)
                  have e4' : decide (k < key.size) = false := decide_eq_false h4
                  have HE : Hid (q = false) := Lib.hid (by rw [HQ3.out, e4', Bool.false_and])
                  go_wp2
                  go_meet
                  exact ⟨by rw [HE.out], rfl⟩
        case rest =>
          obtain ⟨rfl, he⟩ := hcut
          have he := he.symm
          subst he
          cases q with
          | true =>
            go_wp2_with fail
            refine (awake9 _).mono ?_
            rintro e w1 ⟨rfl, hb⟩
            have B1 := Lib.hid hb
            clear hb
            go_wp2
            go_ret
            exact ⟨rfl, B1.out⟩
          | false =>
            have HN : Hid (∀ i c, i < k + 1 → (btL all)[i]? = some c → calmI key.size i c = false) := Lib.hid (fun i d hi hd => by
              by_cases h : i = k
              · subst h
                rw [HC.out] at hd
                injection hd with hd
                rw [← hd]
                exact HQ.out
              · exact HF.out i d (by omega) hd)
            clear HF HC HQ hc
            go_wp2
            go_round
            case rel => exact ⟨k + 1, by omega, rfl, by go_num, HN⟩
            case measure => simp [intOf]; omega
      · have hkd : decide ((k : Int) < (all.size : Int)) = false := decide_eq_false (by omega)
        have hkd' : decide (k < all.size) = false := decide_eq_false hlt
        have F1 : Hid ((∀ c ∈ btL key, endI c = false ∧ c ≠ 35 ∧ c ≠ 58) ∧ (∀ c ∈ btL value, endI c = false ∧ c ≠ 35) ∧ (∀ c ∈ btL mark, endI c = false)) := Lib.hid (by
          have hal := btL_length all
          have hkl := btL_length key
          have hvl := btL_length value
          have gen : ∀ i c, (btL all)[i]? = some c → calmI key.size i c = false := fun i c hi => HF.out i c (by have := (List.getElem?_eq_some_iff.1 hi).1; omega) hi
          have cl : ∀ i c, calmI key.size i c = false → endI c = false ∧ c ≠ 35 ∧ (i < key.size → c ≠ 58) := fun i c h => by
            unfold calmI at h
            simp only [Bool.or_eq_false_iff, Bool.and_eq_false_iff, decide_eq_false_iff_not] at h
            obtain ⟨⟨⟨a1, a2⟩, a3⟩, a4⟩ := h
            refine ⟨?_, a3, fun hi e => ?_⟩
            · unfold endI
              rw [Bool.or_eq_false_iff, decide_eq_false_iff_not, decide_eq_false_iff_not]
              exact ⟨a1, a2⟩
            · rcases a4 with a4 | a4
              · exact a4 hi
              · exact a4 e
          rw [HALL.out] at gen
          refine ⟨fun c hc => ?_, fun c hc => ?_, fun c hc => ?_⟩
          · obtain ⟨i, hi, he⟩ := List.mem_iff_getElem.1 hc
            have h1 : (btL key ++ btL value ++ btL mark)[i]? = some c := by
              rw [List.getElem?_append_left (by simp only [List.length_append]; omega), List.getElem?_append_left hi, List.getElem?_eq_getElem hi, he]
            obtain ⟨k1, k2, k3⟩ := cl i c (gen i c h1)
            exact ⟨k1, k2, k3 (by omega)⟩
          · obtain ⟨i, hi, he⟩ := List.mem_iff_getElem.1 hc
            have h1 : (btL key ++ btL value ++ btL mark)[key.size + i]? = some c := by
              rw [List.getElem?_append_left (by simp only [List.length_append]; omega), List.getElem?_append_right (by omega), hkl, show key.size + i - key.size = i by omega, List.getElem?_eq_getElem hi, he]
            obtain ⟨k1, k2, k3⟩ := cl _ c (gen _ c h1)
            exact ⟨k1, k2⟩
          · obtain ⟨i, hi, he⟩ := List.mem_iff_getElem.1 hc
            have h1 : (btL key ++ btL value ++ btL mark)[key.size + value.size + i]? = some c := by
              rw [List.getElem?_append_right (by simp only [List.length_append]; omega), List.length_append, hkl, hvl, show key.size + value.size + i - (key.size + value.size) = i by omega, List.getElem?_eq_getElem hi, he]
            exact (cl _ c (gen _ c h1)).1)
        clear HF HALL
        obtain ⟨l, hl⟩ : ∃ l, btL key = l := ⟨_, rfl⟩
        have HL := Lib.hid hl
        have HLL : Hid (l.length = key.size) := Lib.hid (by rw [← hl, btL_length])
        have HB : Hid (Byts l) := Lib.hid (by rw [← hl]; exact btL_byts key)
        have hcv := run_bytes_of_string (P := Tryd.prog) w 9 39 5 key Tryd.underlying9 Tryd.underlying39 Tryd.underlying5
        obtain ⟨cap, hcap⟩ : ∃ c, grownCap w key.size 0 5 = c := ⟨_, rfl⟩
        rw [hcap] at hcv
        clear hcap
        obtain ⟨G, hG⟩ : ∃ G, w.heap.size = G := ⟨_, rfl⟩
        go_upto_region 10 with fail
        refine code_forget (fun w1 => Hid (ByAt w1 G l) ∧ Hid (Below w.heap.size w w1)) ⟨Lib.hid (by rw [← hl, ← hG]; exact ByAt.new w.drew key cap _), Lib.hid ((Below.refl _ _).drew.alloc (Nat.le_refl _) _)⟩ ?_
        rintro w1 ⟨Y1, B1⟩
        clear hcv hl zall hkd hkd' hk hlt
        have HG : Hid (w.heap.size ≤ G) := Lib.hid (Nat.le_of_eq hG)
        clear hG
        obtain ⟨u, hu⟩ : ∃ u : Int → Int, u = (if large = true then upI else id) := ⟨_, rfl⟩
        have HU := Lib.hid hu
        clear hu
        go_upto_block 2 with fail
        go_cut [12] from 68 to 94 (fun _ wx => Hid (ByAt wx G (l.map u)) ∧ Hid (Below w.heap.size w wx))
        case first =>
          cases large with
          | false =>
            have hid : u = id := by rw [HU.out]; rfl
            subst hid
            have Y1 : Hid (ByAt w1 G (l.map id)) := Lib.hid (by rw [List.map_id]; exact Y1.out)
            go_wp2_with fail
            go_loopw [12] (fun i wr => ∃ k : Nat, k ≤ key.size ∧ i = .int .i64 (k : Int) ∧ Hid (ByAt wr G (l.map id)) ∧ Hid (Below w.heap.size w wr)) (fun i _ => key.size - (intOf i).toNat)
            case atStart => exact ⟨0, by omega, rfl, Y1, B1⟩
            case round =>
              obtain ⟨k, hk, rfl, HW, BR⟩ := hrel
              by_cases hlt : k < key.size
              · have hkd : decide ((k : Int) < (key.size : Int)) = true := decide_eq_true (by omega)
                have hkd' : decide (k < key.size) = true := decide_eq_true hlt
                go_wp2
                go_meet
                exact ⟨HW, BR⟩
              · have hkd : decide ((k : Int) < (key.size : Int)) = false := decide_eq_false (by omega)
                have hkd' : decide (k < key.size) = false := decide_eq_false hlt
                go_wp2
                go_meet
                exact ⟨HW, BR⟩
          | true =>
            have hid : u = upI := by rw [HU.out]; rfl
            subst hid
            go_wp2_with fail
            go_loopw [12] (fun i wr => ∃ k : Nat, k ≤ key.size ∧ i = .int .i64 (k : Int) ∧ Hid (ByAt wr G (mixU l k)) ∧ Hid (Below w.heap.size w wr)) (fun i _ => key.size - (intOf i).toNat)
            case atStart => exact ⟨0, by omega, rfl, Y1, B1⟩
            case round =>
              clear Y1 B1
              obtain ⟨k, hk, rfl, HW, BR⟩ := hrel
              by_cases hlt : k < key.size
              · have hkd : decide ((k : Int) < (key.size : Int)) = true := decide_eq_true (by omega)
                have hkd' : decide (k < key.size) = true := decide_eq_true hlt
                obtain ⟨c, hc⟩ : ∃ c, l[k]? = some c := ⟨l[k]'(by have := HLL.out; omega), List.getElem?_eq_getElem _⟩
                have c0 := HW.out.cell k c (mixU_get hc)
                have fr := HW.out.free k (by rw [mixU_len, HLL.out]; exact hlt)
                have lt := HW.out.lt
                have hb := HB.out c (List.mem_of_getElem? hc)
                by_cases h1 : 97 ≤ c
                · have d1 : decide ((97 : Int) ≤ c) = true := decide_eq_true h1
                  by_cases h2 : c ≤ 122
                  · have d2 : decide (c ≤ (122 : Int)) = true := decide_eq_true h2
                    have e2 : IntKind.u8.wrap (c - 32) = c - 32 := by rw [IntKind.wrap_u8]; omega
                    have W2 : Hid (ByAt (wr.setCell ⟨G, k, none⟩ (.int .u8 (c - 32))) G (mixU l (k + 1))) := Lib.hid (by
                      have := HW.out.set k (c - 32)
                      rw [show c - 32 = upI c from by unfold upI; rw [if_pos ⟨h1, h2⟩]] at this ⊢
                      rwa [mixU_next hc] at this)
                    have B2 := Lib.hid (BR.out.setCell (p := ⟨G, k, none⟩) HG.out (.int .u8 (c - 32)))
                    clear hc
                    go_wp2
                    go_roundw
                    case rel => exact ⟨k + 1, by omega, by go_num, W2, B2⟩
                    case measure => simp [intOf]; omega
                  · have d2 : decide (c ≤ (122 : Int)) = false := decide_eq_false h2
                    have W2 : Hid (ByAt wr G (mixU l (k + 1))) := Lib.hid (by rw [← mixU_same hc (by unfold upI; rw [if_neg (by omega)])]; exact HW.out)
                    clear hc
                    go_wp2
                    go_roundw
                    case rel => exact ⟨k + 1, by omega, by go_num, W2, BR⟩
                    case measure => simp [intOf]; omega
                · have d1 : decide ((97 : Int) ≤ c) = false := decide_eq_false h1
                  have W2 : Hid (ByAt wr G (mixU l (k + 1))) := Lib.hid (by rw [← mixU_same hc (by unfold upI; rw [if_neg (by omega)])]; exact HW.out)
                  clear hc
                  go_wp2
                  go_roundw
                  case rel => exact ⟨k + 1, by omega, by go_num, W2, BR⟩
                  case measure => simp [intOf]; omega
              · have hkd : decide ((k : Int) < (key.size : Int)) = false := decide_eq_false (by omega)
                have hkd' : decide (k < key.size) = false := decide_eq_false hlt
                have W2 : Hid (ByAt wr G (l.map upI)) := Lib.hid (by rw [← mixU_all l k (by have := HLL.out; omega)]; exact HW.out)
                go_wp2
                go_meet
                exact ⟨W2, BR⟩
        case rest =>
          obtain ⟨Y2, B2⟩ := hcut
          clear Y1 B1
          have hu : u = upI ∨ u = id := by
            rw [HU.out]
            cases large
            · exact Or.inr rfl
            · exact Or.inl rfl
          have bu : Byts (l.map u) := by
            intro c hc
            obtain ⟨x, hx, rfl⟩ := List.mem_map.1 hc
            have := HB.out x hx
            rcases hu with rfl | rfl
            · unfold upI
              split <;> omega
            · exact this
          obtain ⟨ks, hks⟩ : ∃ t, strL (l.map u) = t := ⟨_, rfl⟩
          have bks : btL ks = l.map u := by rw [← hks, btL_strL bu]
          have zks : ks.size = key.size := by rw [← hks, strL_size, List.length_map, HLL.out]
          obtain ⟨tA, htA⟩ : ∃ t, (⟨#[120, 58, 121, 10]⟩ : ByteArray) ++ key ++ (⟨#[58]⟩ : ByteArray) ++ value = t := ⟨_, rfl⟩
          obtain ⟨tB, htB⟩ : ∃ t, (⟨#[120, 58, 121, 13, 10, 13, 10, 32, 9]⟩ : ByteArray) ++ ks ++ (⟨#[32, 58, 32, 9]⟩ : ByteArray) ++ value ++ (⟨#[32, 32, 35]⟩ : ByteArray) ++ mark ++ (⟨#[10, 10]⟩ : ByteArray) = t := ⟨_, rfl⟩
          have s1 : (⟨#[120, 58, 121, 10]⟩ : ByteArray).size = 4 := rfl
          have s2 : (⟨#[58]⟩ : ByteArray).size = 1 := rfl
          have s3 : (⟨#[120, 58, 121, 13, 10, 13, 10, 32, 9]⟩ : ByteArray).size = 9 := rfl
          have s4 : (⟨#[32, 58, 32, 9]⟩ : ByteArray).size = 4 := rfl
          have s5 : (⟨#[32, 32, 35]⟩ : ByteArray).size = 3 := rfl
          have s6 : (⟨#[10, 10]⟩ : ByteArray).size = 2 := rfl
          have zA : tA.size ≤ 100000 := by rw [← htA]; simp only [ByteArray.size_append]; omega
          have zB : tB.size ≤ 100000 := by rw [← htB]; simp only [ByteArray.size_append]; omega
          have bA : btL tA = [120, 58, 121, 10] ++ l ++ [58] ++ btL value := by rw [← htA]; simp only [ln_append]; rw [HL.out]; rfl
          have bB : btL tB = [120, 58, 121, 13, 10, 13, 10, 32, 9] ++ l.map u ++ [32, 58, 32, 9] ++ btL value ++ [32, 32, 35] ++ btL mark ++ [10, 10] := by rw [← htB]; simp only [ln_append]; rw [bks]; rfl
          obtain ⟨f1, f2, f3⟩ := F1.out
          rw [HL.out] at f1
          have hcalm := lines_calm (key := l) (value := btL value) (mark := btL mark) u hu (fun h => (f1 58 h).2.2 rfl) (fun h => (f1 35 h).2.1 rfl) (fun h => (f2 35 h).2 rfl) (fun c hc => (f1 c hc).1) (fun c hc => (f2 c hc).1) f3 (by rw [HLL.out, btL_length, btL_length]; exact hsum)
          rw [← bA, ← bB] at hcalm
          have hle := lines_len (btL tA)
          obtain ⟨L, hL⟩ : ∃ L, linesL (btL tA) = L := ⟨_, rfl⟩
          have PA := Lib.hid (fun W : World => lparse_at tA zA L hL W trivial)
          have PB := Lib.hid (fun W : World => lparse_at tB zB L (by rw [hcalm]; exact hL) W trivial)
          rw [hL] at hle
          obtain ⟨n, hn⟩ : ∃ n, L.length = n := ⟨_, rfl⟩
          have HN := Lib.hid hn
          have n1 : n ≤ 5000 := by omega
          have HKS : Hid (strL (l.map u) = ks) := Lib.hid hks
          clear hle hL hn hcalm f1 f2 f3 bA bB zA zB bks hks bu hu F1
          go_wp2_with fail
          refine (PA.out _).mono ?_
          rintro e w2 ⟨xa, xc, rfl, ho, hb⟩
          have HX := Lib.hid (rdLn_own ho rfl)
          have Y3 := Lib.hid (Y2.out.later hb)
          have B3 := Lib.hid (B2.out.trans (hb.mono B2.out.size))
          have hcv := (Y3.out.rd).text (P := Tryd.prog) 39 5 9 Tryd.underlying39 Tryd.underlying5 Tryd.underlying9 (fun _ => Or.inr ⟨_, _, rfl⟩) cap
          rw [List.length_map, HLL.out, HKS.out] at hcv
          clear ho hb Y2 B2
          rw [HN.out]
          go_wp2_with fail
          refine (PB.out _).mono ?_
          rintro e w3 ⟨ya, yc, rfl, ho, hb⟩
          have HX := Lib.hid (HX.out.later hb)
          have HY := Lib.hid (rdLn_own ho rfl)
          have B4 := Lib.hid (B3.out.trans (hb.mono B3.out.size))
          clear ho hb hcv Y3 B3
          rw [HN.out]
          go_wp2_with fail
          go_loopw [8, 15] (fun r j wr => ∃ k : Nat, k ≤ n ∧ r = .bool false ∧ j = .int .i64 (k : Int) ∧ Hid (Below w3.heap.size w3 wr)) (fun _ j _ => n - (intOf j).toNat)
          case atStart => exact ⟨0, by omega, rfl, rfl, Lib.hid (Below.refl _ _)⟩
          case round =>
            obtain ⟨k, hk, rfl, rfl, BR⟩ := hrel
            by_cases hlt : k < n
            · have hkd : decide ((k : Int) < (n : Int)) = true := decide_eq_true (by omega)
              obtain ⟨y, hy⟩ : ∃ y, L[k]? = some y := ⟨L[k]'(by have := HN.out; omega), List.getElem?_eq_getElem _⟩
              obtain ⟨b1, o1, h1, h2⟩ := HX.out.later BR.out
              obtain ⟨b2, o2, h3, h4⟩ := HY.out.later BR.out
              have hne : L ≠ [] := by intro e; rw [e] at hy; simp at hy
              have ea := h1 hne
              have eb := h3 hne
              obtain ⟨c0, c1⟩ := h2 k y hy
              obtain ⟨d0, d1⟩ := h4 k y hy
              subst ea
              subst eb
              have ix0 : (0 : Int) ≤ (k : Int) := by omega
              have ix1 : (k : Int) < (n : Int) := by omega
              clear h2 h4 hy
              go_upto_region 22 with fail
              go_quiet (fail)
              obtain ⟨w5, hw5⟩ : ∃ W, wr.drewN nq = W := ⟨_, rfl⟩
              have B5 : Hid (Below w3.heap.size w3 w5) := Lib.hid (by rw [← hw5]; exact ln_drewN BR.out nq)
              rw [hw5]
              clear hw5 c0 c1 d0 d1 BR
              go_wp2
              go_roundw
              case rel => exact ⟨k + 1, by omega, rfl, by go_num, B5⟩
              case measure => simp [intOf]; omega
            · have hkd : decide ((k : Int) < (n : Int)) = false := decide_eq_false (by omega)
              go_wp2_with fail
              refine (awake9 _).mono ?_
              rintro e w5 ⟨rfl, hb⟩
              have B5 := Lib.hid (B4.out.trans ((BR.out.trans (hb.mono BR.out.size)).mono B4.out.size))
              clear hb
              go_wp2
              go_ret
              exact ⟨rfl, B5.out⟩
end Go.Proofs.YtejmhndlfbmpdaaDoor
