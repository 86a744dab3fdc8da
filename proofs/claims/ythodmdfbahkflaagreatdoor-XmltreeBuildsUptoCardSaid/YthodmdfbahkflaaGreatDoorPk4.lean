/- Layer 2: contracts of shaped (at both its uses), Plain and wordy. | Layer 2: contract of Split. | Layer 2: contracts of keywords (the map), Keyword and Word. -/
import Derived.Test.YthodmdfbahkflaaGreatDoorPk3
import Derived.Test.YthodmdfbahkflaaGreatDoorPk2
import Derived.Lib.ConvBytes
import Derived.Laws.AppendOwn
import Derived.Shelf.RegionOpenPlain
import Derived.Maps.Own
import Derived.Maps.OwnSet
set_option linter.unusedVariables false
set_option linter.unusedSimpArgs false
namespace Go.Proofs.YthodmdfbahkflaaGreatDoor.Names
open Go Go.Proofs.YthodmdfbahkflaaGreatDoor Go.Proofs.YthodmdfbahkflaaGreatDoor.Utf Go.RowKit
set_option maxRecDepth 100000

/-- A text's bytes, as a new slice. -/
theorem conv_text {P : Program} (s : ByteArray) (hs : s.size ≤ 281474976710656) (src dst e : TypeId) (h1 : P.underlying src = some .string) (h2 : P.underlying dst = some (.slice e)) (h3 : P.underlying e = some (.int .u8)) (w : World) :
    ∃ v w', (convert src dst (.string s)).run P w = .ok v w' ∧ Bytes w' v s.data.toList ∧ Below w.heap.size w w' := by
  have hlen : s.data.toList.length = s.size := (Lib.size_eq s).symm
  refine ⟨_, _, Lib.run_convert_string_bytes w src dst e s h1 h2 h3, ?_, (Below.refl _ w).grown (row := none) ⟨rfl, rfl, rfl, by rw [Lib.bytesWorld_size]; omega, fun k hk _ => Lib.bytesWorld_at_old w e s k hk⟩ (Nat.le_refl _) (by simp)⟩
  unfold Bytes
  rw [hlen]
  refine ⟨⟨_, _, rfl, grownCap_ge _ _ _ _, grownCap_le_maxLen _ _ _ _ (by unfold maxLen; omega), hs, (fun e => by cases e), fun _ => ⟨w.heap.size, 0, rfl, fun j u hj => ?_⟩⟩, by rw [cellsOf_length, hlen]; omega⟩
  have hj2 : j < s.size := by
    have := (List.getElem?_eq_some_iff.1 hj).1
    rw [cellsOf_length, hlen] at this; exact this
  rw [Nat.zero_add, Lib.bytesWorld_cell w e s j hj2]
  simp only [cellsOf, List.getElem?_map] at hj
  have hj3 : j < s.data.toList.length := by rw [hlen]; exact hj2
  rw [List.getElem?_eq_getElem hj3] at hj
  simp only [Option.map_some, Option.some.injEq] at hj
  rw [← hj, List.getD_eq_getElem?_getD, List.getElem?_eq_getElem hj3]
  rfl

/-- Ahead of pos all characters are of their kinds. -/
def Seen (p q : Int → Bool) (l : List UInt8) (pos : Nat) : Prop :=
  pos ≤ l.length ∧ check (l.drop pos) = (l.drop pos).length ∧ (pos = 0 → True) ∧ (0 < pos → shp p q l = allq q (l.drop pos))
theorem Seen.start {p q : Int → Bool} {l : List UInt8} (h : check l = l.length) : Seen p q l 0 := ⟨by omega, by simpa using h, fun _ => trivial, fun h => by omega⟩
/-- What is asked of the character at a place. -/
def kind (p q : Int → Bool) (pos : Nat) (c : Int) : Bool := if pos = 0 then p c else q c
theorem Seen.step {p q : Int → Bool} {l : List UInt8} {pos : Nat} (h : Seen p q l pos) (hp : pos < l.length) :
    (rune (l.drop pos)).2 ≠ 0 ∧ (kind p q pos (rune (l.drop pos)).1 = false → shp p q l = false) ∧ (kind p q pos (rune (l.drop pos)).1 = true → Seen p q l (pos + (rune (l.drop pos)).2)) := by
  obtain ⟨h1, h2, _, h4⟩ := h
  have hr := rune_le (l.drop pos)
  have hne : (rune (l.drop pos)).2 ≠ 0 := by
    intro e
    rw [check_stop e] at h2
    simp at h2; omega
  have hck : check (l.drop (pos + (rune (l.drop pos)).2)) = (l.drop (pos + (rune (l.drop pos)).2)).length := by
    rw [check_step hne, List.drop_drop] at h2
    simp only [List.length_drop] at h2 hr ⊢
    omega
  have hle : pos + (rune (l.drop pos)).2 ≤ l.length := by simp only [List.length_drop] at hr; omega
  refine ⟨hne, fun hk => ?_, fun hk => ⟨hle, hck, fun _ => trivial, fun _ => ?_⟩⟩
  · unfold kind at hk
    by_cases e : pos = 0
    · subst e
      rw [if_pos rfl] at hk
      rw [List.drop_zero] at hk hne
      rw [shp_step hne, hk, Bool.false_and]
    · rw [if_neg e] at hk
      rw [h4 (by omega), allq_step hne, hk, Bool.false_and]
  · unfold kind at hk
    by_cases e : pos = 0
    · subst e
      rw [if_pos rfl] at hk
      rw [List.drop_zero] at hk hne ⊢
      rw [shp_step hne, hk, Bool.true_and, Nat.zero_add]
    · rw [if_neg e] at hk
      rw [h4 (by omega), allq_step hne, hk, Bool.true_and, List.drop_drop]
theorem Seen.done {p q : Int → Bool} {l : List UInt8} {pos : Nat} (h : Seen p q l pos) (hp : ¬ pos < l.length) : shp p q l = !l.isEmpty := by
  obtain ⟨h1, h2, _, h4⟩ := h
  by_cases e : pos = 0
  · have : l = [] := List.eq_nil_of_length_eq_zero (by omega)
    subst this; rfl
  · rw [h4 (by omega), List.drop_of_length_le (by omega), allq_nil]
    cases l with
    | nil => simp at h1; omega
    | cons a b => rfl

/-- The language's reading where all is right. -/
theorem decode_right {l : List UInt8} {pos : Nat} (hp : pos < l.length) (h : (rune (l.drop pos)).2 ≠ 0) : Utf8.decode (text l) pos = rune (l.drop pos) := by
  rcases decode_rune l pos hp with ⟨z, _⟩ | ⟨_, _, e⟩
  · exact absurd z h
  · exact e

theorem text_list (l : List UInt8) : (text l).toList = l := by rw [Lib.toList_data, text_data]
set_option maxHeartbeats 2000000 in
theorem shaped_plain (l : List UInt8) (hl : l.length ≤ 281474976710656) (w : World) :
    Calls Tryz.prog 110 #[.string (text l), .func (.func 111) #[] #[], .func (.func 112) #[] #[]] w fun e w' => e = .returned (.bool (shp Utf.first Utf.part l)) ∧ Below w.heap.size w w' := by
  obtain ⟨v, w1, hcv, hv, hb1⟩ := conv_text (P := Tryz.prog) (text l) (by rw [text_size]; exact hl) 9 24 5 under9 underB under8 w
  rw [text_data] at hv
  have hck := Check_any v l w1 hv
  have HC := hid hck
  have HB := hid hb1
  have ef : ∀ args w, (callFunc 111 args).run Tryz.prog w = .ok (.enter 111 args) w := enters_of Tryz.func111 (by kernel_rfl) rfl
  have es : ∀ args w, (callFunc 112 args).run Tryz.prog w = .ok (.enter 112 args) w := enters_of Tryz.func112 (by kernel_rfl) rfl
  clear hck hv hb1
  by_cases hc : check l = l.length
  · have he := checkE_ok hc
    rw [he] at HC
    have HS := hid (Seen.start (p := Utf.first) (q := Utf.part) hc)
    clear he hc
    go_enter Tryz.func110, Tryz.ntmps110
    go_wp2_with (go_at_call 27; refine HC.out.mono ?_; rintro e w2 ⟨rfl, hb2⟩)
    have hb2' : Below w.heap.size w w2 := bt HB.out hb2
    clear hb2 hcv
    go_loopw [9] (fun _ w' => ∃ pos : Nat, w' = w2.iter (text l) pos ∧ Seen Utf.first Utf.part l pos) (fun _ w' => l.length - w'.iterPos w2.heap.size)
    case atStart => exact ⟨0, rfl, HS.out⟩
    case round =>
      obtain ⟨pos, rfl, hu⟩ := hrel
      have HB2 := hid hb2'
      clear hb2'
      by_cases hp : pos < l.length
      · have hps : pos < (text l).size := by rw [text_size]; exact hp
        have hnx : ∀ ty, (Instr.next (.pointer (some ⟨w2.heap.size, 0, none⟩)) true ty).run Tryz.prog (w2.iter (text l) pos) = _ := fun ty => run_next_any w2 (text l) pos ty hps
        obtain ⟨hne, hno, hyes⟩ := hu.step hp
        have hd := decode_right hp hne
        rw [hd] at hnx
        have hrs := rune_some (l := l.drop pos) (c := (rune (l.drop pos)).1) (k := (rune (l.drop pos)).2) rfl hne
        have hc3 := (Utf.nfine_iff _).1 hrs.1
        have hk1 := hrs.2.2.2.1
        have HNO := hid hno
        have HYES := hid hyes
        clear hno hyes hu hd hrs hne
        obtain ⟨c, k, hck⟩ : ∃ c k, rune (l.drop pos) = (c, k) := ⟨_, _, rfl⟩
        rw [hck] at hnx HNO HYES hc3 hk1
        dsimp only at hnx HNO HYES hc3 hk1
        have hc4 : c ≤ 1114111 := by omega
        have hF := fun w => Start_any (c : Int) w
        have hQ := fun w => Part_any (c : Int) w
        clear hck hc3
        by_cases hz : pos = 0
        · subst hz
          have hkd : kind Utf.first Utf.part 0 c = Utf.first c := rfl
          rw [hkd] at HNO HYES
          cases hb : Utf.first c
          · rw [hb] at hF HNO
            have HF := hid hF
            clear hF hQ hkd hb
            go_wp2_with (go_at_call 111; refine (HF.out _).mono ?_; rintro e w' ⟨rfl, rfl⟩)
            go_ret
            exact ⟨by rw [HNO.out (by simp)]; rfl, (HB2.out).alloc HB2.out.size _⟩
          · rw [hb] at hF HYES
            have HF := hid hF
            clear hF hQ hkd hb
            go_wp2_with (go_at_call 111; refine (HF.out _).mono ?_; rintro e w' ⟨rfl, rfl⟩)
            go_roundw
            case rel => exact ⟨_, rfl, by have := HYES.out (by simp); rwa [Nat.zero_add] at this⟩
            case measure => simp; omega
        · have hkd : kind Utf.first Utf.part pos c = Utf.part c := by unfold kind; rw [if_neg hz]
          rw [hkd] at HNO HYES
          have hz1 : ((pos : Int) == 0) = false := by rw [beq_eq_false_iff_ne]; omega
          have hz2 : (0 : Int) < (pos : Int) := by omega
          cases hb : Utf.part c
          · rw [hb] at hQ HNO
            have HQ := hid hQ
            clear hF hQ hkd hb
            go_wp2_with (go_at_call 112; refine (HQ.out _).mono ?_; rintro e w' ⟨rfl, rfl⟩)
            go_ret
            exact ⟨by rw [HNO.out (by simp)]; rfl, (HB2.out).alloc HB2.out.size _⟩
          · rw [hb] at hQ HYES
            have HQ := hid hQ
            clear hF hQ hkd hb
            go_wp2_with (go_at_call 112; refine (HQ.out _).mono ?_; rintro e w' ⟨rfl, rfl⟩)
            go_roundw
            case rel => exact ⟨_, rfl, HYES.out (by simp)⟩
            case measure => simp; omega
      · have hps : ¬ pos < (text l).size := by rw [text_size]; exact hp
        have hnx : ∀ ty, (Instr.next (.pointer (some ⟨w2.heap.size, 0, none⟩)) true ty).run Tryz.prog (w2.iter (text l) pos) = _ := fun ty => run_next_end w2 (text l) pos ty hps
        have hd := hu.done hp
        have HD := hid hd
        clear hu hd
        go_wp2
        go_ret
        refine ⟨?_, (HB2.out).alloc HB2.out.size _⟩
        rw [HD.out]
        show Ending.returned (.bool (!(text l).toList.isEmpty)) = _
        rw [text_list]
  · have he := checkE_no hc
    rw [he] at HC
    have hsh := shp_check (p := Utf.first) (q := Utf.part) hc
    have HSH := hid hsh
    clear he hc hsh
    go_enter Tryz.func110, Tryz.ntmps110
    go_wp2_with (go_at_call 27; refine HC.out.mono ?_; rintro e w2 ⟨rfl, hb2⟩)
    go_ret
    exact ⟨by rw [HSH.out]; rfl, bt HB.out hb2⟩

theorem Plain_any (l : List UInt8) (hl : l.length ≤ 281474976710656) (w : World) :
    Calls Tryz.prog 94 #[.string (text l)] w fun e w' => e = .returned (.bool (plainB l)) ∧ Below w.heap.size w w' := by
  have H := hid (fun w => shaped_plain l hl w)
  go_enter Tryz.func94, Tryz.ntmps94
  go_wp2_with (go_at_call 110; refine (H.out _).mono ?_; rintro e w' ⟨rfl, hb⟩)
  go_ret
  exact ⟨rfl, hb⟩

end Go.Proofs.YthodmdfbahkflaaGreatDoor.Names
namespace Go.Proofs.YthodmdfbahkflaaGreatDoor.Names
open Go Go.Proofs.YthodmdfbahkflaaGreatDoor Go.Proofs.YthodmdfbahkflaaGreatDoor.Utf Go.RowKit
set_option maxRecDepth 100000

theorem indexByte_first (c : UInt8) : ∀ l : List UInt8, Lib.indexByte l c = match firstAt c l with | none => -1 | some i => (i : Int)
  | [] => rfl
  | x :: r => by
    have ih := indexByte_first c r
    unfold Lib.indexByte firstAt
    by_cases h : x = c
    · simp [h]
    · simp only [h, if_false]
      rw [ih]
      cases firstAt c r with
      | none => simp [h]
      | some i =>
        have : ((i : Int) == -1) = false := by rw [beq_eq_false_iff_ne]; omega
        simp [h, this]

/-- What Cut answers, at a text of one byte. -/
def cutV (c : UInt8) (l : List UInt8) : Value := match firstAt c l with
  | none => .tuple #[.string (text l), .string ⟨#[]⟩, .bool false]
  | some i => .tuple #[.string (text (l.take i)), .string (text (l.drop (i + 1))), .bool true]

theorem text_zero (l : List UInt8) (i : Nat) : (text l).extract 0 i = text (l.take i) := by rw [text_cut]; rfl

set_option maxHeartbeats 1000000 in
theorem liteCut_any (c : UInt8) (l : List UInt8) (hl : l.length ≤ 281474976710656) (w : World) :
    Calls Tryz.prog 104 #[.string (text l), .string ⟨#[c]⟩] w fun e w' => e = .returned (cutV c l) ∧ Below w.heap.size w w' := by
  have hi := Tryz.stringslite_Index_one (text l) c
  rw [text_data, indexByte_first] at hi
  have hsz := text_size l
  cases hf : firstAt c l with
  | none =>
    rw [hf] at hi
    have H := hid hi
    have F := hid hf
    clear hi hf
    go_enter Tryz.func104, Tryz.ntmps104
    go_wp2_with (go_at_call 121; refine (H.out _).mono ?_; rintro e w' ⟨rfl, rfl⟩)
    go_ret3
    exact ⟨by unfold cutV; rw [F.out]; rfl, b0 _⟩
  | some i =>
    rw [hf] at hi
    have hlt := firstAt_lt hf
    have H := hid hi
    have F := hid hf
    clear hi hf
    have h1 : (0 : Int) ≤ (i : Int) := by omega
    have h2 : (i : Int) ≤ ((text l).size : Int) := by omega
    have h3 : (0 : Int) ≤ (i : Int) + 1 := by omega
    have h4 : (i : Int) + 1 ≤ ((text l).size : Int) := by omega
    have HSZ := hid hsz
    clear hsz
    have mixed : Tryz.prog.follows Departure.mixedOrders = true := by kernel_rfl
    go_enter Tryz.func104, Tryz.ntmps104
    go_wp2_with (go_at_call 121; refine (H.out _).mono ?_; rintro e w' ⟨rfl, rfl⟩)
    go_region_o
    go_wp2
    go_ret3
    refine ⟨?_, ?_⟩
    · unfold cutV; rw [F.out]
      dsimp only
      rw [← text_zero, ← text_extract]
      rfl
    · exact (b0 _).drew

theorem Cut_any (c : UInt8) (l : List UInt8) (hl : l.length ≤ 281474976710656) (w : World) :
    Calls Tryz.prog 81 #[.string (text l), .string ⟨#[c]⟩] w fun e w' => e = .returned (cutV c l) ∧ Below w.heap.size w w' := by
  have hi := fun w => liteCut_any c l hl w
  unfold cutV at hi ⊢
  cases hf : firstAt c l with
  | none =>
    rw [hf] at hi
    have H := hid hi
    clear hi hf
    go_enter Tryz.func81, Tryz.ntmps81
    go_wp2_with (go_at_call 104; refine (H.out _).mono ?_; rintro e w' ⟨rfl, hb⟩)
    go_ret3
    exact ⟨rfl, hb⟩
  | some i =>
    rw [hf] at hi
    have H := hid hi
    clear hi hf
    go_enter Tryz.func81, Tryz.ntmps81
    go_wp2_with (go_at_call 104; refine (H.out _).mono ?_; rintro e w' ⟨rfl, hb⟩)
    go_ret3
    exact ⟨rfl, hb⟩

set_option maxHeartbeats 2000000 in
theorem Split_any (l : List UInt8) (hl : l.length ≤ 281474976710656) (w : World) :
    Calls Tryz.prog 67 #[.string (text l)] w fun e w' => e = .returned (.tuple #[.string (text (splitA l)), .string (text (splitB l)), .int .i64 (splitE l)]) ∧ Below w.heap.size w w' := by
  have hi := fun w => Cut_any 58 l hl w
  unfold cutV at hi
  have P0 := hid (fun w => Plain_any l hl w)
  cases hf : firstAt 58 l with
  | none =>
    rw [hf] at hi
    have H := hid hi
    cases hp : plainB l
    · have hs : splitO l = none := by unfold splitO; rw [hf, hp]; rfl
      have S := hid hs
      rw [hp] at P0
      clear hi hf hp hs
      go_enter Tryz.func67, Tryz.ntmps67
      go_wp2_with (first
        | (go_at_call 81; refine (H.out _).mono ?_; rintro e w1 ⟨rfl, hb1⟩)
        | (go_at_call 94; refine (P0.out _).mono ?_; rintro e w2 ⟨rfl, hb2⟩))
      go_ret3
      exact ⟨by unfold splitA splitB splitE; rw [S.out]; rfl, bt hb1 hb2⟩
    · have hs : splitO l = some ([], l) := by unfold splitO; rw [hf, hp]; rfl
      have S := hid hs
      rw [hp] at P0
      clear hi hf hp hs
      go_enter Tryz.func67, Tryz.ntmps67
      go_wp2_with (first
        | (go_at_call 81; refine (H.out _).mono ?_; rintro e w1 ⟨rfl, hb1⟩)
        | (go_at_call 94; refine (P0.out _).mono ?_; rintro e w2 ⟨rfl, hb2⟩))
      go_ret3
      exact ⟨by unfold splitA splitB splitE; rw [S.out]; rfl, bt hb1 hb2⟩
  | some i =>
    rw [hf] at hi
    have H := hid hi
    have hlt := firstAt_lt hf
    have P1 := hid (fun w => Plain_any (l.take i) (by simp; omega) w)
    have P2 := hid (fun w => Plain_any (l.drop (i + 1)) (by simp; omega) w)
    cases hp : plainB (l.take i)
    · have hs : splitO l = none := by unfold splitO; rw [hf]; dsimp only; rw [hp]; rfl
      have S := hid hs
      rw [hp] at P1
      clear hi hf hp hs
      go_enter Tryz.func67, Tryz.ntmps67
      go_wp2_with (first
        | (go_at_call 81; refine (H.out _).mono ?_; rintro e w1 ⟨rfl, hb1⟩)
        | (go_at_call 94; refine (P1.out _).mono ?_; rintro e w2 ⟨rfl, hb2⟩))
      go_ret3
      exact ⟨by unfold splitA splitB splitE; rw [S.out]; rfl, bt hb1 hb2⟩
    · rw [hp] at P1
      cases hq : plainB (l.drop (i + 1))
      · have hs : splitO l = none := by unfold splitO; rw [hf]; dsimp only; rw [hp, hq]; rfl
        have S := hid hs
        rw [hq] at P2
        clear hi hf hp hs hq
        go_enter Tryz.func67, Tryz.ntmps67
        go_wp2_with (go_at_call 81; refine (H.out _).mono ?_; rintro e w1 ⟨rfl, hb1⟩)
        go_at_call 94
        refine (P1.out _).mono ?_; rintro e w2 ⟨rfl, hb2⟩
        go_wp2_with (go_at_call 94; refine (P2.out _).mono ?_; rintro e w3 ⟨rfl, hb3⟩)
        go_ret3
        exact ⟨by unfold splitA splitB splitE; rw [S.out]; rfl, bt (bt hb1 hb2) hb3⟩
      · have hs : splitO l = some (l.take i, l.drop (i + 1)) := by unfold splitO; rw [hf]; dsimp only; rw [hp, hq]; rfl
        have S := hid hs
        rw [hq] at P2
        clear hi hf hp hs hq
        go_enter Tryz.func67, Tryz.ntmps67
        go_wp2_with (go_at_call 81; refine (H.out _).mono ?_; rintro e w1 ⟨rfl, hb1⟩)
        go_at_call 94
        refine (P1.out _).mono ?_; rintro e w2 ⟨rfl, hb2⟩
        go_wp2_with (go_at_call 94; refine (P2.out _).mono ?_; rintro e w3 ⟨rfl, hb3⟩)
        go_ret3
        exact ⟨by unfold splitA splitB splitE; rw [S.out]; rfl, bt (bt hb1 hb2) hb3⟩
end Go.Proofs.YthodmdfbahkflaaGreatDoor.Names
namespace Go.Proofs.YthodmdfbahkflaaGreatDoor.Names
open Go Go.Proofs.YthodmdfbahkflaaGreatDoor Go.Proofs.YthodmdfbahkflaaGreatDoor.Utf Go.RowKit
set_option maxRecDepth 100000

theorem underM : Tryz.prog.underlying 156 = some (.map 9 4) := Tryz.underlying156
theorem underO : Tryz.prog.underlying 4 = some .bool := Tryz.underlying4

/-- The keywords' map, as it reads. -/
def keyD : DataW Unit := .map (keys.map fun k => (.string k, .lit (.bool true)))
def KeyMap (w : World) (b : Nat) : Prop := w.ownsMap Tryz.prog 9 (plainElem (H := Unit) Tryz.prog 4) b 17 keyD

theorem KeyMap.below {w w' : World} {b : Nat} (h : KeyMap w b) (hb : Below w.heap.size w w') : KeyMap w' b := by
  have hl := h.lt
  obtain ⟨es, clock, h1, r⟩ := h
  exact ⟨es, clock, (hb.block b hl).trans h1, r⟩

theorem plainElem_bool_inv {H : Type} {P : Program} {e : TypeId} (he : P.underlying e = some .bool) {v : Value} {x : Bool} {ps : List MemPlace} (h : plainElem (H := H) P e v = some (.lit (.bool x), ps)) : v = .bool x := by
  unfold plainElem at h
  rw [he] at h
  cases v <;> simp at h
  rw [h.1]

end Go.Proofs.YthodmdfbahkflaaGreatDoor.Names
