/- Layer 2: contracts of shaped (at both its uses), Plain and wordy. -/
import Derived.Test.YthggoohchjifnaaDoorNamesMath
import Derived.Test.YthggoohchjifnaaDoorUtfD
import Derived.Lib.ConvBytes
import Derived.Laws.AppendOwn
set_option linter.unusedVariables false
set_option linter.unusedSimpArgs false
namespace Go.Proofs.YthggoohchjifnaaDoor.Names
open Go Go.Proofs.YthggoohchjifnaaDoor Go.Proofs.YthggoohchjifnaaDoor.Utf Go.RowKit
set_option maxRecDepth 100000

/-- A text's bytes, as a new slice. -/
theorem conv_text {P : Program} (s : ByteArray) (hs : s.size ≤ 281474976710656) (src dst e : TypeId) (h1 : P.underlying src = some .string) (h2 : P.underlying dst = some (.slice e)) (h3 : P.underlying e = some (.int .u8)) (w : World) :
    ∃ v w', (convert src dst (.string s)).run P w = .ok v w' ∧ Bytes w' v s.data.toList ∧ Below w.heap.size w w' := by
  have hlen : s.data.toList.length = s.size := (Lib.size_eq s).symm
  refine ⟨_, _, Lib.run_convert_string_bytes w src dst e s h1 h2 h3, ?_, (Below.refl _ w).grown (row := none) ⟨rfl, rfl, rfl, by rw [Lib.bytesWorld_size]; omega, fun k hk _ => Lib.bytesWorld_at_old w e s k hk⟩ (Nat.le_refl _) (by simp)⟩
  unfold Bytes
  rw [hlen]
  refine ⟨⟨_, _, rfl, grownCap_ge _ _ _ _, grownCap_le_maxLen _ _ _ _ (by unfold maxLen; omega), hs, (fun e => by cases e), fun _ => ⟨w.heap.size, 0, rfl, fun j u hj => ?_⟩⟩, by rw [cellsOf_length, hlen]; omega⟩
  have hj2 : j < s.size := by
    have := (List.getElem?_eq_some_iff.1 hj).1
    rw [cellsOf_length, hlen] at this; exact this
  rw [Nat.zero_add, Lib.bytesWorld_cell w e s j hj2]
  simp only [cellsOf, List.getElem?_map] at hj
  have hj3 : j < s.data.toList.length := by rw [hlen]; exact hj2
  rw [List.getElem?_eq_getElem hj3] at hj
  simp only [Option.map_some, Option.some.injEq] at hj
  rw [← hj, List.getD_eq_getElem?_getD, List.getElem?_eq_getElem hj3]
  rfl

/-- Ahead of pos all characters are of their kinds. -/
def Seen (p q : Int → Bool) (l : List UInt8) (pos : Nat) : Prop :=
  pos ≤ l.length ∧ check (l.drop pos) = (l.drop pos).length ∧ (pos = 0 → True) ∧ (0 < pos → shp p q l = allq q (l.drop pos))
theorem Seen.start {p q : Int → Bool} {l : List UInt8} (h : check l = l.length) : Seen p q l 0 := ⟨by omega, by simpa using h, fun _ => trivial, fun h => by omega⟩
/-- What is asked of the character at a place. -/
def kind (p q : Int → Bool) (pos : Nat) (c : Int) : Bool := if pos = 0 then p c else q c
theorem Seen.step {p q : Int → Bool} {l : List UInt8} {pos : Nat} (h : Seen p q l pos) (hp : pos < l.length) :
    (rune (l.drop pos)).2 ≠ 0 ∧ (kind p q pos (rune (l.drop pos)).1 = false → shp p q l = false) ∧ (kind p q pos (rune (l.drop pos)).1 = true → Seen p q l (pos + (rune (l.drop pos)).2)) := by
  obtain ⟨h1, h2, _, h4⟩ := h
  have hr := rune_le (l.drop pos)
  have hne : (rune (l.drop pos)).2 ≠ 0 := by
    intro e
    rw [check_stop e] at h2
    simp at h2; omega
  have hck : check (l.drop (pos + (rune (l.drop pos)).2)) = (l.drop (pos + (rune (l.drop pos)).2)).length := by
    rw [check_step hne, List.drop_drop] at h2
    simp only [List.length_drop] at h2 hr ⊢
    omega
  have hle : pos + (rune (l.drop pos)).2 ≤ l.length := by simp only [List.length_drop] at hr; omega
  refine ⟨hne, fun hk => ?_, fun hk => ⟨hle, hck, fun _ => trivial, fun _ => ?_⟩⟩
  · unfold kind at hk
    by_cases e : pos = 0
    · subst e
      rw [if_pos rfl] at hk
      rw [List.drop_zero] at hk hne
      rw [shp_step hne, hk, Bool.false_and]
    · rw [if_neg e] at hk
      rw [h4 (by omega), allq_step hne, hk, Bool.false_and]
  · unfold kind at hk
    by_cases e : pos = 0
    · subst e
      rw [if_pos rfl] at hk
      rw [List.drop_zero] at hk hne ⊢
      rw [shp_step hne, hk, Bool.true_and, Nat.zero_add]
    · rw [if_neg e] at hk
      rw [h4 (by omega), allq_step hne, hk, Bool.true_and, List.drop_drop]
theorem Seen.done {p q : Int → Bool} {l : List UInt8} {pos : Nat} (h : Seen p q l pos) (hp : ¬ pos < l.length) : shp p q l = !l.isEmpty := by
  obtain ⟨h1, h2, _, h4⟩ := h
  by_cases e : pos = 0
  · have : l = [] := List.eq_nil_of_length_eq_zero (by omega)
    subst this; rfl
  · rw [h4 (by omega), List.drop_of_length_le (by omega), allq_nil]
    cases l with
    | nil => simp at h1; omega
    | cons a b => rfl

/-- The language's reading where all is right. -/
theorem decode_right {l : List UInt8} {pos : Nat} (hp : pos < l.length) (h : (rune (l.drop pos)).2 ≠ 0) : Utf8.decode (text l) pos = rune (l.drop pos) := by
  rcases decode_rune l pos hp with ⟨z, _⟩ | ⟨_, _, e⟩
  · exact absurd z h
  · exact e

theorem str_text (s : ByteArray) : s = text s.data.toList := by cases s; rfl
theorem text_list (l : List UInt8) : (text l).toList = l := by rw [Lib.toList_data, text_data]
theorem text_eq_iff (l m : List UInt8) : text l = text m ↔ l = m := by
  constructor
  · intro h
    have := congrArg (fun b => b.data.toList) h
    simpa [text_data] using this
  · rintro rfl; rfl

set_option maxHeartbeats 2000000 in
theorem shaped_word (l : List UInt8) (hl : l.length ≤ 281474976710656) (w : World) :
    Calls Tryd.prog 84 #[.string (text l), .func (.func 85) #[] #[], .func (.func 86) #[] #[]] w fun e w' => e = .returned (.bool (shp Utf.first Utf.next l)) ∧ Below w.heap.size w w' := by
  obtain ⟨v, w1, hcv, hv, hb1⟩ := conv_text (P := Tryd.prog) (text l) (by rw [text_size]; exact hl) 9 44 5 under9 underB under8 w
  rw [text_data] at hv
  have hck := Check_any v l w1 hv
  have HC := hid hck
  have HB := hid hb1
  have ef : ∀ args w, (callFunc 85 args).run Tryd.prog w = .ok (.enter 85 args) w := enters_of Tryd.func85 (by kernel_rfl) rfl
  have es : ∀ args w, (callFunc 86 args).run Tryd.prog w = .ok (.enter 86 args) w := enters_of Tryd.func86 (by kernel_rfl) rfl
  clear hck hv hb1
  by_cases hc : check l = l.length
  · have he := checkE_ok hc
    rw [he] at HC
    have HS := hid (Seen.start (p := Utf.first) (q := Utf.next) hc)
    clear he hc
    go_enter Tryd.func84, Tryd.ntmps84
    go_wp2_with (go_at_call 90; refine HC.out.mono ?_; rintro e w2 ⟨rfl, hb2⟩)
    have hb2' : Below w.heap.size w w2 := bt HB.out hb2
    clear hb2 hcv
    go_loopw [9] (fun _ w' => ∃ pos : Nat, w' = w2.iter (text l) pos ∧ Seen Utf.first Utf.next l pos) (fun _ w' => l.length - w'.iterPos w2.heap.size)
    case atStart => exact ⟨0, rfl, HS.out⟩
    case round =>
      obtain ⟨pos, rfl, hu⟩ := hrel
      have HB2 := hid hb2'
      clear hb2'
      by_cases hp : pos < l.length
      · have hps : pos < (text l).size := by rw [text_size]; exact hp
        have hnx : ∀ ty, (Instr.next (.pointer (some ⟨w2.heap.size, 0, none⟩)) true ty).run Tryd.prog (w2.iter (text l) pos) = _ := fun ty => run_next_any w2 (text l) pos ty hps
        obtain ⟨hne, hno, hyes⟩ := hu.step hp
        have hd := decode_right hp hne
        rw [hd] at hnx
        have hrs := rune_some (l := l.drop pos) (c := (rune (l.drop pos)).1) (k := (rune (l.drop pos)).2) rfl hne
        have hc3 := (Utf.nfine_iff _).1 hrs.1
        have hk1 := hrs.2.2.2.1
        have HNO := hid hno
        have HYES := hid hyes
        clear hno hyes hu hd hrs hne
        obtain ⟨c, k, hck⟩ : ∃ c k, rune (l.drop pos) = (c, k) := ⟨_, _, rfl⟩
        rw [hck] at hnx HNO HYES hc3 hk1
        dsimp only at hnx HNO HYES hc3 hk1
        have hc4 : c ≤ 1114111 := by omega
        have hF := fun w => First_any (c : Int) w
        have hQ := fun w => Next_any (c : Int) w
        clear hck hc3
        by_cases hz : pos = 0
        · subst hz
          have hkd : kind Utf.first Utf.next 0 c = Utf.first c := rfl
          rw [hkd] at HNO HYES
          cases hb : Utf.first c
          · rw [hb] at hF HNO
            have HF := hid hF
            clear hF hQ hkd hb
            go_wp2_with (go_at_call 85; refine (HF.out _).mono ?_; rintro e w' ⟨rfl, rfl⟩)
            go_ret
            exact ⟨by rw [HNO.out (by simp)]; rfl, (HB2.out).alloc HB2.out.size _⟩
          · rw [hb] at hF HYES
            have HF := hid hF
            clear hF hQ hkd hb
            go_wp2_with (go_at_call 85; refine (HF.out _).mono ?_; rintro e w' ⟨rfl, rfl⟩)
            go_roundw
            case rel => exact ⟨_, rfl, by have := HYES.out (by simp); rwa [Nat.zero_add] at this⟩
            case measure => simp; omega
        · have hkd : kind Utf.first Utf.next pos c = Utf.next c := by unfold kind; rw [if_neg hz]
          rw [hkd] at HNO HYES
          have hz1 : ((pos : Int) == 0) = false := by rw [beq_eq_false_iff_ne]; omega
          have hz2 : (0 : Int) < (pos : Int) := by omega
          cases hb : Utf.next c
          · rw [hb] at hQ HNO
            have HQ := hid hQ
            clear hF hQ hkd hb
            go_wp2_with (go_at_call 86; refine (HQ.out _).mono ?_; rintro e w' ⟨rfl, rfl⟩)
            go_ret
            exact ⟨by rw [HNO.out (by simp)]; rfl, (HB2.out).alloc HB2.out.size _⟩
          · rw [hb] at hQ HYES
            have HQ := hid hQ
            clear hF hQ hkd hb
            go_wp2_with (go_at_call 86; refine (HQ.out _).mono ?_; rintro e w' ⟨rfl, rfl⟩)
            go_roundw
            case rel => exact ⟨_, rfl, HYES.out (by simp)⟩
            case measure => simp; omega
      · have hps : ¬ pos < (text l).size := by rw [text_size]; exact hp
        have hnx : ∀ ty, (Instr.next (.pointer (some ⟨w2.heap.size, 0, none⟩)) true ty).run Tryd.prog (w2.iter (text l) pos) = _ := fun ty => run_next_end w2 (text l) pos ty hps
        have hd := hu.done hp
        have HD := hid hd
        clear hu hd
        go_wp2
        go_ret
        refine ⟨?_, (HB2.out).alloc HB2.out.size _⟩
        rw [HD.out]
        show Ending.returned (.bool (!(text l).toList.isEmpty)) = _
        rw [text_list]
  · have he := checkE_no hc
    rw [he] at HC
    have hsh := shp_check (p := Utf.first) (q := Utf.next) hc
    have HSH := hid hsh
    clear he hc hsh
    go_enter Tryd.func84, Tryd.ntmps84
    go_wp2_with (go_at_call 90; refine HC.out.mono ?_; rintro e w2 ⟨rfl, hb2⟩)
    go_ret
    exact ⟨by rw [HSH.out]; rfl, bt HB.out hb2⟩

theorem wordy_any (l : List UInt8) (hl : l.length ≤ 281474976710656) (w : World) :
    Calls Tryd.prog 79 #[.string (text l)] w fun e w' => e = .returned (.bool (wordyB l)) ∧ Below w.heap.size w w' := by
  have H := hid (fun w => shaped_word l hl w)
  go_enter Tryd.func79, Tryd.ntmps79
  go_wp2_with (go_at_call 84; refine (H.out _).mono ?_; rintro e w' ⟨rfl, hb⟩)
  go_ret
  exact ⟨rfl, hb⟩
end Go.Proofs.YthggoohchjifnaaDoor.Names
