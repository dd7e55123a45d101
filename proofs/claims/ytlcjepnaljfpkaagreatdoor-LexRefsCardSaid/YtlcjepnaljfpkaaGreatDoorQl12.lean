/- LeI. -/
import Derived.Deep.AppendSrc
import Derived.Test.YtlcjepnaljfpkaaGreatDoorQl10
import Derived.Test.YtlcjepnaljfpkaaGreatDoorQl11
namespace Go.Proofs.YtlcjepnaljfpkaaGreatDoor
open Go.RowKit Wb
theorem toL (l : List UInt8) : (⟨l.toArray⟩ : ByteArray).data.toList = l := rfl
theorem ref_any (b : List UInt8) (s : ByteArray) (hsl : s.data.toList = 38 :: b) (w : World) (hG : Gv w) (hs : s.size ≤ 1000000000) :
    Calls Tryz.prog 48 #[.string s] w fun e w' => e = .returned (.tuple #[.string ⟨(refX b).1.toArray⟩, .int .i64 (refX b).2]) ∧ Below w.heap.size w w' := by
  have hlen : s.size = b.length + 1 := by rw [Lib.size_eq, hsl]; rfl
  have hix : ∀ w, Calls Tryz.prog 45 #[.string s, .int .u8 59] w fun e w' => e = .returned (.int .i64 (Lib.indexByte s.data.toList 59)) ∧ w = w' := fun w =>
    (Tryz.strings_IndexByte s 59 w).mono (by rintro e w' ⟨rfl, rfl⟩; exact ⟨rfl, rfl⟩)
  have hcases : (Lib.indexByte s.data.toList 59 = -1 ∧ semi b = none) ∨ ∃ k : Nat, Lib.indexByte s.data.toList 59 = ((k + 1 : Nat) : Int) ∧ k < b.length ∧ semi b = some (b.take k, b.drop (k + 1)) := by
    rw [hsl]
    have e : Lib.indexByte (38 :: b) 59 = if Lib.indexByte b 59 == -1 then -1 else Lib.indexByte b 59 + 1 := by
      conv => lhs; unfold Lib.indexByte
      rw [if_neg (by decide)]
    have hg := Lib.indexByte_ge b 59
    by_cases h : Lib.indexByte b 59 = -1
    · left
      refine ⟨by rw [e, h]; rfl, semi_none b fun j hj he => ?_⟩
      have := Lib.indexByte_none h j
      rw [List.getElem?_eq_getElem hj, he] at this
      exact this rfl
    · right
      obtain ⟨k, hk⟩ : ∃ k : Nat, Lib.indexByte b 59 = k := ⟨(Lib.indexByte b 59).toNat, by omega⟩
      obtain ⟨h1, h2⟩ := Lib.indexByte_some hk
      have hkl : k < b.length := by
        rcases Nat.lt_or_ge k b.length with h | h
        · exact h
        · rw [List.getElem?_eq_none h] at h1; cases h1
      refine ⟨k, ?_, hkl, semi_some b k hkl ?_ ?_⟩
      · rw [e, hk, if_neg (by simp)]
        rfl
      · rw [List.getElem?_eq_getElem hkl] at h1
        exact Option.some.inj h1
      · intro j hj he
        have := h2 j hj
        rw [List.getElem?_eq_getElem (by omega), he] at this
        exact this rfl
  rcases hcases with ⟨hi, hsm⟩ | ⟨k, hi, hk, hsm⟩
  · have hx : refX b = ([], 0) := by unfold refX; rw [hsm]
    rw [hx]
    rw [hi] at hix
    clear hi hsm hx hsl
    go_enter Tryz.func48, Tryz.ntmps48
    go_wp2_with fail
    refine (hix _).mono ?_
    rintro e w' ⟨rfl, rfl⟩
    go_wp2
    go_ret2
    exact ⟨rfl, Below.refl _ _⟩
  · rw [hi] at hix
    have hex : s.extract 1 (k + 1) = ⟨(b.take k).toArray⟩ := ba_extL (by
      rw [extract_L, hsl]
      simp)
    have hmt : ∀ w, Gv w → Calls Tryz.prog 83 #[.string (s.extract 1 (k + 1))] w fun e w' => e = .returned (.string ⟨(meantX (b.take k)).toArray⟩) ∧ Below w.heap.size w w' := by
      intro w hG
      have := meant_any (s.extract 1 (k + 1)) w hG (by rw [Lib.size_eq, hex, toL, List.length_take]; have := Nat.min_le_left k b.length; omega)
      rw [hex, toL] at this
      rw [hex]
      exact this
    have c1 : (1 : Int) ≤ (k : Int) + 1 := by omega
    have c2 : (k : Int) + 1 ≤ (s.size : Int) := by omega
    cases hv : refV (b.take k) with
    | none =>
      have hx : refX b = ([], 0) := by unfold refX; rw [hsm]; simp only [hv]
      have hm : meantX (b.take k) = [] := by unfold meantX; rw [hv]; rfl
      have h0 : (⟨([] : List UInt8).toArray⟩ : ByteArray).toList.isEmpty = true := by rw [ByteArray.toList_eq]; rfl
      have h1 : (⟨([] : List UInt8).toArray⟩ : ByteArray).toList = [] := by rw [ByteArray.toList_eq]
      rw [hx]
      rw [hm] at hmt
      obtain ⟨z, hz⟩ : ∃ z : ByteArray, (⟨([] : List UInt8).toArray⟩ : ByteArray) = z := ⟨_, rfl⟩
      clear hi hsm hx hsl hv hm hex
      go_enter Tryz.func48, Tryz.ntmps48
      go_wp2_with fail
      refine (hix _).mono ?_
      rintro e w' ⟨rfl, rfl⟩
      go_wp2_with fail
      refine (hmt _ hG).mono ?_
      rintro e w' ⟨rfl, hb⟩
      go_wp2
      go_ret2
      exact ⟨rfl, hb⟩
    | some x =>
      have hx : refX b = (x, (b.take k).length + 2) := by unfold refX; rw [hsm]; simp only [hv]
      have hm : meantX (b.take k) = x := by unfold meantX; rw [hv]; rfl
      have hl : (b.take k).length = k := by rw [List.length_take]; omega
      have hxn := refV_ne hv
      have h0 : (⟨x.toArray⟩ : ByteArray).toList.isEmpty = false := by rw [ByteArray.toList_eq]; simpa using hxn
      have h1 : ¬ (⟨x.toArray⟩ : ByteArray).toList = [] := by rw [ByteArray.toList_eq]; exact hxn
      rw [hx, hl]
      rw [hm] at hmt
      clear hi hsm hx hsl hv hm hex hxn hl
      generalize (⟨x.toArray⟩ : ByteArray) = z at *
      go_enter Tryz.func48, Tryz.ntmps48
      go_wp2_with fail
      refine (hix _).mono ?_
      rintro e w' ⟨rfl, rfl⟩
      go_wp2_with fail
      refine (hmt _ hG).mono ?_
      rintro e w' ⟨rfl, hb⟩
      go_wp2
      go_ret2
      exact ⟨by congr 2, hb⟩
theorem write_any (B b : Nat) (bs : List Value) (s : ByteArray) (w : World) (h : Lib.IsBuilder 71 5 B b bs w) (hlen : bs.length + s.size ≤ 140737488355328) (hBw : B ≤ w.heap.size) :
    Calls Tryz.prog 46 #[.pointer (some ⟨b, 0, none⟩), .string s] w fun e w' => (∃ v, e = .returned v) ∧ Lib.IsBuilder 71 5 B b (bs ++ Lib.strCells s) w' ∧ Below B w w' := by
  refine (Any.Builder_WriteString { Tryz.lays154 with } Tryz.Builder_Extra_154 B b bs s w h hlen hBw).mono ?_
  rintro e w' ⟨rfl, h1, h2⟩
  exact ⟨⟨_, rfl⟩, .inr h1, h2⟩
theorem isb_below {T e : TypeId} {B b : Nat} {bs : List Value} {w w' : World} (h : Lib.IsBuilder T e B b bs w) (hb : Below w.heap.size w w') : Lib.IsBuilder T e B b bs w' := by
  have k : ∀ p, Lib.BuilderAt T e B b p bs w → Lib.BuilderAt T e B b p bs w' := by
    rintro p ⟨h1, v, h2, h3, h4⟩
    exact ⟨h1, v, still_block h2 hb, own_below h3 hb, h4⟩
  exact h.imp (k _) (k _)
def UnOut (o : Except Nat (List UInt8)) (e : Ending) : Prop :=
  match o with
  | .ok x => e = .returned (.string ⟨x.toArray⟩)
  | .error p => e = .panicked [flt p 16]
def sLen : Value → Nat
  | .string b => b.size
  | _ => 0
set_option maxRecDepth 100000 in
set_option maxHeartbeats 1000000 in
theorem unescape_any (s : ByteArray) (attr : Bool) (at_ : Nat) (w : World) (hG : Gv w) (hs : s.size ≤ 100000000) (hat : at_ ≤ 100000000) :
    Calls Tryz.prog 23 #[.string s, .bool attr, .int .i64 at_] w fun e w' => UnOut (unL attr (s.size + 1) s.data.toList at_) e ∧ Below w.heap.size w w' := by
  obtain ⟨r, hr⟩ : ∃ r, unL attr (s.size + 1) s.data.toList at_ = r := ⟨_, rfl⟩
  have HR := Lib.hid hr
  rw [hr]
  clear hr
  have hlenS := Lib.size_eq s
  have hix : ∀ (s : ByteArray) w, Calls Tryz.prog 45 #[.string s, .int .u8 38] w fun e w' => e = .returned (.int .i64 (Lib.indexByte s.data.toList 38)) ∧ w = w' := fun s w =>
    (Tryz.strings_IndexByte s 38 w).mono (by rintro e w' ⟨rfl, rfl⟩; exact ⟨rfl, rfl⟩)
  go_enter Tryz.func23, Tryz.ntmps23
  go_wp2
  go_loopw [0, 2] (fun v0 v2 wr => ∃ (sk : ByteArray) (k f : Nat) (out : List UInt8), v0 = .string sk ∧ v2 = .int .i64 k ∧ k + sk.size ≤ at_ + s.size ∧ out.length + 4 * sk.size ≤ 4 * s.size ∧ sk.size < f ∧
    Hid (Lib.IsBuilder 71 5 w.heap.size w.heap.size (Lib.byteCells out) wr) ∧ Hid (Below w.heap.size w wr) ∧
    Hid (unL attr (s.size + 1) s.data.toList at_ = (unL attr f sk.data.toList k).map (out ++ ·))) (fun v0 _ _ => sLen v0)
  case atStart =>
    refine ⟨s, at_, s.size + 1, [], rfl, rfl, by omega, by simp, by omega, Lib.hid (Lib.fresh_isBuilder 71 5 w), Lib.hid ((Below.refl _ w).alloc (Nat.le_refl _) _), Lib.hid ?_⟩
    cases unL attr (s.size + 1) s.data.toList at_ <;> rfl
  case round =>
    obtain ⟨sk, k, f, out, rfl, rfl, hk, ho, hf, HB, HW, HU⟩ := hrel
    have hlenK := Lib.size_eq sk
    have hGr := hG.next HW.out
    have hBw : w.heap.size ≤ wr.heap.size := HW.out.size
    by_cases hi : Lib.indexByte sk.data.toList 38 = -1
    · have hno : ∀ b ∈ sk.data.toList, b ≠ 38 := by
        intro b hb he
        obtain ⟨j, hj, rfl⟩ := List.mem_iff_getElem.1 hb
        have := Lib.indexByte_none hi j
        rw [List.getElem?_eq_getElem hj, he] at this
        exact this rfl
      have HE : Hid (r = .ok (out ++ linesL attr sk.data.toList)) := Lib.hid (by
        rw [← HR.out, HU.out, unL_seg_end attr _ hno k f (by omega)]
        rfl)
      have hll := linesL_len attr sk.data.toList
      have hx := hix sk
      rw [hi] at hx
      clear hi hno HU hix
      have hln := fun w hG => lines_any sk attr w hG (by omega)
      obtain ⟨y, hy⟩ : ∃ y : ByteArray, y = ⟨(linesL attr sk.data.toList).toArray⟩ := ⟨_, rfl⟩
      have hyl : y.data.toList = linesL attr sk.data.toList := by rw [hy]
      have hys : y.size ≤ sk.size := by rw [Lib.size_eq, hyl]; omega
      rw [← hy] at hln
      have HY := Lib.hid hyl
      clear hy hyl
      go_wp2_with fail
      refine (hx _).mono ?_
      rintro e w' ⟨rfl, rfl⟩
      go_wp2_with fail
      refine (hln _ hGr).mono ?_
      rintro e w1 ⟨rfl, hb1⟩
      have HB1 := Lib.hid (isb_below HB.out hb1)
      have HW1 := Lib.hid (HW.out.trans (hb1.mono hBw))
      clear hb1
      have hBw1 : w.heap.size ≤ w1.heap.size := HW1.out.size
      go_wp2_with fail
      refine (write_any w.heap.size w.heap.size _ y w1 HB1.out (by rw [Lib.byteCells_length]; omega) hBw1).mono ?_
      rintro e w2 ⟨⟨v, rfl⟩, hB2, hb2⟩
      rw [Lib.strCells_eq, ← Lib.byteCells_append, HY.out] at hB2
      have HB2 := Lib.hid hB2
      have HW2 := Lib.hid (HW1.out.trans hb2)
      clear hB2 hb2
      go_wp2_with fail
      refine (Tryz.Builder_String_any w.heap.size w.heap.size _ w2 HB2.out HW2.out.size).mono ?_
      rintro e w3 ⟨rfl, hb3⟩
      have HW3 := Lib.hid (HW2.out.trans hb3)
      clear hb3
      go_wp2
      go_ret
      rw [HE.out]
      exact ⟨rfl, HW3.out⟩
    · have hg := Lib.indexByte_ge sk.data.toList 38
      obtain ⟨n, hn⟩ : ∃ n : Nat, Lib.indexByte sk.data.toList 38 = n := ⟨(Lib.indexByte sk.data.toList 38).toNat, by omega⟩
      obtain ⟨h1, h2⟩ := Lib.indexByte_some hn
      have hnl : n < sk.data.toList.length := by
        rcases Nat.lt_or_ge n sk.data.toList.length with h | h
        · exact h
        · rw [List.getElem?_eq_none h] at h1; cases h1
      rw [List.getElem?_eq_getElem hnl] at h1
      obtain ⟨a, ha⟩ : ∃ a, sk.data.toList.take n = a := ⟨_, rfl⟩
      obtain ⟨b, hb⟩ : ∃ b, sk.data.toList.drop (n + 1) = b := ⟨_, rfl⟩
      have hsp : sk.data.toList.drop n = 38 :: b := by
        rw [List.drop_eq_getElem_cons hnl, Option.some.inj h1, hb]
      have hall : sk.data.toList = a ++ 38 :: b := by rw [← hsp, ← ha, List.take_append_drop]
      have hal : a.length = n := by rw [← ha, List.length_take]; omega
      have hbl : n + b.length + 1 = sk.size := by rw [hlenK, hall, List.length_append, List.length_cons]; omega
      have hno : ∀ c ∈ a, c ≠ 38 := by
        intro c hc he
        obtain ⟨j, hj, rfl⟩ := List.mem_iff_getElem.1 hc
        have := h2 j (by omega)
        rw [hall, List.getElem?_append_left hj, List.getElem?_eq_getElem hj, he] at this
        exact this rfl
      have hx := hix sk
      rw [hn] at hx
      have e1 : sk.extract 0 n = ⟨a.toArray⟩ := ba_extL (by rw [extract_L, toL]; simpa using ha)
      have e2 : sk.extract n sk.size = ⟨(38 :: b).toArray⟩ := ba_extL (by rw [extract_L, toL, hsp, List.take_of_length_le (by simp; omega)])
      have hln := fun w hG => lines_any (sk.extract 0 n) attr w hG (by rw [Lib.size_eq, e1, toL]; omega)
      have hrf := fun w hG => ref_any b (sk.extract n sk.size) (by rw [e2]) w hG (by rw [Lib.size_eq, e2, toL, List.length_cons]; omega)
      have hUa : unL attr f sk.data.toList k = (unL attr (b.length + 2) (38 :: b) (k + n)).map (linesL attr a ++ ·) := by
        rw [hall, ← hal]
        exact unL_seg attr (38 :: b) (.inr rfl) a.length a (Nat.le_refl _) hno k f (b.length + 2) (by rw [← hall]; omega) (by simp)
      have hll := linesL_len attr a
      have hla : linesL attr (sk.extract 0 n).data.toList = linesL attr a := by rw [e1]
      rw [hla] at hln
      obtain ⟨y, hy⟩ : ∃ y : ByteArray, y = ⟨(linesL attr a).toArray⟩ := ⟨_, rfl⟩
      have hyl : y.data.toList = linesL attr a := by rw [hy]
      have hys : y.size ≤ n := by rw [Lib.size_eq, hyl]; omega
      rw [← hy] at hln
      have HY := Lib.hid hyl
      obtain ⟨x, m, hxm⟩ : ∃ x m, refX b = (x, m) := ⟨_, _, rfl⟩
      rw [hxm] at hrf
      have hc0 : (0 : Int) ≤ (n : Int) := by omega
      have hc1 : (n : Int) ≤ (sk.size : Int) := by omega
      have hc2 : n ≤ sk.size := by omega
      by_cases hm : m = 0
      · have HE : Hid (r = .error (k + n)) := Lib.hid (by
          rw [← HR.out, HU.out, hUa, unL_amp_bad attr b (b.length + 1) (k + n) (by rw [hxm, hm])]
          rfl)
        subst hm
        have HBL := Lib.hid hbl
        clear hi hno HU hix hy hyl hUa hla e1 e2 hall hal hsp ha hb h1 h2 hn hnl hxm hg hlenK hbl hlenS hll
        go_wp2_with fail
        refine (hx _).mono ?_
        rintro e w' ⟨rfl, rfl⟩
        go_wp2_with fail
        refine (hln _ hGr).mono ?_
        rintro e w1 ⟨rfl, hb1⟩
        have HB1 := Lib.hid (isb_below HB.out hb1)
        have HW1 := Lib.hid (HW.out.trans (hb1.mono hBw))
        clear hb1
        have hBw1 : w.heap.size ≤ w1.heap.size := HW1.out.size
        go_wp2_with fail
        refine (write_any w.heap.size w.heap.size _ y w1 HB1.out (by rw [Lib.byteCells_length]; omega) hBw1).mono ?_
        rintro e w2 ⟨⟨v, rfl⟩, hB2, hb2⟩
        have HW2 := Lib.hid (HW1.out.trans hb2)
        clear hB2 hb2
        go_wp2_with fail
        refine (hrf _ (hG.next HW2.out)).mono ?_
        rintro e w3 ⟨rfl, hb3⟩
        have HW3 := Lib.hid (HW2.out.trans (hb3.mono HW2.out.size))
        clear hb3
        go_wp2_with fail
        refine (fail_any _ 16 _).mono ?_
        rintro e w4 ⟨rfl, rfl⟩
        obtain rfl := HE.out
        exact ⟨rfl, rfl, HW3.out⟩
      · obtain ⟨hU2, hmb, hm2, hxn⟩ := unL_amp_ok attr b (b.length + 1) (k + n) m x hxm hm
        have e3 : sk.extract (n + m) sk.size = ⟨((38 :: b).drop m).toArray⟩ := ba_extL (by rw [extract_L, toL, ← List.drop_drop, hsp, List.take_of_length_le (by simp; omega)])
        have hxl : x.length ≤ 4 := by
          unfold refX at hxm
          cases hs : semi b with
          | none => rw [hs] at hxm; simp at hxm; omega
          | some p =>
            obtain ⟨t, q⟩ := p
            rw [hs] at hxm
            simp only at hxm
            cases hv : refV t with
            | none => rw [hv] at hxm; simp at hxm; omega
            | some x' =>
              rw [hv] at hxm
              simp only [Prod.mk.injEq] at hxm
              rw [← hxm.1]
              exact refV_le hv
        have HN : Hid (unL attr (s.size + 1) s.data.toList at_ = (unL attr (b.length + 1) (sk.extract (n + m) sk.size).data.toList (k + n + m)).map ((out ++ linesL attr a ++ x) ++ ·)) := Lib.hid (by
          rw [HU.out, hUa, hU2, e3, toL, map_two, map_two])
        have hes : (sk.extract (n + m) sk.size).size = sk.size - (n + m) := by simp
        obtain ⟨z, hz⟩ : ∃ z : ByteArray, z = ⟨x.toArray⟩ := ⟨_, rfl⟩
        have hzl : z.data.toList = x := by rw [hz]
        have hzs : z.size ≤ 4 := by rw [Lib.size_eq, hzl]; exact hxl
        rw [← hz] at hrf
        have HZ := Lib.hid hzl
        have HX := Lib.hid (show (linesL attr a).length ≤ n by omega)
        have HXL := Lib.hid hxl
        have HBL := Lib.hid hbl
        have HES := Lib.hid hes
        have hm0 : ((m : Int) == 0) = false := by simpa using hm
        have hc3 : (n : Int) + (m : Int) ≤ (sk.size : Int) := by omega
        have hc4 : (0 : Int) ≤ (n : Int) + (m : Int) := by omega
        clear hi hno HU hix hy hyl hUa hla e1 e2 hall hal hsp ha hb h1 h2 hn hnl hxm hg hlenK hbl hlenS hll hU2 e3 hz hzl hxn hxl hes
        go_wp2_with fail
        refine (hx _).mono ?_
        rintro e w' ⟨rfl, rfl⟩
        go_wp2_with fail
        refine (hln _ hGr).mono ?_
        rintro e w1 ⟨rfl, hb1⟩
        have HB1 := Lib.hid (isb_below HB.out hb1)
        have HW1 := Lib.hid (HW.out.trans (hb1.mono hBw))
        clear hb1
        have hBw1 : w.heap.size ≤ w1.heap.size := HW1.out.size
        go_wp2_with fail
        refine (write_any w.heap.size w.heap.size _ y w1 HB1.out (by rw [Lib.byteCells_length]; omega) hBw1).mono ?_
        rintro e w2 ⟨⟨v, rfl⟩, hB2, hb2⟩
        rw [Lib.strCells_eq, ← Lib.byteCells_append, HY.out] at hB2
        have HB2 := Lib.hid hB2
        have HW2 := Lib.hid (HW1.out.trans hb2)
        clear hB2 hb2
        have hBw2 : w.heap.size ≤ w2.heap.size := HW2.out.size
        go_wp2_with fail
        refine (hrf _ (hG.next HW2.out)).mono ?_
        rintro e w3 ⟨rfl, hb3⟩
        have HB3 := Lib.hid (isb_below HB2.out hb3)
        have HW3 := Lib.hid (HW2.out.trans (hb3.mono hBw2))
        clear hb3
        have hBw3 : w.heap.size ≤ w3.heap.size := HW3.out.size
        go_wp2_with fail
        refine (write_any w.heap.size w.heap.size _ z w3 HB3.out (by rw [Lib.byteCells_length, List.length_append]; have := HX.out; omega) hBw3).mono ?_
        rintro e w4 ⟨⟨v2, rfl⟩, hB4, hb4⟩
        rw [Lib.strCells_eq, ← Lib.byteCells_append, HZ.out] at hB4
        have HB4 := Lib.hid hB4
        have HW4 := Lib.hid (HW3.out.trans hb4)
        clear hB4 hb4
        go_wp2
        go_roundw
        case rel =>
          have h5 := HBL.out
          have h6 := HX.out
          have h7 := HXL.out
          have h8 := HES.out
          refine ⟨sk.extract (n + m) sk.size, k + n + m, b.length + 1, out ++ linesL attr a ++ x, rfl, ?_, ?_, ?_, ?_, HB4, HW4, HN⟩
          · first | rfl | go_num
          · omega
          · simp only [List.length_append]; omega
          · omega
        case measure =>
          have h8 := HES.out
          have h5 := HBL.out
          simp only [sLen]
          simp at h8 ⊢
          omega
end Go.Proofs.YtlcjepnaljfpkaaGreatDoor
