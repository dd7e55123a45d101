import Derived.Test.YtjohfljkhlkjoaaGreatDoorLeH
import Derived.Test.YtjohfljkhlkjoaaGreatDoorLeA
import Derived.Test.YtjohfljkhlkjoaaGreatDoorMgL
import Derived.Test.YtjohfljkhlkjoaaGreatDoorMgM
import Derived.Test.YtjohfljkhlkjoaaGreatDoorMem3
import Derived.Deep.RegionHeld2
import Derived.Deep.DeepCutAuto
namespace Go.Proofs.YtjohfljkhlkjoaaGreatDoor
open Go.RowKit Wb
theorem toL (l : List UInt8) : (⟨l.toArray⟩ : ByteArray).data.toList = l := rfl
theorem ref_any (b : List UInt8) (s : ByteArray) (hsl : s.data.toList = 38 :: b) (w : World) (hG : Gv w) (hs : s.size ≤ 1000000000) :
    Calls Tryz.prog 64 #[.string s] w fun e w' => e = .returned (.tuple #[.string ⟨(refX b).1.toArray⟩, .int .i64 (refX b).2]) ∧ Below w.heap.size w w' := by
  have hlen : s.size = b.length + 1 := by rw [Lib.size_eq, hsl]; rfl
  have hix : ∀ w, Calls Tryz.prog 61 #[.string s, .int .u8 59] w fun e w' => e = .returned (.int .i64 (Lib.indexByte s.data.toList 59)) ∧ w = w' := fun w =>
    (Tryz.strings_IndexByte s 59 w).mono (by rintro e w' ⟨rfl, rfl⟩; exact ⟨rfl, rfl⟩)
  have hcases : (Lib.indexByte s.data.toList 59 = -1 ∧ semi b = none) ∨ ∃ k : Nat, Lib.indexByte s.data.toList 59 = ((k + 1 : Nat) : Int) ∧ k < b.length ∧ semi b = some (b.take k, b.drop (k + 1)) := by
    rw [hsl]
    have e : Lib.indexByte (38 :: b) 59 = if Lib.indexByte b 59 == -1 then -1 else Lib.indexByte b 59 + 1 := by
      conv => lhs; unfold Lib.indexByte
      rw [if_neg (by decide)]
    have hg := Lib.indexByte_ge b 59
    by_cases h : Lib.indexByte b 59 = -1
    · left
      refine ⟨by rw [e, h]; rfl, semi_none b fun j hj he => ?_⟩
      have := Lib.indexByte_none h j
      rw [List.getElem?_eq_getElem hj, he] at this
      exact this rfl
    · right
      obtain ⟨k, hk⟩ : ∃ k : Nat, Lib.indexByte b 59 = k := ⟨(Lib.indexByte b 59).toNat, by omega⟩
      obtain ⟨h1, h2⟩ := Lib.indexByte_some hk
      have hkl : k < b.length := by
        rcases Nat.lt_or_ge k b.length with h | h
        · exact h
        · rw [List.getElem?_eq_none h] at h1; cases h1
      refine ⟨k, ?_, hkl, semi_some b k hkl ?_ ?_⟩
      · rw [e, hk, if_neg (by simp)]
        rfl
      · rw [List.getElem?_eq_getElem hkl] at h1
        exact Option.some.inj h1
      · intro j hj he
        have := h2 j hj
        rw [List.getElem?_eq_getElem (by omega), he] at this
        exact this rfl
  rcases hcases with ⟨hi, hsm⟩ | ⟨k, hi, hk, hsm⟩
  · have hx : refX b = ([], 0) := by unfold refX; rw [hsm]
    rw [hx]
    rw [hi] at hix
    clear hi hsm hx hsl
    go_enter Tryz.func64, Tryz.ntmps64
    go_wp2_with fail
    refine (hix _).mono ?_
    rintro e w' ⟨rfl, rfl⟩
    go_wp2
    go_ret2
    exact ⟨rfl, Below.refl _ _⟩
  · rw [hi] at hix
    have hex : s.extract 1 (k + 1) = ⟨(b.take k).toArray⟩ := ba_extL (by
      rw [extract_L, hsl]
      simp)
    have hmt : ∀ w, Gv w → Calls Tryz.prog 107 #[.string (s.extract 1 (k + 1))] w fun e w' => e = .returned (.string ⟨(meantX (b.take k)).toArray⟩) ∧ Below w.heap.size w w' := by
      intro w hG
      have := meant_any (s.extract 1 (k + 1)) w hG (by rw [Lib.size_eq, hex, toL, List.length_take]; have := Nat.min_le_left k b.length; omega)
      rw [hex, toL] at this
      rw [hex]
      exact this
    have c1 : (1 : Int) ≤ (k : Int) + 1 := by omega
    have c2 : (k : Int) + 1 ≤ (s.size : Int) := by omega
    cases hv : refV (b.take k) with
    | none =>
      have hx : refX b = ([], 0) := by unfold refX; rw [hsm]; simp only [hv]
      have hm : meantX (b.take k) = [] := by unfold meantX; rw [hv]; rfl
      have h0 : (⟨([] : List UInt8).toArray⟩ : ByteArray).toList.isEmpty = true := by rw [ByteArray.toList_eq]; rfl
      have h1 : (⟨([] : List UInt8).toArray⟩ : ByteArray).toList = [] := by rw [ByteArray.toList_eq]
      rw [hx]
      rw [hm] at hmt
      obtain ⟨z, hz⟩ : ∃ z : ByteArray, (⟨([] : List UInt8).toArray⟩ : ByteArray) = z := ⟨_, rfl⟩
      clear hi hsm hx hsl hv hm hex
      go_enter Tryz.func64, Tryz.ntmps64
      go_wp2_with fail
      refine (hix _).mono ?_
      rintro e w' ⟨rfl, rfl⟩
      go_wp2_with fail
      refine (hmt _ hG).mono ?_
      rintro e w' ⟨rfl, hb⟩
      go_wp2
      go_ret2
      exact ⟨rfl, hb⟩
    | some x =>
      have hx : refX b = (x, (b.take k).length + 2) := by unfold refX; rw [hsm]; simp only [hv]
      have hm : meantX (b.take k) = x := by unfold meantX; rw [hv]; rfl
      have hl : (b.take k).length = k := by rw [List.length_take]; omega
      have hxn := refV_ne hv
      have h0 : (⟨x.toArray⟩ : ByteArray).toList.isEmpty = false := by rw [ByteArray.toList_eq]; simpa using hxn
      have h1 : ¬ (⟨x.toArray⟩ : ByteArray).toList = [] := by rw [ByteArray.toList_eq]; exact hxn
      rw [hx, hl]
      rw [hm] at hmt
      clear hi hsm hx hsl hv hm hex hxn hl
      generalize (⟨x.toArray⟩ : ByteArray) = z at *
      go_enter Tryz.func64, Tryz.ntmps64
      go_wp2_with fail
      refine (hix _).mono ?_
      rintro e w' ⟨rfl, rfl⟩
      go_wp2_with fail
      refine (hmt _ hG).mono ?_
      rintro e w' ⟨rfl, hb⟩
      go_wp2
      go_ret2
      exact ⟨by congr 2, hb⟩
theorem write_any (B b : Nat) (bs : List Value) (s : ByteArray) (w : World) (h : Lib.IsBuilder 82 5 B b bs w) (hlen : bs.length + s.size ≤ 140737488355328) (hBw : B ≤ w.heap.size) :
    Calls Tryz.prog 62 #[.pointer (some ⟨b, 0, none⟩), .string s] w fun e w' => (∃ v, e = .returned v) ∧ Lib.IsBuilder 82 5 B b (bs ++ Lib.strCells s) w' ∧ Below B w w' := by
  refine (Any.Builder_WriteString { Tryz.lays154 with } Tryz.Builder_Extra_154 B b bs s w h hlen hBw).mono ?_
  rintro e w' ⟨rfl, h1, h2⟩
  exact ⟨⟨_, rfl⟩, .inr h1, h2⟩
theorem isb_below {T e : TypeId} {B b : Nat} {bs : List Value} {w w' : World} (h : Lib.IsBuilder T e B b bs w) (hb : Below w.heap.size w w') : Lib.IsBuilder T e B b bs w' := by
  have k : ∀ p, Lib.BuilderAt T e B b p bs w → Lib.BuilderAt T e B b p bs w' := by
    rintro p ⟨h1, v, h2, h3, h4⟩
    exact ⟨h1, v, still_block h2 hb, own_below h3 hb, h4⟩
  exact h.imp (k _) (k _)
def UnOut (o : Except Nat (List UInt8)) (e : Ending) : Prop :=
  match o with
  | .ok x => e = .returned (.string ⟨x.toArray⟩)
  | .error p => e = .panicked [flt p 16]
def sLen : Value → Nat
  | .string b => b.size
  | _ => 0
set_option maxRecDepth 100000 in
set_option maxHeartbeats 1000000 in
theorem unescape_any (s : ByteArray) (attr : Bool) (at_ : Nat) (w : World) (hG : Gv w) (hs : s.size ≤ 100000000) (hat : at_ ≤ 100000000) :
    Calls Tryz.prog 31 #[.string s, .bool attr, .int .i64 at_] w fun e w' => UnOut (unL attr (s.size + 1) s.data.toList at_) e ∧ Below w.heap.size w w' := by
  obtain ⟨r, hr⟩ : ∃ r, unL attr (s.size + 1) s.data.toList at_ = r := ⟨_, rfl⟩
  have HR := Lib.hid hr
  rw [hr]
  clear hr
  have hlenS := Lib.size_eq s
  have hix : ∀ (s : ByteArray) w, Calls Tryz.prog 61 #[.string s, .int .u8 38] w fun e w' => e = .returned (.int .i64 (Lib.indexByte s.data.toList 38)) ∧ w = w' := fun s w =>
    (Tryz.strings_IndexByte s 38 w).mono (by rintro e w' ⟨rfl, rfl⟩; exact ⟨rfl, rfl⟩)
  go_enter Tryz.func31, Tryz.ntmps31
  go_wp2
  go_loopw [0, 2] (fun v0 v2 wr => ∃ (sk : ByteArray) (k f : Nat) (out : List UInt8), v0 = .string sk ∧ v2 = .int .i64 k ∧ k + sk.size ≤ at_ + s.size ∧ out.length + 4 * sk.size ≤ 4 * s.size ∧ sk.size < f ∧
    Hid (Lib.IsBuilder 82 5 w.heap.size w.heap.size (Lib.byteCells out) wr) ∧ Hid (Below w.heap.size w wr) ∧
    Hid (unL attr (s.size + 1) s.data.toList at_ = (unL attr f sk.data.toList k).map (out ++ ·))) (fun v0 _ _ => sLen v0)
  case atStart =>
    refine ⟨s, at_, s.size + 1, [], rfl, rfl, by omega, by simp, by omega, Lib.hid (Lib.fresh_isBuilder 82 5 w), Lib.hid ((Below.refl _ w).alloc (Nat.le_refl _) _), Lib.hid ?_⟩
    cases unL attr (s.size + 1) s.data.toList at_ <;> rfl
  case round =>
    obtain ⟨sk, k, f, out, rfl, rfl, hk, ho, hf, HB, HW, HU⟩ := hrel
    have hlenK := Lib.size_eq sk
    have hGr := hG.next HW.out
    have hBw : w.heap.size ≤ wr.heap.size := HW.out.size
    by_cases hi : Lib.indexByte sk.data.toList 38 = -1
    · have hno : ∀ b ∈ sk.data.toList, b ≠ 38 := by
        intro b hb he
        obtain ⟨j, hj, rfl⟩ := List.mem_iff_getElem.1 hb
        have := Lib.indexByte_none hi j
        rw [List.getElem?_eq_getElem hj, he] at this
        exact this rfl
      have HE : Hid (r = .ok (out ++ linesL attr sk.data.toList)) := Lib.hid (by
        rw [← HR.out, HU.out, unL_seg_end attr _ hno k f (by omega)]
        rfl)
      have hll := linesL_len attr sk.data.toList
      have hx := hix sk
      rw [hi] at hx
      clear hi hno HU hix
      have hln := fun w hG => lines_any sk attr w hG (by omega)
      obtain ⟨y, hy⟩ : ∃ y : ByteArray, y = ⟨(linesL attr sk.data.toList).toArray⟩ := ⟨_, rfl⟩
      have hyl : y.data.toList = linesL attr sk.data.toList := by rw [hy]
      have hys : y.size ≤ sk.size := by rw [Lib.size_eq, hyl]; omega
      rw [← hy] at hln
      have HY := Lib.hid hyl
      clear hy hyl
      go_wp2_with fail
      refine (hx _).mono ?_
      rintro e w' ⟨rfl, rfl⟩
      go_wp2_with fail
      refine (hln _ hGr).mono ?_
      rintro e w1 ⟨rfl, hb1⟩
      have HB1 := Lib.hid (isb_below HB.out hb1)
      have HW1 := Lib.hid (HW.out.trans (hb1.mono hBw))
      clear hb1
      have hBw1 : w.heap.size ≤ w1.heap.size := HW1.out.size
      go_wp2_with fail
      refine (write_any w.heap.size w.heap.size _ y w1 HB1.out (by rw [Lib.byteCells_length]; omega) hBw1).mono ?_
      rintro e w2 ⟨⟨v, rfl⟩, hB2, hb2⟩
      rw [Lib.strCells_eq, ← Lib.byteCells_append, HY.out] at hB2
      have HB2 := Lib.hid hB2
      have HW2 := Lib.hid (HW1.out.trans hb2)
      clear hB2 hb2
      go_wp2_with fail
      refine (Tryz.Builder_String_any w.heap.size w.heap.size _ w2 HB2.out HW2.out.size).mono ?_
      rintro e w3 ⟨rfl, hb3⟩
      have HW3 := Lib.hid (HW2.out.trans hb3)
      clear hb3
      go_wp2
      go_ret
      rw [HE.out]
      exact ⟨rfl, HW3.out⟩
    · have hg := Lib.indexByte_ge sk.data.toList 38
      obtain ⟨n, hn⟩ : ∃ n : Nat, Lib.indexByte sk.data.toList 38 = n := ⟨(Lib.indexByte sk.data.toList 38).toNat, by omega⟩
      obtain ⟨h1, h2⟩ := Lib.indexByte_some hn
      have hnl : n < sk.data.toList.length := by
        rcases Nat.lt_or_ge n sk.data.toList.length with h | h
        · exact h
        · rw [List.getElem?_eq_none h] at h1; cases h1
      rw [List.getElem?_eq_getElem hnl] at h1
      obtain ⟨a, ha⟩ : ∃ a, sk.data.toList.take n = a := ⟨_, rfl⟩
      obtain ⟨b, hb⟩ : ∃ b, sk.data.toList.drop (n + 1) = b := ⟨_, rfl⟩
      have hsp : sk.data.toList.drop n = 38 :: b := by
        rw [List.drop_eq_getElem_cons hnl, Option.some.inj h1, hb]
      have hall : sk.data.toList = a ++ 38 :: b := by rw [← hsp, ← ha, List.take_append_drop]
      have hal : a.length = n := by rw [← ha, List.length_take]; omega
      have hbl : n + b.length + 1 = sk.size := by rw [hlenK, hall, List.length_append, List.length_cons]; omega
      have hno : ∀ c ∈ a, c ≠ 38 := by
        intro c hc he
        obtain ⟨j, hj, rfl⟩ := List.mem_iff_getElem.1 hc
        have := h2 j (by omega)
        rw [hall, List.getElem?_append_left hj, List.getElem?_eq_getElem hj, he] at this
        exact this rfl
      have hx := hix sk
      rw [hn] at hx
      have e1 : sk.extract 0 n = ⟨a.toArray⟩ := ba_extL (by rw [extract_L, toL]; simpa using ha)
      have e2 : sk.extract n sk.size = ⟨(38 :: b).toArray⟩ := ba_extL (by rw [extract_L, toL, hsp, List.take_of_length_le (by simp; omega)])
      have hln := fun w hG => lines_any (sk.extract 0 n) attr w hG (by rw [Lib.size_eq, e1, toL]; omega)
      have hrf := fun w hG => ref_any b (sk.extract n sk.size) (by rw [e2]) w hG (by rw [Lib.size_eq, e2, toL, List.length_cons]; omega)
      have hUa : unL attr f sk.data.toList k = (unL attr (b.length + 2) (38 :: b) (k + n)).map (linesL attr a ++ ·) := by
        rw [hall, ← hal]
        exact unL_seg attr (38 :: b) (.inr rfl) a.length a (Nat.le_refl _) hno k f (b.length + 2) (by rw [← hall]; omega) (by simp)
      have hll := linesL_len attr a
      have hla : linesL attr (sk.extract 0 n).data.toList = linesL attr a := by rw [e1]
      rw [hla] at hln
      obtain ⟨y, hy⟩ : ∃ y : ByteArray, y = ⟨(linesL attr a).toArray⟩ := ⟨_, rfl⟩
      have hyl : y.data.toList = linesL attr a := by rw [hy]
      have hys : y.size ≤ n := by rw [Lib.size_eq, hyl]; omega
      rw [← hy] at hln
      have HY := Lib.hid hyl
      obtain ⟨x, m, hxm⟩ : ∃ x m, refX b = (x, m) := ⟨_, _, rfl⟩
      rw [hxm] at hrf
      have hc0 : (0 : Int) ≤ (n : Int) := by omega
      have hc1 : (n : Int) ≤ (sk.size : Int) := by omega
      have hc2 : n ≤ sk.size := by omega
      by_cases hm : m = 0
      · have HE : Hid (r = .error (k + n)) := Lib.hid (by
          rw [← HR.out, HU.out, hUa, unL_amp_bad attr b (b.length + 1) (k + n) (by rw [hxm, hm])]
          rfl)
        subst hm
        have HBL := Lib.hid hbl
        clear hi hno HU hix hy hyl hUa hla e1 e2 hall hal hsp ha hb h1 h2 hn hnl hxm hg hlenK hbl hlenS hll
        go_wp2_with fail
        refine (hx _).mono ?_
        rintro e w' ⟨rfl, rfl⟩
        go_wp2_with fail
        refine (hln _ hGr).mono ?_
        rintro e w1 ⟨rfl, hb1⟩
        have HB1 := Lib.hid (isb_below HB.out hb1)
        have HW1 := Lib.hid (HW.out.trans (hb1.mono hBw))
        clear hb1
        have hBw1 : w.heap.size ≤ w1.heap.size := HW1.out.size
        go_wp2_with fail
        refine (write_any w.heap.size w.heap.size _ y w1 HB1.out (by rw [Lib.byteCells_length]; omega) hBw1).mono ?_
        rintro e w2 ⟨⟨v, rfl⟩, hB2, hb2⟩
        have HW2 := Lib.hid (HW1.out.trans hb2)
        clear hB2 hb2
        go_wp2_with fail
        refine (hrf _ (hG.next HW2.out)).mono ?_
        rintro e w3 ⟨rfl, hb3⟩
        have HW3 := Lib.hid (HW2.out.trans (hb3.mono HW2.out.size))
        clear hb3
        go_wp2_with fail
        refine (fail_any _ 16 _).mono ?_
        rintro e w4 ⟨rfl, rfl⟩
        obtain rfl := HE.out
        exact ⟨rfl, rfl, HW3.out⟩
      · obtain ⟨hU2, hmb, hm2, hxn⟩ := unL_amp_ok attr b (b.length + 1) (k + n) m x hxm hm
        have e3 : sk.extract (n + m) sk.size = ⟨((38 :: b).drop m).toArray⟩ := ba_extL (by rw [extract_L, toL, ← List.drop_drop, hsp, List.take_of_length_le (by simp; omega)])
        have hxl : x.length ≤ 4 := by
          unfold refX at hxm
          cases hs : semi b with
          | none => rw [hs] at hxm; simp at hxm; omega
          | some p =>
            obtain ⟨t, q⟩ := p
            rw [hs] at hxm
            simp only at hxm
            cases hv : refV t with
            | none => rw [hv] at hxm; simp at hxm; omega
            | some x' =>
              rw [hv] at hxm
              simp only [Prod.mk.injEq] at hxm
              rw [← hxm.1]
              exact refV_le hv
        have HN : Hid (unL attr (s.size + 1) s.data.toList at_ = (unL attr (b.length + 1) (sk.extract (n + m) sk.size).data.toList (k + n + m)).map ((out ++ linesL attr a ++ x) ++ ·)) := Lib.hid (by
          rw [HU.out, hUa, hU2, e3, toL, map_two, map_two])
        have hes : (sk.extract (n + m) sk.size).size = sk.size - (n + m) := by simp
        obtain ⟨z, hz⟩ : ∃ z : ByteArray, z = ⟨x.toArray⟩ := ⟨_, rfl⟩
        have hzl : z.data.toList = x := by rw [hz]
        have hzs : z.size ≤ 4 := by rw [Lib.size_eq, hzl]; exact hxl
        rw [← hz] at hrf
        have HZ := Lib.hid hzl
        have HX := Lib.hid (show (linesL attr a).length ≤ n by omega)
        have HXL := Lib.hid hxl
        have HBL := Lib.hid hbl
        have HES := Lib.hid hes
        have hm0 : ((m : Int) == 0) = false := by simpa using hm
        have hc3 : (n : Int) + (m : Int) ≤ (sk.size : Int) := by omega
        have hc4 : (0 : Int) ≤ (n : Int) + (m : Int) := by omega
        clear hi hno HU hix hy hyl hUa hla e1 e2 hall hal hsp ha hb h1 h2 hn hnl hxm hg hlenK hbl hlenS hll hU2 e3 hz hzl hxn hxl hes
        go_wp2_with fail
        refine (hx _).mono ?_
        rintro e w' ⟨rfl, rfl⟩
        go_wp2_with fail
        refine (hln _ hGr).mono ?_
        rintro e w1 ⟨rfl, hb1⟩
        have HB1 := Lib.hid (isb_below HB.out hb1)
        have HW1 := Lib.hid (HW.out.trans (hb1.mono hBw))
        clear hb1
        have hBw1 : w.heap.size ≤ w1.heap.size := HW1.out.size
        go_wp2_with fail
        refine (write_any w.heap.size w.heap.size _ y w1 HB1.out (by rw [Lib.byteCells_length]; omega) hBw1).mono ?_
        rintro e w2 ⟨⟨v, rfl⟩, hB2, hb2⟩
        rw [Lib.strCells_eq, ← Lib.byteCells_append, HY.out] at hB2
        have HB2 := Lib.hid hB2
        have HW2 := Lib.hid (HW1.out.trans hb2)
        clear hB2 hb2
        have hBw2 : w.heap.size ≤ w2.heap.size := HW2.out.size
        go_wp2_with fail
        refine (hrf _ (hG.next HW2.out)).mono ?_
        rintro e w3 ⟨rfl, hb3⟩
        have HB3 := Lib.hid (isb_below HB2.out hb3)
        have HW3 := Lib.hid (HW2.out.trans (hb3.mono hBw2))
        clear hb3
        have hBw3 : w.heap.size ≤ w3.heap.size := HW3.out.size
        go_wp2_with fail
        refine (write_any w.heap.size w.heap.size _ z w3 HB3.out (by rw [Lib.byteCells_length, List.length_append]; have := HX.out; omega) hBw3).mono ?_
        rintro e w4 ⟨⟨v2, rfl⟩, hB4, hb4⟩
        rw [Lib.strCells_eq, ← Lib.byteCells_append, HZ.out] at hB4
        have HB4 := Lib.hid hB4
        have HW4 := Lib.hid (HW3.out.trans hb4)
        clear hB4 hb4
        go_wp2
        go_roundw
        case rel =>
          have h5 := HBL.out
          have h6 := HX.out
          have h7 := HXL.out
          have h8 := HES.out
          refine ⟨sk.extract (n + m) sk.size, k + n + m, b.length + 1, out ++ linesL attr a ++ x, rfl, ?_, ?_, ?_, ?_, HB4, HW4, HN⟩
          · first | rfl | go_num
          · omega
          · simp only [List.length_append]; omega
          · omega
        case measure =>
          have h8 := HES.out
          have h5 := HBL.out
          simp only [sLen]
          simp at h8 ⊢
          omega
end Go.Proofs.YtjohfljkhlkjoaaGreatDoor

namespace Go.Proofs.YtjohfljkhlkjoaaGreatDoor
open Go.RowKit Wb
theorem heap3 (w : World) (o0 o1 o2 : Obj) : (((w.alloc o0).alloc o1).alloc o2).heap[w.heap.size]? = some o0 ∧ (((w.alloc o0).alloc o1).alloc o2).heap[w.heap.size + 1]? = some o1 ∧
    (((w.alloc o0).alloc o1).alloc o2).heap[w.heap.size + 1 + 1]? = some o2 ∧ (((w.alloc o0).alloc o1).alloc o2).heap.size = w.heap.size + 3 := by
  have e : (((w.alloc o0).alloc o1).alloc o2).heap = ((w.heap.push o0).push o1).push o2 := rfl
  rw [e]
  refine ⟨?_, ?_, ?_, ?_⟩
  · rw [Array.getElem?_push, if_neg (by simp; omega), Array.getElem?_push, if_neg (by simp), Array.getElem?_push, if_pos rfl]
  · rw [Array.getElem?_push, if_neg (by simp), Array.getElem?_push, if_pos (by simp)]
  · rw [Array.getElem?_push, if_pos (by simp)]
  · simp
theorem set_other {w : World} {g : Nat} {o : Obj} (h : w.heap[g]? = some o) {b : Nat} (hb : g ≠ b) (v : Value) : (w.setCell ⟨b, 0, none⟩ v).heap[g]? = some o := by
  rw [Below.heap_setCell _ _ _ _ (by simpa using hb)]; exact h
theorem results3 {P : Program} {fn : Func} {p0 p1 p2 : Tmp} {t0 t1 t2 : TypeId} (h : fn.results = #[.cell p0 t0, .cell p1 t1, .cell p2 t2]) (tmps : Array Value) (w : World) (b0 b1 b2 : Nat) (u0 u1 u2 : TypeId) (v0 v1 v2 : Value)
    (e0 : tmps[p0]?.getD undef = .pointer (some ⟨b0, 0, none⟩)) (e1 : tmps[p1]?.getD undef = .pointer (some ⟨b1, 0, none⟩)) (e2 : tmps[p2]?.getD undef = .pointer (some ⟨b2, 0, none⟩))
    (h0 : w.heap[b0]? = some (.cells #[v0] u0 (0, 0))) (h1 : w.heap[b1]? = some (.cells #[v1] u1 (0, 0))) (h2 : w.heap[b2]? = some (.cells #[v2] u2 (0, 0)))
    (a0 : ∀ w, (isAgg t0).run P w = .ok false w) (a1 : ∀ w, (isAgg t1).run P w = .ok false w) (a2 : ∀ w, (isAgg t2).run P w = .ok false w) :
    (results fn tmps).run P w = .ok (.tuple #[v0, v1, v2]) w := by
  have c0 : w.cell? ⟨b0, 0, none⟩ = some v0 := blk_cell h0 0
  have c1 : w.cell? ⟨b1, 0, none⟩ = some v1 := blk_cell h1 0
  have c2 : w.cell? ⟨b2, 0, none⟩ = some v2 := blk_cell h2 0
  unfold results
  rw [h]
  simp [go_sem, e0, e1, e2, c0, c1, c2, a0, a1, a2]
end Go.Proofs.YtjohfljkhlkjoaaGreatDoor

namespace Go.Proofs.YtjohfljkhlkjoaaGreatDoor
open Go.RowKit Wb
structure Keeps (D : Nat) (w w' : World) : Prop where
  os : w'.os = w.os
  tape : w'.tape = w.tape
  output : w'.output = w.output
  size : w.heap.size ≤ w'.heap.size
  block : ∀ k, k < w.heap.size → k ≠ D → w'.heap[k]? = w.heap[k]?
theorem Keeps.refl (D : Nat) (w : World) : Keeps D w w := ⟨rfl, rfl, rfl, Nat.le_refl _, fun _ _ _ => rfl⟩
theorem Keeps.trans {D : Nat} {a b c : World} (h : Keeps D a b) (k : Keeps D b c) : Keeps D a c :=
  ⟨k.os.trans h.os, k.tape.trans h.tape, k.output.trans h.output, Nat.le_trans h.size k.size, fun i hi hd => (k.block i (Nat.lt_of_lt_of_le hi h.size) hd).trans (h.block i hi hd)⟩
theorem Keeps.of_below {D : Nat} {w w' : World} (h : Below w.heap.size w w') : Keeps D w w' := ⟨h.os, h.tape, h.output, h.size, fun k hk _ => h.block k hk⟩
theorem Keeps.drewN (D : Nat) (w : World) (m : Nat) : Keeps D w (w.drewN m) := ⟨rfl, rfl, rfl, Nat.le_refl _, fun _ _ _ => rfl⟩
theorem Keeps.drew {D : Nat} {a w : World} (h : Keeps D a w) : Keeps D a w.drew := ⟨h.os, h.tape, h.output, h.size, h.block⟩
theorem Keeps.setCell {D : Nat} {a w : World} (h : Keeps D a w) (o : Nat) (v : Value) : Keeps D a (w.setCell ⟨D, o, none⟩ v) :=
  h.trans ⟨rfl, rfl, rfl, by simp [World.setCell], fun k _ hd => Below.heap_setCell _ _ _ _ (by simpa using hd)⟩
theorem Keeps.below {D : Nat} {w w' : World} (h : Keeps D w w') (hD : D < w.heap.size) : Below D w w' := ⟨h.os, h.tape, h.output, h.size, fun k hk => h.block k (by omega) (by omega)⟩
theorem Keeps.gv {D : Nat} {w w' : World} (h : Keeps D w w') (hG : Gv w) (hD : 11 ≤ D) : Gv w' := hG.keep h.size (fun k hk => h.block k (by have := hG.sz; omega) (by omega))
theorem Keeps.next {D : Nat} {a b c : World} (h : Keeps D a b) (k : Below b.heap.size b c) : Keeps D a c := h.trans (Keeps.of_below k)
def DocW (w : World) (D : Nat) (s : ByteArray) (fr at_ : Nat) : Prop := w.heap[D]? = some (.cells #[.string s, .int .i64 fr, .int .i64 at_] 98 (0, 0))
theorem DocW.lt {w : World} {D : Nat} {s : ByteArray} {fr at_ : Nat} (h : DocW w D s fr at_) : D < w.heap.size := by
  rcases Nat.lt_or_ge D w.heap.size with hl | hl
  · exact hl
  · unfold DocW at h
    rw [Array.getElem?_eq_none hl] at h
    cases h
theorem DocW.below {w w' : World} {D : Nat} {s : ByteArray} {fr at_ : Nat} (h : DocW w D s fr at_) (hb : Below w.heap.size w w') : DocW w' D s fr at_ := (hb.block D h.lt).trans h
theorem DocW.c0 {w : World} {D : Nat} {s : ByteArray} {fr at_ : Nat} (h : DocW w D s fr at_) : w.cell? ⟨D, 0, none⟩ = some (.string s) := blk_cell h 0
theorem DocW.c1 {w : World} {D : Nat} {s : ByteArray} {fr at_ : Nat} (h : DocW w D s fr at_) : w.cell? ⟨D, 1, none⟩ = some (.int .i64 fr) := blk_cell h 1
theorem DocW.c2 {w : World} {D : Nat} {s : ByteArray} {fr at_ : Nat} (h : DocW w D s fr at_) : w.cell? ⟨D, 2, none⟩ = some (.int .i64 at_) := blk_cell h 2
theorem DocW.f {w : World} {D : Nat} {s : ByteArray} {fr at_ : Nat} (h : DocW w D s fr at_) (i : Nat) : w.frozen? ⟨D, i, none⟩ = false := blk_free h i
theorem DocW.set2 {w : World} {D : Nat} {s : ByteArray} {fr at_ : Nat} (h : DocW w D s fr at_) (a : Nat) : DocW (w.setCell ⟨D, 2, none⟩ (.int .i64 a)) D s fr a := blk_set h 2 _
theorem DocW.set1 {w : World} {D : Nat} {s : ByteArray} {fr at_ : Nat} (h : DocW w D s fr at_) (a : Nat) : DocW (w.setCell ⟨D, 1, none⟩ (.int .i64 a)) D s a at_ := blk_set h 1 _
theorem DocW.drewN {w : World} {D : Nat} {s : ByteArray} {fr at_ : Nat} (h : DocW w D s fr at_) (m : Nat) : DocW (w.drewN m) D s fr at_ := h
theorem DocW.drew {w : World} {D : Nat} {s : ByteArray} {fr at_ : Nat} (h : DocW w D s fr at_) : DocW w.drew D s fr at_ := h
theorem rest_any (D : Nat) (s : ByteArray) (fr at_ : Nat) (w : World) (h : DocW w D s fr at_) (hat : at_ ≤ s.size) :
    Calls Tryz.prog 91 #[.pointer (some ⟨D, 0, none⟩)] w fun e w' => e = .returned (.string (s.extract at_ s.size)) ∧ w' = w.drew := by
  have c0 := h.c0
  have c2 := h.c2
  have g1 : (at_ : Int) ≤ (s.size : Int) := by omega
  have g0 : (0 : Int) ≤ (at_ : Int) := by omega
  clear h
  go_enter Tryz.func91, Tryz.ntmps91
  go_wp2
  go_region
  go_wp2
  go_ret
  exact ⟨rfl, rfl⟩
def NextOut (L : List UInt8) (fr at_ : Nat) (e : Ending) : Prop :=
  match L.drop at_ with
  | [] => e = .panicked [flt fr 2]
  | c :: _ => e = .returned (.int .u8 c.toNat)
theorem next_any (D : Nat) (s : ByteArray) (fr at_ : Nat) (w : World) (h : DocW w D s fr at_) (hat : at_ ≤ s.size) :
    Calls Tryz.prog 137 #[.pointer (some ⟨D, 0, none⟩)] w fun e w' => NextOut s.data.toList fr at_ e ∧ ∃ m, w' = w.drewN m := by
  have c0 := h.c0
  have c1 := h.c1
  have c2 := h.c2
  clear h
  by_cases hlt : at_ < s.size
  · have hd : s.data.toList.drop at_ = s[at_] :: s.data.toList.drop (at_ + 1) := drop_ne s at_ hlt
    have HE : Hid (∀ e, NextOut s.data.toList fr at_ e = (e = .returned (.int .u8 s[at_].toNat))) := Lib.hid (fun e => by unfold NextOut; rw [hd])
    have g0 : ((at_ : Int) == (s.size : Int)) = false := by simp; omega
    clear hd
    go_enter Tryz.func137, Tryz.ntmps137
    go_wp2
    go_region
    go_wp2
    go_region
    go_wp2
    go_ret
    exact ⟨by rw [HE.out]; rfl, 2, rfl⟩
  · obtain rfl : at_ = s.size := by omega
    have HE : Hid (∀ e, NextOut s.data.toList fr s.size e = (e = .panicked [flt fr 2])) := Lib.hid (fun e => by unfold NextOut; rw [List.drop_eq_nil_of_le (by rw [← Lib.size_eq]; exact Nat.le_refl _)])
    clear hlt
    go_enter Tryz.func137, Tryz.ntmps137
    go_wp2
    go_region
    go_wp2_with fail
    refine (fail_any fr 2 _).mono ?_
    rintro e w1 ⟨rfl, rfl⟩
    exact ⟨rfl, by rw [HE.out], 1, rfl⟩
theorem blk_all : ∀ n : Fin 256, blkB (UInt8.ofNat n.val) = blk (n.val : Int) := by decide +kernel
theorem blkB_eq (c : UInt8) : blk (c.toNat : Int) = blkB c := by
  have := blk_all ⟨c.toNat, c.toNat_lt⟩
  simp only [UInt8.ofNat_toNat] at this
  exact this.symm
theorem blankC (c : UInt8) (w : World) : Calls Tryz.prog 87 #[.int .u8 (c.toNat : Int)] w fun e w' => e = .returned (.bool (blkB c)) ∧ w = w' := by
  rw [← blkB_eq]; exact blank_any _ w
theorem skip_any (s : ByteArray) (w : World) (hs : s.size ≤ 100000000) :
    Calls Tryz.prog 89 #[.string s] w fun e w' => e = .returned (.string ⟨(s.data.toList.dropWhile blkB).toArray⟩) ∧ w = w' := by
  obtain ⟨r, hr⟩ : ∃ r, s.data.toList.dropWhile blkB = r := ⟨_, rfl⟩
  have HR := Lib.hid hr
  rw [hr]
  clear hr
  go_enter Tryz.func89, Tryz.ntmps89
  go_wp2
  go_loop [0] (fun v => ∃ sk : ByteArray, v = .string sk ∧ sk.size ≤ 100000000 ∧ Hid (sk.data.toList.dropWhile blkB = r)) (fun v => sLen v)
  case atStart => exact ⟨s, rfl, hs, HR⟩
  case round =>
    obtain ⟨sk, rfl, hsk, HK⟩ := hrel
    by_cases h0 : 0 < sk.size
    · have hd : sk.data.toList = sk[0] :: sk.data.toList.drop 1 := by have := drop_ne sk 0 h0; simpa using this
      have e0 : sk.toList.isEmpty = false := by
        rw [ByteArray.toList_eq, hd]; rfl
      have e1 : ¬ sk.toList = [] := by
        rw [ByteArray.toList_eq, hd]; simp
      cases hb : blkB sk[0]
      · have HE : Hid (r = sk.data.toList) := Lib.hid (by rw [← HK.out, hd, List.dropWhile_cons, hb]; rfl)
        have HBB := Lib.hid hb
        clear hb hd HK
        go_wp2_with fail
        refine (blankC _ _).mono ?_
        rw [HBB.out]
        rintro e w1 ⟨rfl, rfl⟩
        go_wp2
        go_ret
        rw [HE.out]
        exact ⟨rfl, rfl⟩
      · have HN : Hid ((sk.extract 1 sk.size).data.toList.dropWhile blkB = r) := Lib.hid (by
          rw [← HK.out]
          conv => rhs; rw [hd, List.dropWhile_cons, hb]
          rw [extract_L, List.take_of_length_le (by simp)]
          rfl)
        have HBB := Lib.hid hb
        have h1 : (1 : Int) ≤ (sk.size : Int) := by omega
        clear hb hd HK
        go_wp2_with fail
        refine (blankC _ _).mono ?_
        rw [HBB.out]
        rintro e w1 ⟨rfl, rfl⟩
        go_wp2
        go_round
        case rel => exact ⟨sk.extract 1 sk.size, rfl, by simp; omega, HN⟩
        case measure => simp [sLen]; omega
    · have hz : sk = ⟨#[]⟩ := by
        apply ByteArray.ext
        exact Array.eq_empty_of_size_eq_zero (by have : sk.data.size = sk.size := rfl; omega)
      subst hz
      have HE : Hid (r = []) := Lib.hid (by rw [← HK.out]; rfl)
      have e0 : (⟨#[]⟩ : ByteArray).toList.isEmpty = true := by rw [ByteArray.toList_eq]; rfl
      have e1 : (⟨#[]⟩ : ByteArray).toList = [] := by rw [ByteArray.toList_eq]
      clear HK
      go_wp2
      go_ret
      rw [HE.out]
      exact ⟨rfl, rfl⟩
def sWordEnd : List UInt8 := [47, 62, 61, 60, 34, 39, 38]
theorem word_all : ∀ n : Fin 256, wordB (UInt8.ofNat n.val) = (!(blkB (UInt8.ofNat n.val)) && decide (Lib.indexByte sWordEnd (UInt8.ofNat n.val) < 0)) := by decide +kernel
theorem wordB_eq (c : UInt8) : wordB c = (!(blkB c) && decide (Lib.indexByte sWordEnd c < 0)) := by
  have := word_all ⟨c.toNat, c.toNat_lt⟩
  simp only [UInt8.ofNat_toNat] at this
  exact this
theorem ofWord_any (c : UInt8) (w : World) : Calls Tryz.prog 196 #[.int .u8 (c.toNat : Int)] w fun e w' => e = .returned (.bool (wordB c)) ∧ w = w' := by
  have hix : ∀ w, Calls Tryz.prog 61 #[.string ⟨#[47, 62, 61, 60, 34, 39, 38]⟩, .int .u8 (c.toNat : Int)] w fun e w' => e = .returned (.int .i64 (Lib.indexByte sWordEnd c)) ∧ w = w' := fun w =>
    (Tryz.strings_IndexByte ⟨#[47, 62, 61, 60, 34, 39, 38]⟩ c.toNat w).mono (by
      rintro e w' ⟨rfl, rfl⟩
      refine ⟨?_, rfl⟩
      simp [sWordEnd])
  have HW := Lib.hid (wordB_eq c)
  rw [HW.out]
  clear HW
  cases hb : blkB c
  · have HB := Lib.hid hb
    clear hb
    generalize Lib.indexByte sWordEnd c = v at *
    go_enter Tryz.func196, Tryz.ntmps196
    go_wp2_with fail
    refine (blankC _ _).mono ?_
    rw [HB.out]
    rintro e w1 ⟨rfl, rfl⟩
    go_wp2_with fail
    refine (hix _).mono ?_
    rintro e w1 ⟨rfl, rfl⟩
    go_wp2
    go_ret
    exact ⟨rfl, rfl⟩
  · have HB := Lib.hid hb
    clear hb hix
    go_enter Tryz.func196, Tryz.ntmps196
    go_wp2_with fail
    refine (blankC _ _).mono ?_
    rw [HB.out]
    rintro e w1 ⟨rfl, rfl⟩
    go_wp2
    go_ret
    exact ⟨rfl, rfl⟩
end Go.Proofs.YtjohfljkhlkjoaaGreatDoor

namespace Go.Proofs.YtjohfljkhlkjoaaGreatDoor
open Go.RowKit Wb
def UnitOut (D : Nat) (s : ByteArray) (fr : Nat) (m : Er Nat) (w : World) (e : Ending) (w' : World) : Prop :=
  Keeps D w w' ∧ match m with
  | .ok a => e = .returned (.tuple #[]) ∧ DocW w' D s fr a
  | .error (p, c) => e = .panicked [flt p c]
theorem take_any (D : Nat) (s : ByteArray) (fr at_ : Nat) (c : UInt8) (w : World) (h : DocW w D s fr at_) (hat : at_ ≤ s.size) (hs : s.size ≤ 1000000) :
    Calls Tryz.prog 136 #[.pointer (some ⟨D, 0, none⟩), .int .u8 (c.toNat : Int)] w fun e w' => UnitOut D s fr (takeX s.data.toList fr at_ c) w e w' := by
  have hnx := next_any D s fr at_ w h hat
  have H := Lib.hid h
  cases hl : s.data.toList.drop at_ with
  | nil =>
    have e1 : takeX s.data.toList fr at_ c = .error (fr, 2) := by unfold takeX; rw [hl]
    have e2 : ∀ e, NextOut s.data.toList fr at_ e → e = .panicked [flt fr 2] := fun e he => by unfold NextOut at he; rw [hl] at he; exact he
    rw [e1]
    clear hl e1 h
    go_enter Tryz.func136, Tryz.ntmps136
    go_wp2_with fail
    refine hnx.mono ?_
    rintro e w1 ⟨he, m, rfl⟩
    obtain rfl := e2 e he
    exact ⟨rfl, Keeps.drewN D w m, rfl⟩
  | cons d r =>
    have e2 : ∀ e, NextOut s.data.toList fr at_ e → e = .returned (.int .u8 (d.toNat : Int)) := fun e he => by unfold NextOut at he; rw [hl] at he; exact he
    by_cases hd : d = c
    · subst hd
      have e1 : takeX s.data.toList fr at_ d = .ok (at_ + 1) := by unfold takeX; rw [hl]; simp
      rw [e1]
      clear hl e1
      have c2 := h.c2
      have f2 := h.f 2
      have hn : ∀ m, (w.drewN m).cell? ⟨D, 2, none⟩ = some (.int .i64 at_) := fun m => h.c2
      have hf : ∀ m, (w.drewN m).frozen? ⟨D, 2, none⟩ = false := fun m => h.f 2
      clear h
      go_enter Tryz.func136, Tryz.ntmps136
      go_wp2_with fail
      refine hnx.mono ?_
      rintro e w1 ⟨he, m, rfl⟩
      obtain rfl := e2 e he
      go_wp2
      go_end0
      exact ⟨(Keeps.drewN D w m).setCell 2 _, rfl, (H.out.drewN m).set2 (at_ + 1)⟩
    · have e1 : takeX s.data.toList fr at_ c = .error (at_, 4) := by unfold takeX; rw [hl]; simp [hd]
      rw [e1]
      have hne : ((d.toNat : Int) == (c.toNat : Int)) = false := by
        simp only [beq_eq_false_iff_ne, ne_eq]
        intro e
        exact hd (UInt8.toNat_inj.1 (by omega))
      clear hl e1 hd
      have c2 := h.c2
      have f2 := h.f 2
      clear h
      go_enter Tryz.func136, Tryz.ntmps136
      go_wp2_with fail
      refine hnx.mono ?_
      rintro e w1 ⟨he, m, rfl⟩
      obtain rfl := e2 e he
      go_wp2_with fail
      refine (fail_any at_ 4 _).mono ?_
      rintro e w2 ⟨rfl, rfl⟩
      exact ⟨rfl, Keeps.drewN D w m, rfl⟩
def StrOut (D : Nat) (s : ByteArray) (fr : Nat) (m : Er (List UInt8 × Nat)) (w : World) (e : Ending) (w' : World) : Prop :=
  Keeps D w w' ∧ match m with
  | .ok (x, a) => e = .returned (.string ⟨x.toArray⟩) ∧ DocW w' D s fr a
  | .error (p, c) => e = .panicked [flt p c]
theorem index_until (p : List UInt8) (hp : p ≠ []) : ∀ l : List UInt8, (Lib.index l p = -1 ∧ untilR p l = none) ∨ ∃ k : Nat, Lib.index l p = k ∧ k + p.length ≤ l.length ∧ untilR p l = some (k + p.length, l.take k)
  | [] => by
    left
    refine ⟨?_, ?_⟩
    · unfold Lib.index
      cases p with
      | nil => exact absurd rfl hp
      | cons c r => rfl
    · unfold untilR; rw [if_neg hp]
  | c :: l => by
    by_cases h : (c :: l).take p.length = p
    · right
      refine ⟨0, ?_, ?_, ?_⟩
      · unfold Lib.index
        rw [if_pos (by rw [pre_take, decide_eq_true h])]
        rfl
      · have := congrArg List.length h
        rw [List.length_take] at this
        omega
      · unfold untilR
        rw [if_pos h]
        simp
    · have e : Lib.index (c :: l) p = if Lib.index l p == -1 then -1 else Lib.index l p + 1 := by
        conv => lhs; unfold Lib.index
        rw [if_neg (by rw [pre_take, decide_eq_false h]; simp)]
      rcases index_until p hp l with ⟨h1, h2⟩ | ⟨k, h1, h2, h3⟩
      · left
        refine ⟨by rw [e, h1]; rfl, ?_⟩
        unfold untilR
        rw [if_neg h, h2]
      · right
        refine ⟨k + 1, ?_, by simp; omega, ?_⟩
        · rw [e, h1, if_neg (by simp)]
          rfl
        · unfold untilR
          rw [if_neg h, h3]
          simp
          omega
theorem cut_until (p : List UInt8) (hp : p ≠ []) (l : List UInt8) :
    (untilR p l = none ∧ Lib.cut l p = (l, [], false)) ∨ ∃ n v, untilR p l = some (n, v) ∧ Lib.cut l p = (v, l.drop n, true) ∧ n = v.length + p.length ∧ n ≤ l.length := by
  rcases index_until p hp l with ⟨h1, h2⟩ | ⟨k, h1, h2, h3⟩
  · left
    refine ⟨h2, ?_⟩
    unfold Lib.cut
    rw [h1, if_neg (by decide)]
  · right
    refine ⟨k + p.length, l.take k, h3, ?_, ?_, h2⟩
    · unfold Lib.cut
      rw [h1, if_pos (by omega)]
      simp
    · rw [List.length_take, Nat.min_eq_left (by omega)]
theorem scut_any (s p : ByteArray) (w : World) (hG : Gv w) (hs : s.size ≤ 100000000) :
    Calls Tryz.prog 125 #[.string s, .string p] w fun e w' => e = .returned (.tuple #[.string ⟨(Lib.cut s.data.toList p.data.toList).1.toArray⟩, .string ⟨(Lib.cut s.data.toList p.data.toList).2.1.toArray⟩, .bool (Lib.cut s.data.toList p.data.toList).2.2]) ∧ ∃ n, w' = w.drewN n := by
  obtain ⟨m, hm⟩ := hG.ml
  exact Tryz.strings_Cut s p m w (by omega) hm
theorem upTo_any (D : Nat) (s p : ByteArray) (fr at_ : Nat) (w : World) (h : DocW w D s fr at_) (hG : Gv w) (hat : at_ ≤ s.size) (hs : s.size ≤ 1000000) (hp : p.data.toList ≠ []) (hps : p.size ≤ 1000) :
    Calls Tryz.prog 133 #[.pointer (some ⟨D, 0, none⟩), .string p] w fun e w' => StrOut D s fr (upToX s.data.toList fr at_ p.data.toList) w e w' := by
  have H := Lib.hid h
  have hrest := rest_any D s fr at_ w h hat
  have hex : (s.extract at_ s.size).data.toList = s.data.toList.drop at_ := by rw [extract_L, List.take_of_length_le (by simp)]
  have hct := scut_any (s.extract at_ s.size) p w.drew hG.drew (by simp; omega)
  rw [hex] at hct
  rcases cut_until p.data.toList hp (s.data.toList.drop at_) with ⟨h1, h2⟩ | ⟨n, v, h1, h2, h3, h4⟩
  · have e1 : upToX s.data.toList fr at_ p.data.toList = .error (fr, 2) := by unfold upToX; rw [h1]
    rw [h2] at hct
    rw [e1]
    have c1 := h.c1
    clear h1 h2 e1 h hex
    generalize (⟨(s.data.toList.drop at_).toArray⟩ : ByteArray) = z at *
    generalize (⟨([] : List UInt8).toArray⟩ : ByteArray) = z0 at *
    go_enter Tryz.func133, Tryz.ntmps133
    go_wp2_with fail
    refine hrest.mono ?_
    rintro e w1 ⟨rfl, rfl⟩
    go_wp2_with fail
    refine hct.mono ?_
    rintro e w1 ⟨rfl, m, rfl⟩
    go_wp2_with fail
    refine (fail_any fr 2 _).mono ?_
    rintro e w2 ⟨rfl, rfl⟩
    exact ⟨rfl, Keeps.drewN D w (1 + m), rfl⟩
  · have e1 : upToX s.data.toList fr at_ p.data.toList = .ok (v, at_ + n) := by unfold upToX; rw [h1]
    rw [h2] at hct
    rw [e1]
    obtain ⟨z, hz⟩ : ∃ z : ByteArray, (⟨v.toArray⟩ : ByteArray) = z := ⟨_, rfl⟩
    have HZ := Lib.hid hz
    have hvl : (⟨v.toArray⟩ : ByteArray).size + p.size = n := by rw [Lib.size_eq, Lib.size_eq p, h3]
    have hn1 : n ≤ s.size := by rw [List.length_drop] at h4; rw [Lib.size_eq]; omega
    rw [hz] at hvl
    have HV := Lib.hid hvl
    simp only [hz] at hct
    have c2 := h.c2
    have f2 := h.f 2
    clear h1 h2 h3 h4 e1 h hex hvl hz
    generalize (⟨((s.data.toList.drop at_).drop n).toArray⟩ : ByteArray) = z0 at *
    go_enter Tryz.func133, Tryz.ntmps133
    go_wp2_with fail
    refine hrest.mono ?_
    rintro e w1 ⟨rfl, rfl⟩
    go_wp2_with fail
    refine hct.mono ?_
    rintro e w1 ⟨rfl, m, rfl⟩
    have b1 : (z.size : Int) ≤ 1000000 := by have := HV.out; omega
    have e : (at_ : Int) + ((z.size : Int) + (p.size : Int)) = ((at_ + n : Nat) : Int) := by have := HV.out; omega
    have HE := Lib.hid e
    clear e
    go_wp2
    go_ret
    rw [HE.out]
    exact ⟨(Keeps.drewN D w (1 + m)).setCell 2 _, by rw [HZ.out]; rfl, (H.out.drewN (1 + m)).set2 (at_ + n)⟩
end Go.Proofs.YtjohfljkhlkjoaaGreatDoor

namespace Go.Proofs.YtjohfljkhlkjoaaGreatDoor
open Go.RowKit Wb
theorem dropW_len (L : List UInt8) (at_ : Nat) : ((L.drop at_).dropWhile blkB).length + blankN L at_ = (L.drop at_).length := by
  unfold blankN
  conv => rhs; rw [← List.takeWhile_append_dropWhile (p := blkB) (l := L.drop at_)]
  rw [List.length_append]
  omega
theorem blankN_le (L : List UInt8) (at_ : Nat) (h : at_ ≤ L.length) : at_ + blankN L at_ ≤ L.length := by
  have := dropW_len L at_
  rw [List.length_drop] at this
  omega
theorem blanks_any (D : Nat) (s : ByteArray) (fr at_ : Nat) (w : World) (h : DocW w D s fr at_) (hat : at_ ≤ s.size) (hs : s.size ≤ 1000000) :
    Calls Tryz.prog 135 #[.pointer (some ⟨D, 0, none⟩)] w fun e w' => e = .returned (.bool (decide (0 < blankN s.data.toList at_))) ∧ Keeps D w w' ∧ DocW w' D s fr (at_ + blankN s.data.toList at_) := by
  have H := Lib.hid h
  have hr1 := rest_any D s fr at_ w h hat
  have hr2 := rest_any D s fr at_ w.drew h hat
  have hex : (s.extract at_ s.size).data.toList = s.data.toList.drop at_ := by rw [extract_L, List.take_of_length_le (by simp)]
  have hsk := skip_any (s.extract at_ s.size)
  rw [hex] at hsk
  have hln := dropW_len s.data.toList at_
  have hle := blankN_le s.data.toList at_ (by rw [← Lib.size_eq]; exact hat)
  rw [← Lib.size_eq] at hle
  obtain ⟨z, hz⟩ : ∃ z : ByteArray, z = ⟨((s.data.toList.drop at_).dropWhile blkB).toArray⟩ := ⟨_, rfl⟩
  have hzs : z.size + blankN s.data.toList at_ = s.size - at_ := by
    rw [Lib.size_eq z, hz, toL, hln, List.length_drop, ← Lib.size_eq]
  rw [← hz] at hsk
  obtain ⟨n, hn⟩ : ∃ n, blankN s.data.toList at_ = n := ⟨_, rfl⟩
  rw [hn] at hzs hle ⊢
  have he : (s.extract at_ s.size).size = s.size - at_ := by simp
  have c2 := h.c2
  have f2 := h.f 2
  have hsz : (s.extract at_ s.size).size ≤ 100000000 := by omega
  have HC := Lib.hid (show (at_ : Int) + (((s.extract at_ s.size).size : Int) - (z.size : Int)) = ((at_ + n : Nat) : Int) by omega)
  have HF := Lib.hid (show decide (z.size < (s.extract at_ s.size).size) = decide (0 < n) by
    congr 1
    simp only [eq_iff_iff]
    omega)
  clear hex hln hz hn h he
  generalize s.extract at_ s.size = q at *
  go_enter Tryz.func135, Tryz.ntmps135
  go_wp2_with fail
  refine hr1.mono ?_
  rintro e w1 ⟨rfl, rfl⟩
  go_wp2_with fail
  refine hr2.mono ?_
  rintro e w1 ⟨rfl, rfl⟩
  go_wp2_with fail
  refine (hsk _ hsz).mono ?_
  rintro e w1 ⟨rfl, rfl⟩
  go_wp2
  go_ret
  rw [HC.out, HF.out]
  exact ⟨rfl, (((Keeps.refl D w).setCell 2 _).drew).drew, ((H.out.set2 (at_ + n)).drew).drew⟩
theorem takeW_take (p : UInt8 → Bool) : ∀ (l : List UInt8) (n : Nat), (∀ j (h : j < l.length), j < n → p l[j] = true) → n ≤ l.length → (∀ h : n < l.length, p l[n] = false) → l.takeWhile p = l.take n
  | [], n, _, h, _ => by simp
  | c :: l, 0, _, _, h0 => by
    have := h0 (by simp)
    simp only [List.getElem_cons_zero] at this
    simp [this]
  | c :: l, n + 1, h, hn, h0 => by
    have hc := h 0 (by simp) (by omega)
    simp only [List.getElem_cons_zero] at hc
    rw [List.takeWhile_cons, hc, if_pos rfl, List.take_succ_cons, takeW_take p l n (fun j hj hjn => by have := h (j + 1) (by simpa using hj) (by omega); simpa using this) (by simpa using hn) (fun hl => by have := h0 (by simpa using hl); simpa using this)]
theorem word_is (s : ByteArray) (at_ k : Nat) (hk : at_ ≤ k) (hks : k ≤ s.size) (hall : ∀ j (h : j < s.size), at_ ≤ j → j < k → wordB s[j] = true) (hend : ∀ h : k < s.size, wordB s[k] = false) :
    (s.data.toList.drop at_).takeWhile wordB = (s.extract at_ k).data.toList := by
  rw [extract_L]
  refine takeW_take wordB _ _ ?_ ?_ ?_
  · intro j hj hjn
    rw [List.getElem_drop]
    have hl := Lib.size_eq s
    have := hall (at_ + j) (by rw [List.length_drop] at hj; omega) (by omega) (by omega)
    exact this
  · rw [List.length_drop, ← Lib.size_eq]; omega
  · intro h
    rw [List.getElem_drop]
    have hl := Lib.size_eq s
    have hkk : at_ + (k - at_) = k := by omega
    have := hend (by rw [List.length_drop] at h; omega)
    simp only [hkk]
    exact this
theorem word_any (D : Nat) (s : ByteArray) (fr at_ : Nat) (w : World) (h : DocW w D s fr at_) (hat : at_ ≤ s.size) (hs : s.size ≤ 1000000) :
    Calls Tryz.prog 165 #[.pointer (some ⟨D, 0, none⟩)] w fun e w' => e = .returned (.string ⟨(wordX s.data.toList at_).toArray⟩) ∧ ∃ m, w' = w.drewN m := by
  have c0 := h.c0
  have c2 := h.c2
  clear h
  obtain ⟨r, hr⟩ : ∃ r, wordX s.data.toList at_ = r := ⟨_, rfl⟩
  have HR := Lib.hid hr
  rw [hr]
  clear hr
  have hwd := fun (c : UInt8) w => ofWord_any c w
  go_enter Tryz.func165, Tryz.ntmps165
  go_wp2
  go_loop [3] (fun v => ∃ k : Nat, v = .int .i64 k ∧ at_ ≤ k ∧ k ≤ s.size ∧ Hid (∀ j (h : j < s.size), at_ ≤ j → j < k → wordB s[j] = true)) (fun v => s.size - (intOf v).toNat)
  case atStart => exact ⟨at_, rfl, Nat.le_refl _, hat, Lib.hid (fun j _ h1 h2 => absurd h2 (by omega))⟩
  case round =>
    obtain ⟨k, rfl, hk, hks, HA⟩ := hrel
    by_cases hlt : k < s.size
    · cases hb : wordB s[k]
      · have HW := Lib.hid (word_is s at_ k hk hks HA.out (fun _ => hb))
        have HB := Lib.hid hb
        by_cases hlen : k - at_ ≤ 129
        · have HE : Hid (r = (s.extract at_ k).data.toList) := Lib.hid (by
            rw [← HR.out]
            unfold wordX
            rw [HW.out, if_pos (by rw [← Lib.size_eq]; simp; omega)])
          have l1 : ¬ (129 : Int) < (k : Int) - (at_ : Int) := by omega
          have l2 : (at_ : Int) ≤ (k : Int) := by omega
          have l3 : (k : Int) ≤ (s.size : Int) := by omega
          clear hb HA hlen
          go_wp2_with fail
          refine (hwd _ _).mono ?_
          rw [HB.out]
          rintro e w1 ⟨rfl, rfl⟩
          go_wp2
          go_region
          go_wp2
          go_ret
          rw [HE.out]
          exact ⟨rfl, 1, rfl⟩
        · have HE : Hid (r = []) := Lib.hid (by
            rw [← HR.out]
            unfold wordX
            rw [HW.out, if_neg (by rw [← Lib.size_eq]; simp; omega)])
          have l1 : (129 : Int) < (k : Int) - (at_ : Int) := by omega
          clear hb HA hlen
          go_wp2_with fail
          refine (hwd _ _).mono ?_
          rw [HB.out]
          rintro e w1 ⟨rfl, rfl⟩
          go_wp2
          go_ret
          rw [HE.out]
          exact ⟨rfl, 0, rfl⟩
      · have HN : Hid (∀ j (h : j < s.size), at_ ≤ j → j < k + 1 → wordB s[j] = true) := Lib.hid (fun j hj h1 h2 => by
          by_cases e : j = k
          · subst e; exact hb
          · exact HA.out j hj h1 (by omega))
        have HB := Lib.hid hb
        clear hb HA
        go_wp2_with fail
        refine (hwd _ _).mono ?_
        rw [HB.out]
        rintro e w1 ⟨rfl, rfl⟩
        go_wp2
        go_round
        case rel => exact ⟨k + 1, by go_num, by omega, by omega, HN⟩
        case measure => simp [intOf]; omega
    · obtain rfl : k = s.size := by omega
      have HW := Lib.hid (word_is s at_ s.size hk hks HA.out (fun h => absurd h (by omega)))
      by_cases hlen : s.size - at_ ≤ 129
      · have HE : Hid (r = (s.extract at_ s.size).data.toList) := Lib.hid (by
          rw [← HR.out]
          unfold wordX
          rw [HW.out, if_pos (by rw [← Lib.size_eq]; simp; omega)])
        have l1 : ¬ (129 : Int) < (s.size : Int) - (at_ : Int) := by omega
        have l2 : (at_ : Int) ≤ (s.size : Int) := by omega
        clear HA hlen hlt
        go_wp2
        go_region
        go_wp2
        go_ret
        rw [HE.out]
        exact ⟨rfl, 1, rfl⟩
      · have HE : Hid (r = []) := Lib.hid (by
          rw [← HR.out]
          unfold wordX
          rw [HW.out, if_neg (by rw [← Lib.size_eq]; simp; omega)])
        have l1 : (129 : Int) < (s.size : Int) - (at_ : Int) := by omega
        clear HA hlen hlt
        go_wp2
        go_ret
        rw [HE.out]
        exact ⟨rfl, 0, rfl⟩
end Go.Proofs.YtjohfljkhlkjoaaGreatDoor

namespace Go.Proofs.YtjohfljkhlkjoaaGreatDoor
open Go.RowKit Wb
theorem lenL (s : ByteArray) : s.data.toList.length = s.size := (Lib.size_eq s).symm
theorem DocW.set2' {w : World} {D : Nat} {s : ByteArray} {fr at_ : Nat} (h : DocW w D s fr at_) {a : Nat} {v : Int} (hv : v = (a : Int)) : DocW (w.setCell ⟨D, 2, none⟩ (.int .i64 v)) D s fr a := by
  subst hv; exact h.set2 a
theorem next_k (D : Nat) (s : ByteArray) (fr at_ : Nat) (w : World) (h : DocW w D s fr at_) (hat : at_ ≤ s.size) :
    Calls Tryz.prog 137 #[.pointer (some ⟨D, 0, none⟩)] w fun e w' => NextOut s.data.toList fr at_ e ∧ DocW w' D s fr at_ ∧ Keeps D w w' := by
  refine (next_any D s fr at_ w h hat).mono ?_
  rintro e w' ⟨he, m, rfl⟩
  exact ⟨he, h.drewN m, Keeps.drewN D w m⟩
theorem word_k (D : Nat) (s : ByteArray) (fr at_ : Nat) (w : World) (h : DocW w D s fr at_) (hat : at_ ≤ s.size) (hs : s.size ≤ 1000000) :
    Calls Tryz.prog 165 #[.pointer (some ⟨D, 0, none⟩)] w fun e w' => e = .returned (.string ⟨(wordX s.data.toList at_).toArray⟩) ∧ DocW w' D s fr at_ ∧ Keeps D w w' := by
  refine (word_any D s fr at_ w h hat hs).mono ?_
  rintro e w' ⟨he, m, rfl⟩
  exact ⟨he, h.drewN m, Keeps.drewN D w m⟩
theorem rest_k (D : Nat) (s : ByteArray) (fr at_ : Nat) (w : World) (h : DocW w D s fr at_) (hat : at_ ≤ s.size) :
    Calls Tryz.prog 91 #[.pointer (some ⟨D, 0, none⟩)] w fun e w' => e = .returned (.string (s.extract at_ s.size)) ∧ DocW w' D s fr at_ ∧ Keeps D w w' := by
  refine (rest_any D s fr at_ w h hat).mono ?_
  rintro e w' ⟨he, rfl⟩
  exact ⟨he, h.drew, (Keeps.refl D w).drew⟩
theorem wordX_le (s : ByteArray) (at_ : Nat) (hat : at_ ≤ s.size) : at_ + (wordX s.data.toList at_).length ≤ s.size := by
  unfold wordX
  split
  · have := tw_le wordB (s.data.toList.drop at_)
    rw [List.length_drop, lenL] at this
    omega
  · simpa using hat
theorem next_nil {L : List UInt8} {fr at_ : Nat} (hl : L.drop at_ = []) {e : Ending} (he : NextOut L fr at_ e) : e = .panicked [flt fr 2] := by unfold NextOut at he; rw [hl] at he; exact he
theorem next_cons {L : List UInt8} {fr at_ : Nat} {d : UInt8} {r : List UInt8} (hl : L.drop at_ = d :: r) {e : Ending} (he : NextOut L fr at_ e) : e = .returned (.int .u8 (d.toNat : Int)) := by unfold NextOut at he; rw [hl] at he; exact he
theorem named_any (D : Nat) (s p : ByteArray) (fr at_ : Nat) (w : World) (h : DocW w D s fr at_) (hat : at_ + p.size ≤ s.size) (hs : s.size ≤ 1000000) :
    Calls Tryz.prog 134 #[.pointer (some ⟨D, 0, none⟩), .string p] w fun e w' => StrOut D s fr (namedX s.data.toList fr (at_ + p.size)) w e w' := by
  have HK := Lib.hid ((Keeps.refl D w).setCell 2 (.int .i64 ((at_ : Int) + (p.size : Int))))
  have hnx := next_k D s fr (at_ + p.size) _ (h.set2' (v := (at_ : Int) + (p.size : Int)) (by omega)) hat
  have c2 := h.c2
  have f2 := h.f 2
  have hwd := Lib.hid fun w2 (hw : DocW w2 D s fr (at_ + p.size)) => word_k D s fr (at_ + p.size) w2 hw hat hs
  have hx1 := wordX_le s (at_ + p.size) hat
  have HNN := Lib.hid fun (hl : s.data.toList.drop (at_ + p.size) = []) e (he : NextOut s.data.toList fr (at_ + p.size) e) => next_nil hl he
  have HNC := Lib.hid fun d r (hl : s.data.toList.drop (at_ + p.size) = d :: r) e (he : NextOut s.data.toList fr (at_ + p.size) e) => next_cons hl he
  obtain ⟨r, hr⟩ : ∃ r, namedX s.data.toList fr (at_ + p.size) = r := ⟨_, rfl⟩
  rw [hr]
  unfold namedX at hr
  clear h
  generalize NextOut s.data.toList fr (at_ + p.size) = NO at *
  generalize wordX s.data.toList (at_ + p.size) = x at *
  cases hl : s.data.toList.drop (at_ + p.size) with
  | nil =>
    rw [hl] at hr
    subst hr
    have HNN' := Lib.hid fun e he => HNN.out hl e he
    clear hl HNN HNC
    go_enter Tryz.func134, Tryz.ntmps134
    go_wp2_with fail
    refine hnx.mono ?_
    rintro e w1 ⟨he, hd1, hk1⟩
    obtain rfl := HNN'.out e he
    exact ⟨rfl, HK.out.trans hk1, rfl⟩
  | cons d q =>
    rw [hl] at hr
    simp only at hr
    have HNC' := Lib.hid fun e he => HNC.out _ _ hl e he
    clear hl HNN HNC
    by_cases hx0 : x = []
    · rw [if_pos hx0] at hr
      subst hx0 hr
      have z0 : (⟨([] : List UInt8).toArray⟩ : ByteArray).toList = [] := by rw [ByteArray.toList_eq]
      have z1 : (⟨([] : List UInt8).toArray⟩ : ByteArray).toList.isEmpty = true := by rw [ByteArray.toList_eq]; rfl
      go_enter Tryz.func134, Tryz.ntmps134
      go_wp2_with fail
      refine hnx.mono ?_
      rintro e w1 ⟨he, hd1, hk1⟩
      obtain rfl := HNC'.out e he
      replace HK := Lib.hid (HK.out.trans hk1)
      clear he hk1 c2 f2
      go_wp2_with fail
      refine (hwd.out _ hd1).mono ?_
      rintro e w2 ⟨rfl, hd2, hk2⟩
      replace HK := Lib.hid (HK.out.trans hk2)
      have c2 := hd2.c2
      clear hd1 hk2 hd2
      go_wp2_with fail
      refine (fail_any _ 12 _).mono ?_
      rintro e w3 ⟨rfl, rfl⟩
      exact ⟨rfl, HK.out, rfl⟩
    · rw [if_neg hx0] at hr
      subst hr
      have z0 : ¬ (⟨x.toArray⟩ : ByteArray).toList = [] := by rw [ByteArray.toList_eq]; exact hx0
      have z1 : (⟨x.toArray⟩ : ByteArray).toList.isEmpty = false := by rw [ByteArray.toList_eq]; simpa using hx0
      have hz : (⟨x.toArray⟩ : ByteArray).size = x.length := by rw [Lib.size_eq]
      obtain ⟨z, hze⟩ : ∃ z : ByteArray, (⟨x.toArray⟩ : ByteArray) = z := ⟨_, rfl⟩
      rw [hze] at z0 z1 hz hwd
      have HZ := Lib.hid hze
      have HX := Lib.hid hz
      clear hze hx0 hz
      go_enter Tryz.func134, Tryz.ntmps134
      go_wp2_with fail
      refine hnx.mono ?_
      rintro e w1 ⟨he, hd1, hk1⟩
      obtain rfl := HNC'.out e he
      replace HK := Lib.hid (HK.out.trans hk1)
      clear he hk1 c2 f2
      go_wp2_with fail
      refine (hwd.out _ hd1).mono ?_
      rintro e w2 ⟨rfl, hd2, hk2⟩
      replace HK := Lib.hid (HK.out.trans hk2)
      have c2 := hd2.c2
      have f2 := hd2.f 2
      have HD := Lib.hid hd2
      clear hd1 hk2 hd2
      have b1 : (z.size : Int) ≤ 1000000 := by have := HX.out; omega
      go_wp2
      go_ret
      exact ⟨HK.out.setCell 2 _, by rw [HZ.out]; rfl, HD.out.set2' (by have := HX.out; omega)⟩
theorem idx60 (v : List UInt8) : (Lib.indexByte v 60 = -1 ∧ v.findIdx? (· == 60) = none) ∨ ∃ k : Nat, Lib.indexByte v 60 = k ∧ v.findIdx? (· == 60) = some k ∧ k < v.length := by
  induction v with
  | nil => exact .inl ⟨rfl, rfl⟩
  | cons c v ih =>
    by_cases hc : c = 60
    · subst hc
      right
      exact ⟨0, rfl, rfl, by simp⟩
    · have hb : (c == 60) = false := by simpa using hc
      have e1 : Lib.indexByte (c :: v) 60 = if Lib.indexByte v 60 == -1 then -1 else Lib.indexByte v 60 + 1 := by
        conv => lhs; unfold Lib.indexByte
        rw [if_neg (by simpa using hc)]
      rw [List.findIdx?_cons, hb]
      rcases ih with ⟨h1, h2⟩ | ⟨k, h1, h2, h3⟩
      · left
        exact ⟨by rw [e1, h1]; rfl, by rw [h2]; rfl⟩
      · right
        exact ⟨k + 1, by rw [e1, h1, if_neg (by simp)]; rfl, by rw [h2]; rfl, by simpa using h3⟩
theorem dvalue_any (D : Nat) (s : ByteArray) (fr at_ : Nat) (w : World) (h : DocW w D s fr at_) (hG : Gv w) (hD : 11 ≤ D) (hat : at_ ≤ s.size) (hs : s.size ≤ 1000000) :
    Calls Tryz.prog 166 #[.pointer (some ⟨D, 0, none⟩)] w fun e w' => StrOut D s fr (valueX s.data.toList fr at_) w e w' := by
  have HK := Lib.hid (Keeps.refl D w)
  have hnx := next_k D s fr at_ w h hat
  have HNN := Lib.hid fun (hl : s.data.toList.drop at_ = []) e (he : NextOut s.data.toList fr at_ e) => next_nil hl he
  have HNC := Lib.hid fun d r (hl : s.data.toList.drop at_ = d :: r) e (he : NextOut s.data.toList fr at_ e) => next_cons hl he
  have hup := Lib.hid fun (p : ByteArray) w2 (hw : DocW w2 D s fr (at_ + 1)) (hg : Gv w2) => upTo_any D s p fr (at_ + 1) w2 hw hg
  obtain ⟨r, hr⟩ : ∃ r, valueX s.data.toList fr at_ = r := ⟨_, rfl⟩
  rw [hr]
  unfold valueX at hr
  generalize NextOut s.data.toList fr at_ = NO at *
  clear h
  cases hl : s.data.toList.drop at_ with
  | nil =>
    rw [hl] at hr
    subst hr
    have HNN' := Lib.hid fun e he => HNN.out hl e he
    clear hl HNN HNC
    go_enter Tryz.func166, Tryz.ntmps166
    go_wp2_with fail
    refine hnx.mono ?_
    rintro e w1 ⟨he, hd1, hk1⟩
    obtain rfl := HNN'.out e he
    exact ⟨rfl, HK.out.trans hk1, rfl⟩
  | cons q l =>
    have hlt := drop_cons_len hl
    rw [lenL] at hlt
    have hnxt := drop_cons_next hl
    rw [hl] at hr
    simp only at hr
    have HNC' := Lib.hid fun e he => HNC.out _ _ hl e he
    clear hl HNN HNC
    by_cases hq : q = 34 ∨ q = 39
    · rw [if_pos hq] at hr
      have hup1 := fun w2 hw hg => hup.out ⟨#[q]⟩ w2 hw hg (by omega) hs (by simp) (show 1 ≤ 1000 by omega)
      have eq1 : (⟨#[q]⟩ : ByteArray).data.toList = [q] := rfl
      rw [eq1] at hup1
      unfold upToX at hup1
      rw [hnxt] at hup1
      have hE1 : Utf8.encode 34 = ⟨#[34]⟩ := by kernel_rfl
      have hE2 : Utf8.encode 39 = ⟨#[39]⟩ := by kernel_rfl
      have hix : ∀ (s : ByteArray) w, Calls Tryz.prog 61 #[.string s, .int .u8 60] w fun e w' => e = .returned (.int .i64 (Lib.indexByte s.data.toList 60)) ∧ w = w' := fun s w =>
        (Tryz.strings_IndexByte s 60 w).mono (by rintro e w' ⟨rfl, rfl⟩; exact ⟨rfl, rfl⟩)
      cases hu : untilR [q] l with
      | none =>
        rw [hu] at hr hup1
        simp only at hr
        subst hr
        have HUP := Lib.hid hup1
        clear hup1 hu hnxt eq1 hup
        rcases hq with rfl | rfl
        all_goals
          go_enter Tryz.func166, Tryz.ntmps166
          go_wp2_with fail
          refine hnx.mono ?_
          rintro e w1 ⟨he, hd1, hk1⟩
          obtain rfl := HNC'.out e he
          have c2 := hd1.c2
          have f2 := hd1.f 2
          have HD := Lib.hid (hd1.set2' (a := at_ + 1) (v := (at_ : Int) + 1) rfl)
          replace HK := Lib.hid (hk1.setCell 2 (.int .i64 ((at_ : Int) + 1)))
          clear he hd1 hk1
          go_wp2_with fail
          refine (HUP.out _ HD.out (HK.out.gv hG hD)).mono ?_
          rintro e w2 ⟨hk2, he⟩
          obtain rfl := he
          exact ⟨rfl, HK.out.trans hk2, rfl⟩
      | some nv =>
        obtain ⟨n, v⟩ := nv
        have hnv := untilR_le hu
        have hnl : at_ + 1 + n ≤ s.size := by
          have : l.length = s.data.toList.length - (at_ + 1) := by rw [← hnxt, List.length_drop]
          rw [lenL] at this
          omega
        have hvl : v.length ≤ s.size := by have := hnv.2; omega
        rw [hu] at hr hup1
        simp only at hr
        have HUP := Lib.hid hup1
        have hxv := hix ⟨v.toArray⟩
        rw [toL] at hxv
        have hun := fun w2 hg => unescape_any ⟨v.toArray⟩ true (at_ + 1) w2 hg (by rw [Lib.size_eq, toL]; omega) (by omega)
        rw [Lib.size_eq, toL] at hun
        obtain ⟨z, hz⟩ : ∃ z : ByteArray, (⟨v.toArray⟩ : ByteArray) = z := ⟨_, rfl⟩
        have HZ := Lib.hid hz
        rw [hz] at hxv hun
        rcases idx60 v with ⟨h1, h2⟩ | ⟨k, h1, h2, h3⟩
        · rw [h1] at hxv
          rw [h2] at hr
          simp only at hr
          clear hup1 hu hnxt eq1 hup hnv hix hvl hz h1 h2
          rcases hq with rfl | rfl
          all_goals
            go_enter Tryz.func166, Tryz.ntmps166
            go_wp2_with fail
            refine hnx.mono ?_
            rintro e w1 ⟨he, hd1, hk1⟩
            obtain rfl := HNC'.out e he
            have c2 := hd1.c2
            have f2 := hd1.f 2
            have HD := Lib.hid (hd1.set2' (a := at_ + 1) (v := (at_ : Int) + 1) rfl)
            replace HK := Lib.hid (hk1.setCell 2 (.int .i64 ((at_ : Int) + 1)))
            clear he hd1 hk1
            go_wp2_with fail
            refine (HUP.out _ HD.out (HK.out.gv hG hD)).mono ?_
            rintro e w2 ⟨hk2, he, hd2⟩
            rw [HZ.out] at he
            obtain rfl := he
            replace HK := Lib.hid (HK.out.trans hk2)
            clear hk2
            go_wp2_with fail
            refine (hxv _).mono ?_
            rintro e w3 ⟨rfl, rfl⟩
            go_wp2_with fail
            refine (hun _ (HK.out.gv hG hD)).mono ?_
            rintro e w3 ⟨he, hb3⟩
            replace HK := Lib.hid (HK.out.next hb3)
            have hd3 := Lib.hid (hd2.below hb3)
            clear hb3 hd2
            cases hU : unL true (v.length + 1) v (at_ + 1) with
            | error p =>
              rw [hU] at he hr
              obtain rfl := he
              subst hr
              exact ⟨rfl, HK.out, rfl⟩
            | ok x =>
              rw [hU] at he hr
              obtain rfl := he
              subst hr
              clear hU
              go_wp2
              go_ret
              exact ⟨HK.out, rfl, hd3.out⟩
        · rw [h1] at hxv
          rw [h2] at hr
          simp only at hr
          subst hr
          have h0k : (0 : Int) ≤ (k : Int) := by omega
          clear hup1 hu hnxt eq1 hup hnv hix hz h1 h2 hun
          rcases hq with rfl | rfl
          all_goals
            go_enter Tryz.func166, Tryz.ntmps166
            go_wp2_with fail
            refine hnx.mono ?_
            rintro e w1 ⟨he, hd1, hk1⟩
            obtain rfl := HNC'.out e he
            have c2 := hd1.c2
            have f2 := hd1.f 2
            have HD := Lib.hid (hd1.set2' (a := at_ + 1) (v := (at_ : Int) + 1) rfl)
            replace HK := Lib.hid (hk1.setCell 2 (.int .i64 ((at_ : Int) + 1)))
            clear he hd1 hk1
            go_wp2_with fail
            refine (HUP.out _ HD.out (HK.out.gv hG hD)).mono ?_
            rintro e w2 ⟨hk2, he, hd2⟩
            rw [HZ.out] at he
            obtain rfl := he
            replace HK := Lib.hid (HK.out.trans hk2)
            clear hk2
            go_wp2_with fail
            refine (hxv _).mono ?_
            rintro e w3 ⟨rfl, rfl⟩
            go_wp2_with fail
            refine (fail_any _ 11 _).mono ?_
            rintro e w3 ⟨rfl, rfl⟩
            exact ⟨rfl, HK.out, rfl⟩
    · rw [if_neg hq] at hr
      subst hr
      have n1 : ¬ (q.toNat : Int) = 34 := fun e => hq (.inl (UInt8.toNat_inj.1 (by simpa using (by omega : q.toNat = 34))))
      have n2 : ¬ (q.toNat : Int) = 39 := fun e => hq (.inr (UInt8.toNat_inj.1 (by simpa using (by omega : q.toNat = 39))))
      have q1 : ((q.toNat : Int) != 34) = true := by simpa using n1
      have q2 : ((q.toNat : Int) != 39) = true := by simpa using n2
      clear hq n1 n2
      go_enter Tryz.func166, Tryz.ntmps166
      go_wp2_with fail
      refine hnx.mono ?_
      rintro e w1 ⟨he, hd1, hk1⟩
      obtain rfl := HNC'.out e he
      have c2 := hd1.c2
      clear he hd1
      go_wp2_with fail
      refine (fail_any _ 4 _).mono ?_
      rintro e w3 ⟨rfl, rfl⟩
      exact ⟨rfl, hk1, rfl⟩
end Go.Proofs.YtjohfljkhlkjoaaGreatDoor

namespace Go.Proofs.YtjohfljkhlkjoaaGreatDoor
open Go.RowKit Wb
def AttrOut (D : Nat) (s : ByteArray) (fr : Nat) (m : Er ((List UInt8 × List UInt8) × Nat)) (w : World) (e : Ending) (w' : World) : Prop :=
  Keeps D w w' ∧ match m with
  | .ok ((n, v), a) => e = .returned (.agg #[.string ⟨n.toArray⟩, .string ⟨v.toArray⟩]) ∧ DocW w' D s fr a
  | .error (p, c) => e = .panicked [flt p c]
theorem attribute_any (D : Nat) (s : ByteArray) (fr at_ others : Nat) (apart : Bool) (w : World) (h : DocW w D s fr at_) (hG : Gv w) (hD : 11 ≤ D) (hat : at_ ≤ s.size) (hs : s.size ≤ 1000000) (ho : others ≤ 1000000) :
    Calls Tryz.prog 138 #[.pointer (some ⟨D, 0, none⟩), .int .i64 others, .bool apart] w fun e w' => AttrOut D s fr (attributeX s.data.toList fr at_ others apart) w e w' := by
  obtain ⟨r, hr⟩ : ∃ r, attributeX s.data.toList fr at_ others apart = r := ⟨_, rfl⟩
  rw [hr]
  unfold attributeX at hr
  have hb0 : Below w.heap.size w (w.alloc (.cells #[.string ⟨#[]⟩, .string ⟨#[]⟩] 59)) := (Below.refl _ w).alloc (Nat.le_refl _) _
  have hw := word_k D s fr at_ _ (h.below hb0) hat hs
  have HK := Lib.hid (Keeps.of_below (D := D) hb0)
  have HBL := Lib.hid (show (w.alloc (.cells #[.string ⟨#[]⟩, .string ⟨#[]⟩] 59)).heap[w.heap.size]? = some (.cells #[.string ⟨#[]⟩, .string ⟨#[]⟩] 59 (0, 0)) from kept_block (Below.refl _ _))
  have hDl := h.lt
  have hxl := wordX_le s at_ hat
  clear h hb0
  generalize wordX s.data.toList at_ = x at *
  by_cases hx : x = []
  · rw [if_pos hx] at hr
    subst hx hr
    have z0 : (⟨([] : List UInt8).toArray⟩ : ByteArray).toList = [] := by rw [ByteArray.toList_eq]
    have z1 : (⟨([] : List UInt8).toArray⟩ : ByteArray).toList.isEmpty = true := by rw [ByteArray.toList_eq]; rfl
    go_enter Tryz.func138, Tryz.ntmps138
    go_wp2_with fail
    refine hw.mono ?_
    rintro e w1 ⟨rfl, hd1, hk1⟩
    replace HK := Lib.hid (HK.out.trans hk1)
    have c2 := hd1.c2
    clear hk1 hd1
    go_wp2_with fail
    refine (fail_any _ 4 _).mono ?_
    rintro e w3 ⟨rfl, rfl⟩
    exact ⟨rfl, HK.out, rfl⟩
  · rw [if_neg hx] at hr
    have z0 : ¬ (⟨x.toArray⟩ : ByteArray).toList = [] := by rw [ByteArray.toList_eq]; exact hx
    have z1 : (⟨x.toArray⟩ : ByteArray).toList.isEmpty = false := by rw [ByteArray.toList_eq]; simpa using hx
    have hz : (⟨x.toArray⟩ : ByteArray).size = x.length := by rw [Lib.size_eq]
    obtain ⟨z, hze⟩ : ∃ z : ByteArray, (⟨x.toArray⟩ : ByteArray) = z := ⟨_, rfl⟩
    rw [hze] at z0 z1 hz hw
    have HZ := Lib.hid hze
    have HX := Lib.hid hz
    clear hze hx hz
    by_cases h65 : others = 65
    · rw [if_pos h65] at hr
      subst hr h65
      go_enter Tryz.func138, Tryz.ntmps138
      go_wp2_with fail
      refine hw.mono ?_
      rintro e w1 ⟨rfl, hd1, hk1⟩
      replace HK := Lib.hid (HK.out.trans hk1)
      have c2 := hd1.c2
      clear hk1 hd1
      go_wp2_with fail
      refine (fail_any _ 3 _).mono ?_
      rintro e w3 ⟨rfl, rfl⟩
      exact ⟨rfl, HK.out, rfl⟩
    · rw [if_neg h65] at hr
      have i65 : ((others : Int) == 65) = false := by simp; omega
      clear h65
      cases apart
      · rw [if_pos rfl] at hr
        subst hr
        go_enter Tryz.func138, Tryz.ntmps138
        go_wp2_with fail
        refine hw.mono ?_
        rintro e w1 ⟨rfl, hd1, hk1⟩
        replace HK := Lib.hid (HK.out.trans hk1)
        have c2 := hd1.c2
        clear hk1 hd1
        go_wp2_with fail
        refine (fail_any _ 4 _).mono ?_
        rintro e w3 ⟨rfl, rfl⟩
        exact ⟨rfl, HK.out, rfl⟩
      · rw [if_neg (by decide)] at hr
        have b1 : (z.size : Int) ≤ 1000000 := by have := HX.out; omega
        obtain ⟨a1, ha1⟩ : ∃ a1, at_ + x.length = a1 := ⟨_, rfl⟩
        rw [ha1] at hr hxl
        have HA1 := Lib.hid (show (at_ : Int) + (z.size : Int) = (a1 : Int) by have := HX.out; omega)
        have hbl := blankN_le s.data.toList a1 (by rw [lenL]; exact hxl)
        rw [lenL] at hbl
        have HBK := Lib.hid fun a w2 (hw : DocW w2 D s fr a) (ha : a ≤ s.size) => blanks_any D s fr a w2 hw ha hs
        have HTK := Lib.hid fun a w2 (hw : DocW w2 D s fr a) (ha : a ≤ s.size) => take_any D s fr a 61 w2 hw ha hs
        have HVL := Lib.hid fun a w2 (hw : DocW w2 D s fr a) (hg : Gv w2) (ha : a ≤ s.size) => dvalue_any D s fr a w2 hw hg hD ha hs
        have HDl := Lib.hid hDl
        clear ha1 hDl
        go_enter Tryz.func138, Tryz.ntmps138
        go_wp2_with fail
        refine hw.mono ?_
        rintro e w1 ⟨rfl, hd1, hk1⟩
        replace HBL := Lib.hid ((hk1.block _ (by simp) (by have := HDl.out; omega)).trans HBL.out)
        replace HK := Lib.hid (HK.out.trans hk1)
        have hsz : w.heap.size < w1.heap.size := by have := hk1.size; simp at this; omega
        have c2 := hd1.c2
        have f2 := hd1.f 2
        have HD := Lib.hid hd1
        clear hk1 hd1 hw
        go_wp2_with fail
        replace HBL := Lib.hid (show (w1.setCell ⟨D, 2, none⟩ (.int .i64 ((at_ : Int) + (z.size : Int)))).heap[w.heap.size]? = _ from (Below.heap_setCell _ _ _ _ (by have := HDl.out; simp; omega)).trans HBL.out)
        replace HK := Lib.hid (HK.out.setCell 2 (.int .i64 ((at_ : Int) + (z.size : Int))))
        refine (HBK.out a1 _ (HD.out.set2' HA1.out) hxl).mono ?_
        rintro e w2 ⟨rfl, hk2, hd2⟩
        have hsz2 : w.heap.size < w2.heap.size := Nat.lt_of_lt_of_le (by simpa [World.setCell] using hsz) hk2.size
        replace HBL := Lib.hid ((hk2.block _ (by simpa [World.setCell] using hsz) (by have := HDl.out; omega)).trans HBL.out)
        replace HK := Lib.hid (HK.out.trans hk2)
        replace HD := Lib.hid hd2
        clear hk2 hd2 c2 f2 hsz
        go_wp2_with fail
        refine (HTK.out _ _ HD.out hbl).mono ?_
        rintro e w3 ⟨hk3, he⟩
        replace HBL := Lib.hid ((hk3.block _ hsz2 (by have := HDl.out; omega)).trans HBL.out)
        have hsz3 : w.heap.size < w3.heap.size := Nat.lt_of_lt_of_le hsz2 hk3.size
        replace HK := Lib.hid (HK.out.trans hk3)
        clear hk3 hsz2 HD
        cases hT : takeX s.data.toList fr (a1 + blankN s.data.toList a1) 61 with
        | error pe =>
          obtain ⟨p, c⟩ := pe
          rw [hT] at he hr
          obtain rfl := he
          subst hr
          exact ⟨rfl, HK.out, rfl⟩
        | ok a2 =>
          rw [hT] at he hr
          obtain ⟨rfl, hd3⟩ := he
          simp only at hr
          have ha2 : a2 ≤ s.size := by
            unfold takeX at hT
            split at hT
            · cases hT
            · rename_i hdc
              have := drop_cons_len hdc
              rw [lenL] at this
              split at hT
              · simp only [Except.ok.injEq] at hT
                omega
              · cases hT
          have hbl2 := blankN_le s.data.toList a2 (by rw [lenL]; exact ha2)
          rw [lenL] at hbl2
          clear hT hbl
          go_wp2_with fail
          refine (HBK.out _ _ hd3 ha2).mono ?_
          rintro e w4 ⟨rfl, hk4, hd4⟩
          replace HBL := Lib.hid ((hk4.block _ hsz3 (by have := HDl.out; omega)).trans HBL.out)
          have hsz4 : w.heap.size < w4.heap.size := Nat.lt_of_lt_of_le hsz3 hk4.size
          replace HK := Lib.hid (HK.out.trans hk4)
          clear hk4 hsz3 hd3
          go_wp2_with fail
          refine (HVL.out _ _ hd4 (HK.out.gv hG hD) hbl2).mono ?_
          rintro e w5 ⟨hk5, he⟩
          replace HBL := Lib.hid ((hk5.block _ hsz4 (by have := HDl.out; omega)).trans HBL.out)
          replace HK := Lib.hid (HK.out.trans hk5)
          clear hk5 hsz4 hd4
          cases hV : valueX s.data.toList fr (a2 + blankN s.data.toList a2) with
          | error pe =>
            obtain ⟨p, c⟩ := pe
            rw [hV] at he hr
            obtain rfl := he
            subst hr
            exact ⟨rfl, HK.out, rfl⟩
          | ok vb =>
            obtain ⟨v, b⟩ := vb
            rw [hV] at he hr
            obtain ⟨rfl, hd5⟩ := he
            simp only at hr
            subst hr
            have q0 : w5.cell? ⟨w.heap.size, 0, none⟩ = some (.string ⟨#[]⟩) := blk_cell HBL.out 0
            have q1 : w5.cell? ⟨w.heap.size, 1, none⟩ = some (.string ⟨#[]⟩) := blk_cell HBL.out 1
            have q2 := blk_free HBL.out 0
            have q3 := blk_free HBL.out 1
            have HD5 := Lib.hid hd5
            clear hV hd5
            go_wp2
            have hb6 := blk_set (blk_set HBL.out 0 (.string z)) 1 (.string ⟨v.toArray⟩)
            refine bodyPost_ret (results_cell_row Tryz.results138 _ _ w.heap.size 59 _ (0, 0) _ rfl hb6 Tryz.underlying59 rfl (by kernel_rfl)) rfl ?_
            have hne : D ≠ w.heap.size := by have := HDl.out; omega
            refine ⟨?_, by rw [HZ.out]; rfl, ?_⟩
            · have hset : ∀ (wx : World) (o : Nat) (u : Value), Keeps D w wx → Keeps D w (wx.setCell ⟨w.heap.size, o, none⟩ u) := fun wx o u hk =>
                ⟨hk.os, hk.tape, hk.output, Nat.le_trans hk.size (by simp [World.setCell]), fun k hk1 hk2 => (Below.heap_setCell _ _ _ _ (by simp; omega)).trans (hk.block k hk1 hk2)⟩
              exact hset _ _ _ (hset _ _ _ HK.out)
            · have hs5 : ∀ (wx : World) (o : Nat) (u : Value), DocW wx D s fr b → DocW (wx.setCell ⟨w.heap.size, o, none⟩ u) D s fr b := fun wx o u hd => (Below.heap_setCell _ _ _ _ (by simpa using hne)).trans hd
              exact hs5 _ _ _ (hs5 _ _ _ HD5.out)
end Go.Proofs.YtjohfljkhlkjoaaGreatDoor

namespace Go.Proofs.YtjohfljkhlkjoaaGreatDoor
open Go.RowKit Wb
def tokZ (k p : Int) (n x : ByteArray) : Array Value := #[.int .i64 k, .int .i64 p, .string n, .slice none 0 0, .string x]
theorem DocW.alloc {w : World} {D : Nat} {s : ByteArray} {fr at_ : Nat} (h : DocW w D s fr at_) (o : Obj) : DocW (w.alloc o) D s fr at_ := h.below ((Below.refl _ w).alloc (Nat.le_refl _) o)
theorem Keeps.alloc {D : Nat} {a w : World} (h : Keeps D a w) (o : Obj) : Keeps D a (w.alloc o) := h.next ((Below.refl _ w).alloc (Nat.le_refl _) o)
theorem Keeps.other {D : Nat} {a w : World} (h : Keeps D a w) {b : Nat} (hb : a.heap.size ≤ b) (o : Nat) (v : Value) : Keeps D a (w.setCell ⟨b, o, none⟩ v) :=
  ⟨h.os, h.tape, h.output, Nat.le_trans h.size (by simp [World.setCell]), fun k hk hd => (Below.heap_setCell _ _ _ _ (by simp; omega)).trans (h.block k hk hd)⟩
theorem DocW.other {w : World} {D : Nat} {s : ByteArray} {fr at_ : Nat} (h : DocW w D s fr at_) {b : Nat} (hb : D ≠ b) (o : Nat) (v : Value) : DocW (w.setCell ⟨b, o, none⟩ v) D s fr at_ :=
  (Below.heap_setCell _ _ _ _ (by simpa using hb)).trans h
theorem DocW.five {w : World} {D : Nat} {s : ByteArray} {fr at_ : Nat} (h : DocW w D s fr at_) {b : Nat} (hb : D ≠ b) (v0 v1 v2 v3 v4 : Value) :
    DocW (((((w.setCell ⟨b, 0, none⟩ v0).setCell ⟨b, 1, none⟩ v1).setCell ⟨b, 2, none⟩ v2).setCell ⟨b, 3, none⟩ v3).setCell ⟨b, 4, none⟩ v4) D s fr at_ :=
  ((((h.other hb _ _).other hb _ _).other hb _ _).other hb _ _).other hb _ _
theorem five_set {w : World} {b : Nat} {u0 u1 u2 u3 u4 : Value} {t : TypeId} (h : w.heap[b]? = some (.cells #[u0, u1, u2, u3, u4] t (0, 0))) (v0 v1 v2 v3 v4 : Value) :
    (((((w.setCell ⟨b, 0, none⟩ v0).setCell ⟨b, 1, none⟩ v1).setCell ⟨b, 2, none⟩ v2).setCell ⟨b, 3, none⟩ v3).setCell ⟨b, 4, none⟩ v4).heap[b]? = some (.cells #[v0, v1, v2, v3, v4] t (0, 0)) :=
  blk_set (blk_set (blk_set (blk_set (blk_set h 0 v0) 1 v1) 2 v2) 3 v3) 4 v4
theorem five_other {w : World} {b g : Nat} (hg : g ≠ b) (v0 v1 v2 v3 v4 : Value) :
    (((((w.setCell ⟨b, 0, none⟩ v0).setCell ⟨b, 1, none⟩ v1).setCell ⟨b, 2, none⟩ v2).setCell ⟨b, 3, none⟩ v3).setCell ⟨b, 4, none⟩ v4).heap[g]? = w.heap[g]? := by
  rw [Below.heap_setCell _ _ _ _ (by simpa using hg), Below.heap_setCell _ _ _ _ (by simpa using hg), Below.heap_setCell _ _ _ _ (by simpa using hg), Below.heap_setCell _ _ _ _ (by simpa using hg), Below.heap_setCell _ _ _ _ (by simpa using hg)]
theorem Keeps.five {D : Nat} {w w' : World} (h : Keeps D w w') {b : Nat} {u0 u1 u2 u3 u4 : Value} {t : TypeId} (hb : w.heap[b]? = some (.cells #[u0, u1, u2, u3, u4] t (0, 0))) (hl : b < w.heap.size) (hd : b ≠ D) :
    w'.heap[b]? = some (.cells #[u0, u1, u2, u3, u4] t (0, 0)) := (h.block b hl hd).trans hb
theorem five_cells {w : World} {b : Nat} {u0 u1 u2 u3 u4 : Value} {t : TypeId} (h : w.heap[b]? = some (.cells #[u0, u1, u2, u3, u4] t (0, 0))) :
    w.cell? ⟨b, 0, none⟩ = some u0 ∧ w.cell? ⟨b, 1, none⟩ = some u1 ∧ w.cell? ⟨b, 2, none⟩ = some u2 ∧ w.cell? ⟨b, 3, none⟩ = some u3 ∧ w.cell? ⟨b, 4, none⟩ = some u4 ∧
    w.frozen? ⟨b, 0, none⟩ = false ∧ w.frozen? ⟨b, 1, none⟩ = false ∧ w.frozen? ⟨b, 2, none⟩ = false ∧ w.frozen? ⟨b, 3, none⟩ = false ∧ w.frozen? ⟨b, 4, none⟩ = false :=
  ⟨blk_cell h 0, blk_cell h 1, blk_cell h 2, blk_cell h 3, blk_cell h 4, blk_free h 0, blk_free h 1, blk_free h 2, blk_free h 3, blk_free h 4⟩
theorem second_block (w : World) (o1 o2 : Obj) : ((w.alloc o1).alloc o2).drew.heap[w.heap.size + 1]? = some o2 := by
  show ((w.heap.push o1).push o2)[w.heap.size + 1]? = some o2
  rw [Array.getElem?_push, if_pos (by simp)]
theorem first_block (w : World) (o1 : Obj) : (w.alloc o1).heap[w.heap.size]? = some o1 := kept_block (Below.refl _ _)
theorem first_block2 (w : World) (o1 o2 : Obj) : ((w.alloc o1).alloc o2).drew.heap[w.heap.size]? = some o1 := by
  show ((w.heap.push o1).push o2)[w.heap.size]? = some o1
  rw [Array.getElem?_push, if_neg (by simp), Array.getElem?_push, if_pos rfl]
theorem named_two (D : Nat) (s p : ByteArray) (fr at_ : Nat) (w : World) (h : DocW w D s fr at_) (hat : at_ + p.size ≤ s.size) (hs : s.size ≤ 1000000) :
    Calls Tryz.prog 134 #[.pointer (some ⟨D, 0, none⟩), .string p] w fun e w' =>
      (∃ q c, namedX s.data.toList fr (at_ + p.size) = .error (q, c) ∧ e = .panicked [flt q c] ∧ Keeps D w w') ∨ (∃ x a, namedX s.data.toList fr (at_ + p.size) = .ok (x, a) ∧ e = .returned (.string ⟨x.toArray⟩) ∧ DocW w' D s fr a ∧ Keeps D w w') := by
  refine (named_any D s p fr at_ w h hat hs).mono ?_
  rintro e w' ⟨hk, he⟩
  cases hn : namedX s.data.toList fr (at_ + p.size) with
  | error pe =>
    obtain ⟨q, c⟩ := pe
    rw [hn] at he
    exact .inl ⟨q, c, rfl, he, hk⟩
  | ok xa =>
    obtain ⟨x, a⟩ := xa
    rw [hn] at he
    exact .inr ⟨x, a, rfl, he.1, he.2, hk⟩
theorem namedX_le {s : ByteArray} {fr at_ a : Nat} {x : List UInt8} (hat : at_ ≤ s.size) (h : namedX s.data.toList fr at_ = .ok (x, a)) : a ≤ s.size := by
  unfold namedX at h
  split at h
  · cases h
  · split at h
    · cases h
    · simp only [Except.ok.injEq, Prod.mk.injEq] at h
      have := wordX_le s at_ hat
      omega
def EndPost (D : Nat) (s : ByteArray) (fr : Nat) (w : World) (e : Ending) (w' : World) : Prop := Keeps D w w' ∧ match endTagX s.data.toList fr with
      | .ok ((_, n, _, _), a) => e = .returned (.agg (tokZ 2 fr ⟨n.toArray⟩ ⟨#[]⟩)) ∧ DocW w' D s fr a
      | .error (p, c) => e = .panicked [flt p c]
theorem EndPost.bad {D : Nat} {s : ByteArray} {fr : Nat} {w w' : World} {q c : Nat} (h : namedX s.data.toList fr (fr + 2) = .error (q, c)) (hk : Keeps D w w') : EndPost D s fr w (.panicked [flt q c]) w' := by
  refine ⟨hk, ?_⟩
  have e1 : endTagX s.data.toList fr = .error (q, c) := by unfold endTagX; rw [h]
  rw [e1]
set_option maxHeartbeats 1000000 in
theorem endTag_any (D : Nat) (s : ByteArray) (fr : Nat) (w : World) (h : DocW w D s fr fr) (hat : fr + 2 ≤ s.size) (hs : s.size ≤ 1000000) :
    Calls Tryz.prog 97 #[.pointer (some ⟨D, 0, none⟩)] w fun e w' => EndPost D s fr w e w' := by
  have HN := Lib.hid fun w2 (hw : DocW w2 D s fr fr) => named_two D s ⟨#[60, 47]⟩ fr fr w2 hw hat hs
  have HD := Lib.hid h
  have c1 := h.c1
  have HBK := Lib.hid fun a (ha : a ≤ s.size) w2 (hw : DocW w2 D s fr a) => blanks_any D s fr a w2 hw ha hs
  have HTK := Lib.hid fun a (ha : a ≤ s.size) w2 (hw : DocW w2 D s fr a) => take_any D s fr a 62 w2 hw ha hs
  have hDl := Lib.hid h.lt
  have hD1 : D ≠ w.heap.size + 1 := by have := h.lt; omega
  clear h
  go_enter Tryz.func97, Tryz.ntmps97
  go_upto_region 1 with fail
  go_cut [3] (fun s3 wx => ∃ (T : Nat) (x : List UInt8) (a : Nat), s3 = .pointer (some ⟨T, 0, none⟩) ∧ w.heap.size < T ∧ Hid (namedX s.data.toList fr (fr + 2) = .ok (x, a)) ∧ Hid (wx.heap[T]? = some (.cells (tokZ 2 fr ⟨x.toArray⟩ ⟨#[]⟩) 57 (0, 0))) ∧ Hid (wx.heap[w.heap.size]? = some (.cells (tokZ 0 0 ⟨#[]⟩ ⟨#[]⟩) 57 (0, 0))) ∧ Hid (Keeps D w wx) ∧ Hid (DocW wx D s fr a))
  case first =>
    go_region_held2 (fun w' => w'.cell? ⟨D, 1, none⟩ = some (.int .i64 fr)) (with_reducible (first | exact HD.out.c1 | exact HD.out.drew.c1 | exact (HD.out.alloc _).c1 | exact ((HD.out.alloc _).drew).c1 | exact ((HD.out.alloc _).alloc _).drew.c1 | exact hd.c1 | exact (hd.alloc _).c1 | exact (hd.five hD1 _ _ _ _ _).c1))
      (first
        | (go_at_call 134; refine (HN.out (((w.alloc _).alloc _).drew) ((HD.out.alloc _).alloc _).drew).mono ?_; rintro e w' (⟨q, c, hn, rfl, hk⟩ | ⟨x, a, hn, rfl, hd, hk⟩); (exact ⟨rfl, EndPost.bad hn ((((Keeps.refl D w).alloc _).alloc _).drew.trans hk)⟩); obtain ⟨q0, q1, q2, q3, q4, f0, f1, f2, f3, f4⟩ := five_cells (hk.five (second_block w _ _) (by simp) (fun e => hD1 e.symm)))
        | (go_at_call 134; refine (HN.out _ (HD.out.alloc _).drew).mono ?_; rintro e w' (⟨q, c, hn, rfl, hk⟩ | ⟨x, a, hn, rfl, hd, hk⟩); (exact ⟨rfl, EndPost.bad hn (((Keeps.refl D w).alloc _).drew.trans hk)⟩)))
    all_goals (go_wp2_with fail; go_meet)
    · have hl : w.heap.size < w'.heap.size := Nat.lt_of_lt_of_le (by simp) hk.size
      have hr := hk.block w.heap.size (by simp) (by have := hDl.out; omega)
      exact ⟨w'.heap.size, x, a, rfl, hl, Lib.hid hn, Lib.hid (first_block _ _), Lib.hid ((Below.heap_alloc _ _ _ hl).trans (hr.trans (first_block w _))), Lib.hid ((((Keeps.refl D w).alloc _).drew.trans hk).alloc _), Lib.hid (hd.alloc _)⟩
    · have hr := hk.block w.heap.size (by simp; omega) (by have := hDl.out; omega)
      refine ⟨w.heap.size + 1, x, a, rfl, by omega, Lib.hid hn, Lib.hid (five_set (hk.five (second_block w _ _) (by simp) (fun e => hD1 e.symm)) _ _ _ _ _), Lib.hid ((five_other (by omega) _ _ _ _ _).trans (hr.trans (first_block2 w _ _))), Lib.hid ?_, Lib.hid (hd.five hD1 _ _ _ _ _)⟩
      exact ((((((((Keeps.refl D w).alloc _).alloc _).drew.trans hk).other (by omega) _ _).other (by omega) _ _).other (by omega) _ _).other (by omega) _ _).other (by omega) _ _
  case rest =>
    obtain ⟨T, x, a, rfl, hT, h0, h1, h2, hk, hd⟩ := hcut
    have ha := namedX_le hat h0.out
    have hbl := blankN_le s.data.toList a (by rw [lenL]; exact ha)
    rw [lenL] at hbl
    have hTD : T ≠ D := by have := hDl.out; omega
    have hRD : w.heap.size ≠ D := by have := hDl.out; omega
    have hTl : T < wc.heap.size := by
      rcases Nat.lt_or_ge T wc.heap.size with h | h
      · exact h
      · have := h1.out; rw [Array.getElem?_eq_none h] at this; cases this
    have hTD' := Lib.hid hTD
    have hRD' := Lib.hid hRD
    clear hTD hRD hD1
    go_wp2_with fail
    refine (HBK.out a ha _ hd.out).mono ?_
    rintro e w4 ⟨rfl, hk4, hd4⟩
    replace h1 := Lib.hid ((hk4.block T hTl hTD'.out).trans h1.out)
    replace h2 := Lib.hid ((hk4.block _ (by omega) hRD'.out).trans h2.out)
    have hTl4 : T < w4.heap.size := Nat.lt_of_lt_of_le hTl hk4.size
    replace hk := Lib.hid (hk.out.trans hk4)
    clear hk4 hd
    go_wp2_with fail
    refine (HTK.out _ hbl _ hd4).mono ?_
    rintro e w5 ⟨hk5, he⟩
    replace h1 := Lib.hid ((hk5.block T hTl4 hTD'.out).trans h1.out)
    replace h2 := Lib.hid ((hk5.block _ (by omega) hRD'.out).trans h2.out)
    replace hk := Lib.hid (hk.out.trans hk5)
    clear hk5 hTl hTl4 hd4
    have hr : endTagX s.data.toList fr = match takeX s.data.toList fr (a + blankN s.data.toList a) 62 with
      | .error e => .error e
      | .ok b => .ok ((2, x, [], []), b) := by
      unfold endTagX
      rw [h0.out]
      rfl
    cases hq : takeX s.data.toList fr (a + blankN s.data.toList a) 62 with
    | error pe =>
      obtain ⟨p, c⟩ := pe
      rw [hq] at hr he
      obtain rfl := he
      exact ⟨rfl, hk.out, by rw [hr]⟩
    | ok b =>
      rw [hq] at hr he
      obtain ⟨rfl, hd5⟩ := he
      have HR := Lib.hid hr
      have HD5 := Lib.hid hd5
      obtain ⟨q0, q1, q2, q3, q4, f0, f1, f2, f3, f4⟩ := five_cells h1.out
      obtain ⟨r0, r1, r2, r3, r4, g0, g1, g2, g3, g4⟩ := five_cells h2.out
      clear hq hr hd5
      obtain ⟨z, hz⟩ : ∃ z : ByteArray, (⟨x.toArray⟩ : ByteArray) = z := ⟨_, rfl⟩
      have HZ := Lib.hid hz
      rw [hz] at q2
      clear hz
      go_wp2
      refine bodyPost_ret (results_cell_row Tryz.results97 _ _ w.heap.size 57 _ (0, 0) _ rfl (five_set h2.out _ _ _ _ _) Tryz.underlying57 rfl (by kernel_rfl)) rfl ?_
      refine ⟨((((hk.out.other (Nat.le_refl _) _ _).other (Nat.le_refl _) _ _).other (Nat.le_refl _) _ _).other (Nat.le_refl _) _ _).other (Nat.le_refl _) _ _, ?_⟩
      rw [HR.out]
      exact ⟨by rw [HZ.out]; rfl, HD5.out.five (fun e => hRD'.out e.symm) _ _ _ _ _⟩
end Go.Proofs.YtjohfljkhlkjoaaGreatDoor

