/- SpF TrJ TrK LePlain. -/
import Derived.Test.YtlcjepnaljfpkaaGreatDoorProg
import Derived.Deep.RegionHeld2
import Derived.BigRegion
import Derived.Deep.AppendLies
import Derived.Deep.Draws
import Derived.Deep.Cut
import Derived.Deep.RegionLaw
import Derived.Test.YtlcjepnaljfpkaaGreatDoorQp1
import Derived.Test.YtlcjepnaljfpkaaGreatDoorQp6
import Derived.Test.YtlcjepnaljfpkaaGreatDoorQp10
import Derived.Test.YtlcjepnaljfpkaaGreatDoorQp17
import Derived.Test.YtlcjepnaljfpkaaGreatDoorQp18
import Derived.Test.YtlcjepnaljfpkaaGreatDoorQp21
import Derived.Test.YtlcjepnaljfpkaaGreatDoorQp24
namespace Wb
theorem pre_step {l : List Tr} {k : Nat} {x : Tr} {P : List ByteArray} (h : l[k]? = some x) (hP : P = onceT (rawS (l.take k))) : onceT (rawS (l.take (k + 1))) = if needs x.1.1 = true then (if P.getLast? = some x.1.1 then P else P ++ [x.1.1]) else P := by
  rw [rawS_take h]
  by_cases hn : needs x.1.1 = true
  · rw [if_pos hn, if_pos hn, once_snoc, hP, once_last]
  · rw [if_neg hn, if_neg hn, List.append_nil, hP]
theorem needs_no {s : ByteArray} (h : s = sE ∨ s = sXML) : ¬ needs s = true := by
  unfold needs
  rw [eqT_dec, eqT_dec]
  rcases h with h | h <;> simp [h]
theorem needs_yes {s : ByteArray} (h1 : ¬ s = sE) (h2 : ¬ s = sXML) : needs s = true := by
  unfold needs
  rw [eqT_dec, eqT_dec]
  simp [h1, h2]
theorem once_few (l : List Tr) (k : Nat) : (onceT (rawS (l.take k))).length ≤ k := Nat.le_trans (once_len _) (rawS_len l k)
end Wb
namespace Go.Proofs.YtlcjepnaljfpkaaGreatDoor
open Go.RowKit Wb
set_option maxRecDepth 100000 in
set_option maxHeartbeats 4000000 in
theorem rprefixes_any (A : Option Addr) (l : List Tr) (c : Nat) (w : World) (h : Sl3 w A l) (hl : l.length ≤ 1000000) :
    Calls Tryz.prog 58 #[.slice A l.length c] w fun e w' => ∃ v', e = .returned v' ∧ w'.ownsRow w.heap.size 9 1 v' (spacesT l).length (cells1 (spacesT l)) ∧ Below w.heap.size w w' := by
  obtain ⟨i0, hi, hz0, hz1, hz2⟩ := info_parts pstr_info
  have HA := Lib.hid h
  clear h
  go_enter Tryz.func58, Tryz.ntmps58
  go_wp2
  go_loopw [3, 4] (fun vs vi wr => ∃ (k : Nat) (P : List ByteArray) (Q : Option Addr) (cq : Nat), k ≤ l.length ∧ vs = .slice Q P.length cq ∧ vi = .int .i64 k ∧ Hid (P = onceT (rawS (l.take k))) ∧ Hid (wr.ownsRow w.heap.size 9 1 (.slice Q P.length cq) P.length (cells1 P)) ∧ Hid (Below w.heap.size w wr)) (fun _ vi _ => ((l.length : Int) - intOf vi).toNat)
  case atStart => exact ⟨0, [], none, 0, by omega, rfl, rfl, Lib.hid rfl, Lib.hid (World.ownsRow_nil _ _ _ _), Lib.hid (Below.refl _ _)⟩
  case round =>
    obtain ⟨k, P, Q, cq, hk, rfl, rfl, HP, HO, HB⟩ := hrel
    by_cases h0 : k < l.length
    · obtain ⟨⟨⟨a1, a2⟩, a3⟩, he⟩ : ∃ x, l[k]? = some x := ⟨l[k], List.getElem?_eq_getElem h0⟩
      obtain ⟨ad, rfl, had, d1, d2, d3⟩ := (HA.out.below HB.out).at_ he
      have hst := pre_step he HP.out
      simp only at d1 d2 d3 hst
      have hPl : P.length ≤ k := by rw [HP.out]; exact once_few l k
      have hb1 : a1.toList.isEmpty = eqT a1 sE := empty_eq a1
      have hb2 : (a1.toList == [104, 116, 116, 112, 58, 47, 47, 119, 119, 119, 46, 119, 51, 46, 111, 114, 103, 47, 88, 77, 76, 47, 49, 57, 57, 56, 47, 110, 97, 109, 101, 115, 112, 97, 99, 101]) = eqT a1 sXML := lit_of a1 sXML _ rfl
      by_cases hno : a1 = sE ∨ a1 = sXML
      · rw [if_neg (needs_no hno)] at hst
        have HST : Hid (P = onceT (rawS (l.take (k + 1)))) := Lib.hid hst.symm
        clear hst he had
        by_cases h1 : a1 = sE
        · rw [(eqT_iff a1 sE).2 h1] at hb1
          clear h1 hno
          go_wp2
          go_roundw
          case rel => exact ⟨k + 1, P, Q, cq, by omega, rfl, by go_num, HST, HO, HB⟩
          case measure => simp [intOf]; omega
        · have h2 : a1 = sXML := hno.resolve_left h1
          rw [(eqT_iff a1 sXML).2 h2] at hb2
          rw [eqT_false.2 h1] at hb1
          clear h1 h2 hno
          go_wp2
          go_roundw
          case rel => exact ⟨k + 1, P, Q, cq, by omega, rfl, by go_num, HST, HO, HB⟩
          case measure => simp [intOf]; omega
      · have h1 : ¬ a1 = sE := fun h => hno (.inl h)
        have h2 : ¬ a1 = sXML := fun h => hno (.inr h)
        rw [if_pos (needs_yes h1 h2)] at hst
        rw [eqT_false.2 h1] at hb1
        rw [eqT_false.2 h2] at hb2
        clear hno h1 h2 he had
        have HST := Lib.hid hst
        clear hst
        have HLIT := Lib.hid (Sl.lit wr 1 [.string a1] 9 1 rfl)
        have HOW := Lib.hid (HO.out.alloc (.cells #[.string a1] 9))
        have HB2 := Lib.hid (HB.out.alloc HB.out.size (.cells #[.string a1] 9))
        have hm : P.length + 1 ≤ maxLen := by unfold maxLen; omega
        have hb16 : (P.length + 1) * 16 ≤ 140737488355328 := by omega
        have hbs2 : w.heap.size ≤ (wr.alloc (.cells #[.string a1] 9)).heap.size := HB2.out.size
        have HONE := Lib.hid (show ∀ u ∈ [Value.string a1], u.oneCell' = true from fun u hu => by simp only [List.mem_singleton] at hu; subst hu; rfl)
        obtain ⟨pl, hpl⟩ : ∃ q, P.length = q := ⟨_, rfl⟩
        have HPL := Lib.hid hpl
        have HO1 := HO
        rw [hpl] at HO1 HOW hm hb16 hPl
        have HOW2 := HOW
        rw [hpl]
        clear hpl HOW2
        cases pl with
        | zero =>
          have hpn : P = [] := List.eq_nil_of_length_eq_zero HPL.out
          have HST2 : Hid (P ++ [a1] = onceT (rawS (l.take (k + 1)))) := Lib.hid (by rw [HST.out, hpn]; rfl)
          clear HST HO1 HO hpn
          go_wp2_with (at_builtin; refine wpList_append_sl _ rfl (.tmp 39) (.tmp 41) _ rfl w.heap.size 9 i0 _ 1 16 Tryz.underlying106 hi hz0 hz1 hz2 rfl (by omega) _ _ (cells1 P) rfl HOW.out (some ⟨wr.heap.size, 0, none⟩) 1 1 [.string a1] rfl HLIT.out HONE.out hm hb16 hbs2 ?_)
          intro v5 w5 hown5 hg5 hat5
          obtain ⟨Q5, c5, hsh⟩ := own_shape hown5
          subst hsh
          have HO5 : Hid (w5.ownsRow w.heap.size 9 1 (.slice Q5 (P ++ [a1]).length c5) (P ++ [a1]).length (cells1 (P ++ [a1]))) := Lib.hid (by
            rw [List.length_append, HPL.out, show cells1 (P ++ [a1]) = cells1 P ++ [.string a1] from by simp [cells1]]
            exact hown5)
          have HB5 := Lib.hid (HB2.out.grown hg5 hbs2 (fun k hk => (own_in HOW.out hk).1))
          clear hown5 hg5 hat5 HOW HLIT HONE HB2 hm hb16 hbs2
          go_wp2
          go_roundw
          case rel => exact ⟨k + 1, P ++ [a1], Q5, c5, by omega, by rw [List.length_append, HPL.out]; rfl, by go_num, HST2, HO5, HB5⟩
          case measure => simp [intOf]; omega
        | succ m =>
          obtain ⟨z, hz⟩ : ∃ z, P[m]? = some z := ⟨P[m]'(by have := HPL.out; omega), List.getElem?_eq_getElem (by have := HPL.out; omega)⟩
          have hlast : P.getLast? = some z := by rw [List.getLast?_eq_getElem?, HPL.out]; simpa using hz
          obtain ⟨ae, rfl, haeb, hcz⟩ := Sl1.at_ (show Sl1 wr Q P from Sl.of_own HO.out) hz
          have HLAST := Lib.hid hlast
          have hzt : (z.toList == a1.toList) = eqT z a1 := rfl
          clear hlast hz haeb
          by_cases hza : z = a1
          · have HST2 : Hid (P = onceT (rawS (l.take (k + 1)))) := Lib.hid (by rw [HST.out, HLAST.out, hza, if_pos rfl])
            rw [(eqT_iff z a1).2 hza] at hzt
            clear hza HST HOW HLIT HB2 HONE hm hb16 hbs2
            go_wp2
            go_roundw
            case rel => exact ⟨k + 1, P, _, cq, by omega, by rw [HPL.out], by go_num, HST2, HO, HB⟩
            case measure => simp [intOf]; omega
          · have HST2 : Hid (P ++ [a1] = onceT (rawS (l.take (k + 1)))) := Lib.hid (by rw [HST.out, HLAST.out, if_neg (by simpa using hza)])
            rw [eqT_false.2 hza] at hzt
            clear hza HST HO1 HO
            go_wp2_with (at_builtin; refine wpList_append_sl _ rfl (.tmp 39) (.tmp 41) _ rfl w.heap.size 9 i0 _ 1 16 Tryz.underlying106 hi hz0 hz1 hz2 rfl (by omega) _ _ (cells1 P) rfl HOW.out (some ⟨wr.heap.size, 0, none⟩) 1 1 [.string a1] rfl HLIT.out HONE.out hm hb16 hbs2 ?_)
            intro v5 w5 hown5 hg5 hat5
            obtain ⟨Q5, c5, hsh⟩ := own_shape hown5
            subst hsh
            have HO5 : Hid (w5.ownsRow w.heap.size 9 1 (.slice Q5 (P ++ [a1]).length c5) (P ++ [a1]).length (cells1 (P ++ [a1]))) := Lib.hid (by
              rw [List.length_append, HPL.out, show cells1 (P ++ [a1]) = cells1 P ++ [.string a1] from by simp [cells1]]
              exact hown5)
            have HB5 := Lib.hid (HB2.out.grown hg5 hbs2 (fun k hk => (own_in HOW.out hk).1))
            clear hown5 hg5 hat5 HOW HLIT HONE HB2 hm hb16 hbs2
            go_wp2
            go_roundw
            case rel => exact ⟨k + 1, P ++ [a1], Q5, c5, by omega, by rw [List.length_append, HPL.out]; rfl, by go_num, HST2, HO5, HB5⟩
            case measure => simp [intOf]; omega
    · have hkl : k = l.length := by omega
      have h1 := HO.out
      have h2 : P = spacesT l := by
        rw [HP.out, hkl, List.take_length]
        rfl
      rw [h2] at h1
      have HF := Lib.hid h1
      have HL2 : Hid (P.length = (spacesT l).length) := Lib.hid (by rw [h2])
      clear HO HP h1 h2 hkl
      go_wp2
      go_ret
      refine ⟨_, ?_, HF.out, HB.out⟩
      show Ending.returned (.slice Q P.length cq) = _
      rw [HL2.out]
end Go.Proofs.YtlcjepnaljfpkaaGreatDoor
namespace Go.Proofs.YtlcjepnaljfpkaaGreatDoor
open Go.RowKit Wb
section
variable {base B : Nat} {b : Bd} {ov : Value} {rc : List Value} {w : World}
theorem node_info : (Tryz.prog.info? 37).map (fun i => (i.zero, i.size, i.bytes)) = some (some (.agg #[.int .i64 0, .string ⟨#[]⟩, .string ⟨#[]⟩, .slice none 0 0, .slice none 0 0, .string ⟨#[]⟩]), 6, 104) := by kernel_rfl
end
end Go.Proofs.YtlcjepnaljfpkaaGreatDoor
namespace Go.Proofs.YtlcjepnaljfpkaaGreatDoor
open Go.RowKit Wb
section
variable {base B : Nat} {b : Bd} {ov : Value} {rc : List Value} {w : World}
theorem len_costs : ∀ ks : List Nd, ks.length ≤ costNs ks
  | [] => by simp
  | k :: ks => by
    have := len_costs ks
    have := costN_pos k
    simp only [costNs, List.length_cons]
    omega
end
end Go.Proofs.YtlcjepnaljfpkaaGreatDoor
namespace Wb
abbrev Er (α : Type) := Except (Nat × Nat) α
def takeX (L : List UInt8) (fr at_ : Nat) (c : UInt8) : Er Nat :=
  match L.drop at_ with
  | [] => .error (fr, 2)
  | d :: _ => if d = c then .ok (at_ + 1) else .error (at_, 4)
def upToX (L : List UInt8) (fr at_ : Nat) (p : List UInt8) : Er (List UInt8 × Nat) :=
  match untilR p (L.drop at_) with
  | none => .error (fr, 2)
  | some (n, v) => .ok (v, at_ + n)
def blankN (L : List UInt8) (at_ : Nat) : Nat := ((L.drop at_).takeWhile blkB).length
def wordX (L : List UInt8) (at_ : Nat) : List UInt8 :=
  if ((L.drop at_).takeWhile wordB).length ≤ 129 then (L.drop at_).takeWhile wordB else []
def valueX (L : List UInt8) (fr at_ : Nat) : Er (List UInt8 × Nat) :=
  match L.drop at_ with
  | [] => .error (fr, 2)
  | q :: r =>
    if q = 34 ∨ q = 39 then
      match untilR [q] r with
      | none => .error (fr, 2)
      | some (n, v) =>
        match v.findIdx? (· == 60) with
        | some k => .error (at_ + 1 + k, 11)
        | none => match unL true (v.length + 1) v (at_ + 1) with
          | .error p => .error (p, 16)
          | .ok x => .ok (x, at_ + 1 + n)
    else .error (at_, 4)
def attributeX (L : List UInt8) (fr at_ others : Nat) (apart : Bool) : Er ((List UInt8 × List UInt8) × Nat) :=
  if wordX L at_ = [] then .error (at_, 4)
  else if others = 65 then .error (at_, 3)
  else if apart = false then .error (at_, 4)
  else match takeX L fr (at_ + (wordX L at_).length + blankN L (at_ + (wordX L at_).length)) 61 with
    | .error e => .error e
    | .ok a => match valueX L fr (a + blankN L a) with
      | .error e => .error e
      | .ok (v, b) => .ok ((wordX L at_, v), b)
def namedX (L : List UInt8) (fr at_ : Nat) : Er (List UInt8 × Nat) :=
  match L.drop at_ with
  | [] => .error (fr, 2)
  | _ :: _ => if wordX L at_ = [] then .error (at_, 12) else .ok (wordX L at_, at_ + (wordX L at_).length)
def endTagX (L : List UInt8) (fr : Nat) : Er (Tk × Nat) :=
  match namedX L fr (fr + 2) with
  | .error e => .error e
  | .ok (w, a) => match takeX L fr (a + blankN L a) 62 with
    | .error e => .error e
    | .ok b => .ok ((2, w, [], []), b)
def attrsX (L : List UInt8) (fr : Nat) : Nat → Nat → List (List UInt8 × List UInt8) → Er ((Int × List (List UInt8 × List UInt8)) × Nat)
  | 0, at_, _ => .error (at_, 4)
  | f + 1, at_, acc =>
    match L.drop (at_ + blankN L at_) with
    | [] => .error (fr, 2)
    | c :: _ =>
      if c = 47 then match takeX L fr (at_ + blankN L at_ + 1) 62 with
        | .error e => .error e
        | .ok b => .ok ((3, acc), b)
      else if c = 62 then .ok ((1, acc), at_ + blankN L at_ + 1)
      else match attributeX L fr (at_ + blankN L at_) acc.length (decide (0 < blankN L at_)) with
        | .error e => .error e
        | .ok (a, b) => attrsX L fr f b (acc ++ [a])
def startTagX (L : List UInt8) (fr : Nat) : Er (Tk × Nat) :=
  match namedX L fr (fr + 1) with
  | .error e => .error e
  | .ok (w, a) => match attrsX L fr 67 a [] with
    | .error e => .error e
    | .ok ((k, l), b) => .ok ((k, w, l, []), b)
def sXml : List UInt8 := [120, 109, 108]
def commentX (L : List UInt8) (fr : Nat) : Er Nat :=
  match upToX L fr (fr + 4) [45, 45] with
  | .error e => .error e
  | .ok (_, a) => if (L.drop a).take 1 = [62] then .ok (a + 1) else .error (fr, 4)
def sectionX (L : List UInt8) (fr : Nat) : Er (Tk × Nat) :=
  match upToX L fr (fr + 9) [93, 93, 62] with
  | .error e => .error e
  | .ok (v, a) => .ok ((4, [], [], endsL v), a)
def cdAt : List UInt8 → Option Nat
  | [] => none
  | c :: l => if (c :: l).take 3 = [93, 93, 62] then some 0 else (cdAt l).map (· + 1)
def textX (L : List UInt8) (fr : Nat) : Er (Tk × Nat) :=
  let n := (L.drop fr).takeWhile (· != 60)
  match cdAt n with
  | some k => match unL false (k + 1) (n.take k) fr with
    | .error p => .error (p, 16)
    | .ok _ => .error (fr + k, 11)
  | none => match unL false (n.length + 1) n fr with
    | .error p => .error (p, 16)
    | .ok x => .ok ((4, [], [], x), fr + n.length)
def someX (e : Er (Tk × Nat)) : Er (Option Tk × Nat) :=
  match e with
  | .error e => .error e
  | .ok (t, a) => .ok (some t, a)
def noneX (e : Er Nat) : Er (Option Tk × Nat) :=
  match e with
  | .error e => .error e
  | .ok a => .ok (none, a)
def toldX (s name other : List UInt8) : List UInt8 × List UInt8 :=
  let r := s.dropWhile blkB
  if r.length = s.length then (other, s)
  else if r.take name.length ≠ name then (other, s)
  else
    let r2 := (r.drop name.length).dropWhile blkB
    if r2.take 1 ≠ [61] then (other, s)
    else match (r2.drop 1).dropWhile blkB with
      | [] => (other, s)
      | q :: r3 => if q = 34 ∨ q = 39 then match untilR [q] r3 with
          | none => (other, s)
          | some (n, v) => (v, r3.drop n)
        else (other, s)
def sVersion : List UInt8 := [118, 101, 114, 115, 105, 111, 110]
def sEncoding : List UInt8 := [101, 110, 99, 111, 100, 105, 110, 103]
def sUtf8 : List UInt8 := [117, 116, 102, 45, 56]
def sStandalone : List UInt8 := [115, 116, 97, 110, 100, 97, 108, 111, 110, 101]
def sNo : List UInt8 := [110, 111]
def sYes : List UInt8 := [121, 101, 115]
def sOne : List UInt8 := [49, 46, 48]
def declX (L : List UInt8) : Er Nat :=
  if L.take 5 = [60, 63, 120, 109, 108] ∧ ((L.drop 5).take 1).any blkB = true then
    let v := toldX (L.drop 5) sVersion []
    let e := toldX v.2 sEncoding sUtf8
    let a := toldX e.2 sStandalone sNo
    let r := a.2.dropWhile blkB
    if v.1 = sOne ∧ lowL e.1 = sUtf8 ∧ (a.1 = sYes ∨ a.1 = sNo) ∧ r.take 2 = [63, 62] then .ok (L.length - (r.length - 2)) else .error (0, 4)
  else .ok 0
end Wb
