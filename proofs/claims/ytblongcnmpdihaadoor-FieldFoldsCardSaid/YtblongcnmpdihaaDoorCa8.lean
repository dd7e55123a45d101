/- FeI FeJ. -/
import Derived.Lib.LaidTab
import Derived.Shelf.Strings.Fields
import Derived.Test.YtblongcnmpdihaaDoorCa7
namespace Wb
open Go
theorem typQ_list (s : ByteArray) : typQ s = typQL s.data.toList := by
  unfold typQ
  rw [empty_list, empty_list]
  rfl
theorem typA_L (s : ByteArray) : (typA s).data.toList = typAL s.data.toList := typA_list s
theorem typR_L (s : ByteArray) : (typR s).data.toList = typRL s.data.toList := typR_list s
theorem paramsF_err : ∀ (f : Nat) (out : List (List UInt8 × List UInt8)) (s : List UInt8) (e : Int), s.length < f → paramsF f out s = .error e → e = 4
  | 0, _, _, _, h, _ => by omega
  | f + 1, out, s, e, hf, h => by
    rw [params_way] at h
    split at h
    · cases h
    · split at h
      · cases h; rfl
      · rename_i x r3 hp
        split at h
        · cases h; rfl
        · have h1 := pmF_len _ _ _ hp
          have h2 := dropW_le blankB s
          exact paramsF_err f _ r3 e (by omega) h
theorem typRL_len (s : List UInt8) : (typRL s).length ≤ s.length := by
  unfold typRL
  simp only
  refine Nat.le_trans (dropW_le tkC _) ?_
  have := dropW_le tkC s
  split
  · simp; omega
  · exact this
theorem typR_size (s : ByteArray) : (typR s).size ≤ s.size := by rw [ba_size, ba_size s, typR_L]; exact typRL_len _
theorem typA_size (s : ByteArray) : (typA s).size ≤ s.size + s.size + 1 := by
  rw [ba_size, ba_size s, typA_list, List.length_append, List.length_cons]
  have h1 := takeW_le tkC s.data.toList
  have h2 := takeW_le tkC (preR 47 (s.data.toList.dropWhile tkC))
  have h3 := dropW_le tkC s.data.toList
  have h4 : (preR 47 (s.data.toList.dropWhile tkC)).length ≤ (s.data.toList.dropWhile tkC).length := by unfold preR; split <;> simp
  omega
def TypOut (o : Except Int (List UInt8 × List (List UInt8 × List UInt8))) (e : Ending) (w' : World) : Prop :=
  match o with
  | .ok (t, l) => ∃ A c, e = .returned (.tuple #[.string ⟨t.toArray⟩, .slice A l.length c, .int .i64 0]) ∧ Sl2 w' A (toPrs l)
  | .error n => e = .returned (.tuple #[.string ⟨#[]⟩, .slice none 0 0, .int .i64 n])
end Wb
namespace Go.Proofs.YtblongcnmpdihaaDoor
open Go.RowKit Wb
set_option maxRecDepth 100000 in
set_option maxHeartbeats 1000000 in
theorem parseType_any (s : ByteArray) (w : World) (hs : s.size ≤ 100000000) :
    Calls Tryd.prog 19 #[.string s] w fun e w' => TypOut (parseT s.data.toList) e w' ∧ Below w.heap.size w w' := by
  have z1 := spanR_size blankB s
  have z2 := typR_size (spanR blankB s)
  have z3 := typA_size (spanR blankB s)
  have h1 := fun v => skip_any s v (by omega)
  have h2 := fun v => cutType_any (spanR blankB s) v (by omega)
  have h3 := fun v => params_any (typR (spanR blankB s)) s.size v (by omega) (by omega)
  have h4 := fun v => small_any (typA (spanR blankB s)) v (by omega)
  obtain ⟨hw1, hw2⟩ := head_way s.data.toList
  have eq1 : typQ (spanR blankB s) = typQL (s.data.toList.dropWhile blankB) := typQ_list _
  have ea : (typA (spanR blankB s)).data.toList = typAL (s.data.toList.dropWhile blankB) := typA_L _
  have er : (typR (spanR blankB s)).data.toList = typRL (s.data.toList.dropWhile blankB) := typR_L _
  have HLA := Lib.hid (show lowB (typA (spanR blankB s)) = ⟨(lowF (typAL (s.data.toList.dropWhile blankB))).toArray⟩ by unfold lowB; rw [ea])
  rw [er] at h3
  obtain ⟨o, ho⟩ : ∃ o, parseT s.data.toList = o := ⟨_, rfl⟩
  rw [ho]
  unfold parseT at ho
  rw [hw1, show s.data.toList.length = s.size from (ba_size s).symm] at ho
  rw [eq1] at h2
  cases hq : typQL (s.data.toList.dropWhile blankB)
  · rw [hq] at h2 ho
    rw [if_pos rfl] at ho
    have HO := Lib.hid ho
    clear ho hw1 hw2 eq1 ea er h3 h4 hq HLA z2 z3
    generalize typA (spanR blankB s) = ta at *
    generalize typR (spanR blankB s) = tr at *
    generalize spanR blankB s = sk at *
    go_enter Tryd.func19, Tryd.ntmps19
    go_wp2_with fail
    refine (h1 _).mono ?_
    rintro e w1 ⟨rfl, hb⟩
    have HB1 := Lib.hid hb
    clear hb h1
    go_wp2_with fail
    refine (h2 _).mono ?_
    rintro e w2 ⟨rfl, hb⟩
    have HB2 := Lib.hid (HB1.out.trans (hb.mono HB1.out.size))
    clear hb h2
    go_wp2
    go_ret3
    rw [← HO.out]
    exact ⟨rfl, HB2.out⟩
  · rw [hq] at h2 ho
    rw [if_neg (by simp), hw2 hq] at ho
    simp only at ho
    have herr := paramsF_err (s.size + 1) [] (typRL (s.data.toList.dropWhile blankB))
    have hlen : (typRL (s.data.toList.dropWhile blankB)).length < s.size + 1 := by rw [← er, ← ba_size]; omega
    clear hw1 hw2 eq1 ea er hq z2 z3
    generalize lowF (typAL (s.data.toList.dropWhile blankB)) = lt at *
    generalize lowB (typA (spanR blankB s)) = lb at *
    generalize typA (spanR blankB s) = ta at *
    generalize typR (spanR blankB s) = tr at *
    generalize spanR blankB s = sk at *
    cases hp : paramsF (s.size + 1) [] (typRL (s.data.toList.dropWhile blankB)) with
    | error n =>
      have hn := herr n hlen hp
      rw [hp] at h3 ho
      subst hn
      have HO := Lib.hid ho
      clear ho herr hlen hp h4
      go_enter Tryd.func19, Tryd.ntmps19
      go_wp2_with fail
      refine (h1 _).mono ?_
      rintro e w1 ⟨rfl, hb⟩
      have HB1 := Lib.hid hb
      clear hb h1
      go_wp2_with fail
      refine (h2 _).mono ?_
      rintro e w2 ⟨rfl, hb⟩
      have HB2 := Lib.hid (HB1.out.trans (hb.mono HB1.out.size))
      clear hb h2
      go_wp2_with fail
      refine (h3 _).mono ?_
      rintro e w3 ⟨he, hb⟩
      obtain rfl : e = _ := he
      have HB3 := Lib.hid (HB2.out.trans (hb.mono HB2.out.size))
      clear hb h3
      go_wp2
      go_ret3
      rw [← HO.out]
      exact ⟨rfl, HB3.out⟩
    | ok l =>
      rw [hp] at h3 ho
      have HO := Lib.hid ho
      clear ho herr hlen hp
      go_enter Tryd.func19, Tryd.ntmps19
      go_wp2_with fail
      refine (h1 _).mono ?_
      rintro e w1 ⟨rfl, hb⟩
      have HB1 := Lib.hid hb
      clear hb h1
      go_wp2_with fail
      refine (h2 _).mono ?_
      rintro e w2 ⟨rfl, hb⟩
      have HB2 := Lib.hid (HB1.out.trans (hb.mono HB1.out.size))
      clear hb h2
      go_wp2_with fail
      refine (h3 _).mono ?_
      rintro e w3 ⟨⟨A, c, rfl, hA⟩, hb⟩
      have HB3 := Lib.hid (HB2.out.trans (hb.mono HB2.out.size))
      have HA := Lib.hid hA
      clear hb h3 hA
      go_wp2_with fail
      refine (h4 _).mono ?_
      rintro e w4 ⟨rfl, hb⟩
      have HB4 := Lib.hid (HB3.out.trans (hb.mono HB3.out.size))
      have HA4 := Lib.hid (HA.out.below hb)
      clear hb h4
      go_wp2
      go_ret3
      rw [← HO.out]
      refine ⟨⟨A, c, ?_, HA4.out⟩, HB4.out⟩
      rw [HLA.out]
      rfl
end Go.Proofs.YtblongcnmpdihaaDoor
namespace Wb
open Go
def mkB (l : List UInt8) : ByteArray := ⟨l.toArray⟩
theorem mkB_size (l : List UInt8) : (mkB l).size = l.length := Lib.size_mk l
theorem mkB_list (l : List UInt8) : (mkB l).data.toList = l := rfl
theorem eq_of_lists {a b : ByteArray} (h : a.data.toList = b.data.toList) : a = b := by
  rw [← ba_mk a, ← ba_mk b, h]
theorem trim_eq (s : ByteArray) : (((⟨(Lib.trimB s.data.toList 32).toArray⟩ : ByteArray).toList == s.toList) : Bool) = decide (Lib.trimB s.data.toList 32 = s.data.toList) := by
  rw [Lib.toList_data, Lib.toList_data, Bool.eq_iff_iff, beq_iff_eq, decide_eq_true_eq]
def idxS (p : ByteArray → Bool) : List ByteArray → Int
  | [] => -1
  | a :: l => if p a = true then 0 else if idxS p l < 0 then -1 else idxS p l + 1
theorem idxS_ge (p : ByteArray → Bool) : ∀ l, -1 ≤ idxS p l
  | [] => by simp [idxS]
  | a :: l => by
    have := idxS_ge p l
    unfold idxS
    split
    · omega
    · split <;> omega
theorem idxS_any (p : ByteArray → Bool) : ∀ l, decide (0 ≤ idxS p l) = l.any p
  | [] => rfl
  | a :: l => by
    have ih := idxS_any p l
    have := idxS_ge p l
    unfold idxS
    rw [List.any_cons]
    cases h : p a
    · rw [if_neg (by simp), Bool.false_or, ← ih]
      by_cases hn : idxS p l < 0
      · rw [if_pos hn, decide_eq_false (by omega), decide_eq_false (by omega)]
      · rw [if_neg hn, decide_eq_true (by omega), decide_eq_true (by omega)]
    · rw [if_pos rfl]; rfl
theorem idxS_drop {p : ByteArray → Bool} {l : List ByteArray} {i : Nat} {a : ByteArray} (h : l[i]? = some a) : idxS p (l.drop i) = if p a = true then 0 else if idxS p (l.drop (i + 1)) < 0 then -1 else idxS p (l.drop (i + 1)) + 1 := by
  obtain ⟨hi, e⟩ := List.getElem?_eq_some_iff.1 h
  rw [List.drop_eq_getElem_cons hi, e]
  rfl
def longS (l : List ByteArray) : Bool := l.any fun x => decide (998 < x.size)
theorem longS_B (ls : List (List UInt8)) : longS (ls.map mkB) = longB ls := by
  unfold longS longB
  rw [List.any_map]
  exact congrArg (fun q => ls.any q) (funext fun x => show decide (998 < (mkB x).size) = _ by rw [mkB_size])
theorem foldG_step (line : List UInt8) (first : Bool) (w : List UInt8) (ws : List (List UInt8)) : foldG line first (w :: ws) = if (!first && decide (76 < line.length + 1 + w.length)) = true then line :: foldG (32 :: w) false ws else foldG (line ++ 32 :: w) false ws := rfl
theorem flatW_drop {ws : List (List UInt8)} {i : Nat} {w : List UInt8} (h : ws[i]? = some w) : (flatW (ws.drop i)).length = 1 + w.length + (flatW (ws.drop (i + 1))).length := by
  obtain ⟨hi, e⟩ := List.getElem?_eq_some_iff.1 h
  rw [List.drop_eq_getElem_cons hi, e, flatW, List.length_cons, List.length_append]
  omega
theorem mkB_app (a b : List UInt8) : mkB a ++ mkB b = mkB (a ++ b) := by
  refine eq_of_lists ?_
  rw [ByteArray.data_append, Array.toList_append, mkB_list, mkB_list, mkB_list]
end Wb
namespace Go.Proofs.YtblongcnmpdihaaDoor
open Go.RowKit Wb
def GvF (w : World) : Prop := (∃ m, w.cell? ⟨2, 0, none⟩ = some (.int .i64 m)) ∧ Lib.TabIs Tryd.prog w "strings.asciiSpace" .u8 Lib.asciiSpaceTab
theorem GvF.next {w w' : World} (h : GvF w) (hb : Below w.heap.size w w') : GvF w' := by
  obtain ⟨⟨m, hm⟩, ht⟩ := h
  refine ⟨⟨m, ?_⟩, Go.Joins.tab_stays (g := 0) (by kernel_rfl) ht hb (Nat.le_refl _)⟩
  rw [hb.cell (World.block_lt_of_cell? w _ hm)]
  exact hm
set_option maxRecDepth 100000 in
set_option maxHeartbeats 1000000 in
theorem printable_any (s : ByteArray) (w : World) (hs : s.size ≤ 1000000000) (hG : GvF w) :
    Calls Tryd.prog 50 #[.string s] w fun e w' => e = .returned (.bool (printableF s.data.toList)) ∧ Below w.heap.size w w' := by
  obtain ⟨⟨m, hm⟩, _⟩ := hG
  have h1 := Tryd.strings_Contains s ⟨#[32, 32]⟩ m w (by omega) hm
  have h2 := fun v => Tryd.strings_Trim_one s 32 (by decide) v (by omega)
  have h3 := fun v => all_any (fun c => c != 9 && plainC c) 68 #[] s v hs (rng_tells v)
  have ht := trim_eq s
  have e1 : (⟨#[32, 32]⟩ : ByteArray).data.toList = [32, 32] := rfl
  rw [e1] at h1
  rw [← prog_printable]
  unfold progV
  have HB0 := Lib.hid (Below.refl w.heap.size w)
  clear hm e1
  generalize (⟨(Lib.trimB s.data.toList 32).toArray⟩ : ByteArray) = tr at *
  generalize decide (Lib.trimB s.data.toList 32 = s.data.toList) = b2 at *
  generalize s.data.toList.all (fun c => c != 9 && plainC c) = b3 at *
  cases hc : Lib.contains s.data.toList [32, 32]
  · rw [hc] at h1
    clear hc
    cases b2
    · go_enter Tryd.func50, Tryd.ntmps50
      go_wp2_with fail
      refine h1.mono ?_
      rintro e w1 ⟨rfl, rfl⟩
      clear h1
      go_wp2_with fail
      refine (h2 _).mono ?_
      rintro e w2 ⟨rfl, hb⟩
      have HB2 : Hid (Below w1.heap.size w1 w2) := Lib.hid (by rcases hb with rfl | rfl; exact Below.refl _ _; exact (Below.refl _ _).drew)
      clear hb h2
      go_wp2
      go_ret
      exact ⟨rfl, HB2.out⟩
    · go_enter Tryd.func50, Tryd.ntmps50
      go_wp2_with fail
      refine h1.mono ?_
      rintro e w1 ⟨rfl, rfl⟩
      clear h1
      go_wp2_with fail
      refine (h2 _).mono ?_
      rintro e w2 ⟨rfl, hb⟩
      have HB2 : Hid (Below w1.heap.size w1 w2) := Lib.hid (by rcases hb with rfl | rfl; exact Below.refl _ _; exact (Below.refl _ _).drew)
      clear hb h2
      go_wp2_with fail
      refine (h3 _).mono ?_
      rintro e w3 ⟨rfl, hb⟩
      have HB3 := Lib.hid (HB2.out.trans (hb.mono HB2.out.size))
      clear hb h3
      go_wp2
      go_ret
      exact ⟨rfl, HB3.out⟩
  · rw [hc] at h1
    clear hc ht
    go_enter Tryd.func50, Tryd.ntmps50
    go_wp2_with fail
    refine h1.mono ?_
    rintro e w1 ⟨rfl, rfl⟩
    clear h1
    go_wp2
    go_ret
    exact ⟨rfl, HB0.out⟩
theorem long_clos (x : ByteArray) (w : World) (hx : x.size ≤ 4000000000) : Calls Tryd.prog 59 #[.string x] w fun e w' => e = .returned (.bool (decide (998 < x.size))) ∧ Below w.heap.size w w' := by
  have HB0 := Lib.hid (Below.refl w.heap.size w)
  go_enter Tryd.func59, Tryd.ntmps59
  go_wp2
  go_ret
  exact ⟨ret_b (by simp <;> omega), HB0.out⟩
set_option maxRecDepth 100000 in
set_option maxHeartbeats 1000000 in
theorem idxStr_any (A : Option Addr) (l : List ByteArray) (c : Nat) (w : World) (hA : Sl1 w A l) (hl : l.length ≤ 1000000001) (hsz : ∀ x ∈ l, x.size ≤ 4000000000) :
    Calls Tryd.prog 73 #[.slice A l.length c, .func (.func 59) #[] #[]] w fun e w' => e = .returned (.int .i64 (idxS (fun x => decide (998 < x.size)) l)) ∧ Below w.heap.size w w' := by
  obtain ⟨R, hR⟩ : ∃ R, idxS (fun x => decide (998 < x.size)) l = R := ⟨_, rfl⟩
  rw [hR]
  have HR := Lib.hid hR
  have HA := Lib.hid hA
  have HS := Lib.hid hsz
  clear hR hA hsz
  go_enter Tryd.func73, Tryd.ntmps73
  go_wp2
  go_loopw [8] (fun vi wr => ∃ i : Nat, i ≤ l.length ∧ vi = .int .i64 i ∧ Hid (R = if idxS (fun x => decide (998 < x.size)) (l.drop i) < 0 then -1 else idxS (fun x => decide (998 < x.size)) (l.drop i) + i) ∧ Hid (Below w.heap.size w wr)) (fun vi _ => ((l.length : Int) - intOf vi).toNat)
  case atStart => exact ⟨0, by omega, rfl, Lib.hid (by
    rw [List.drop_zero, HR.out]
    have := idxS_ge (fun x => decide (998 < x.size)) l
    rw [HR.out] at this
    split <;> omega), Lib.hid (Below.refl _ _)⟩
  case round =>
    obtain ⟨i, hi, rfl, HQ, HB⟩ := hrel
    by_cases h0 : i < l.length
    · obtain ⟨a, ha⟩ : ∃ a, l[i]? = some a := ⟨l[i], List.getElem?_eq_getElem h0⟩
      obtain ⟨ad, rfl, had, d0⟩ := (HA.out.below HB.out).at_ ha
      have hc := long_clos a wr (HS.out a (List.mem_of_getElem? ha))
      by_cases hq : 998 < a.size
      · rw [decide_eq_true hq] at hc
        have HST : Hid (R = i) := Lib.hid (by
          have hx0 : idxS (fun x => decide (998 < x.size)) (l.drop i) = 0 := by rw [idxS_drop ha, if_pos (decide_eq_true hq)]
          rw [HQ.out, hx0]
          simp)
        clear hq ha
        go_wp2_with fail
        refine hc.mono ?_
        rintro e w3 ⟨rfl, hb3⟩
        have HB3 := Lib.hid (HB.out.trans (hb3.mono HB.out.size))
        clear hb3 hc
        go_wp2
        go_ret
        exact ⟨by rw [HST.out]; rfl, HB3.out⟩
      · rw [decide_eq_false hq] at hc
        have HST : Hid (R = if (if idxS (fun x => decide (998 < x.size)) (l.drop (i + 1)) < 0 then -1 else idxS (fun x => decide (998 < x.size)) (l.drop (i + 1)) + 1) < 0 then -1 else (if idxS (fun x => decide (998 < x.size)) (l.drop (i + 1)) < 0 then -1 else idxS (fun x => decide (998 < x.size)) (l.drop (i + 1)) + 1) + i) := Lib.hid (by
          have hx0 : idxS (fun x => decide (998 < x.size)) (l.drop i) = if idxS (fun x => decide (998 < x.size)) (l.drop (i + 1)) < 0 then -1 else idxS (fun x => decide (998 < x.size)) (l.drop (i + 1)) + 1 := by rw [idxS_drop ha, if_neg (by simpa using hq)]
          rw [HQ.out, hx0])
        clear hq ha
        go_wp2_with fail
        refine hc.mono ?_
        rintro e w3 ⟨rfl, hb3⟩
        have HB3 := Lib.hid (HB.out.trans (hb3.mono HB.out.size))
        clear hb3 hc
        go_wp2
        go_roundw
        case rel => exact ⟨i + 1, by omega, by go_num, Lib.hid (by
          rw [HST.out]
          have := idxS_ge (fun x => decide (998 < x.size)) (l.drop (i + 1))
          by_cases hn : idxS (fun x => decide (998 < x.size)) (l.drop (i + 1)) < 0
          · rw [if_pos hn, if_pos hn]; rfl
          · rw [if_neg hn, if_neg hn, if_neg (by omega)]; omega), HB3⟩
        case measure => simp [intOf]; omega
    · have HT : Hid (R = -1) := Lib.hid (by rw [HQ.out, List.drop_eq_nil_of_le (by omega)]; rfl)
      go_wp2
      go_ret
      exact ⟨by rw [HT.out]; rfl, HB.out⟩
set_option maxRecDepth 100000 in
theorem tooLong_any (A : Option Addr) (l : List ByteArray) (c : Nat) (w : World) (hA : Sl1 w A l) (hl : l.length ≤ 1000000001) (hsz : ∀ x ∈ l, x.size ≤ 4000000000) :
    Calls Tryd.prog 36 #[.slice A l.length c] w fun e w' => e = .returned (.bool (longS l)) ∧ Below w.heap.size w w' := by
  have h1 := idxStr_any A l c w hA hl hsz
  have hx := idxS_any (fun x => decide (998 < x.size)) l
  unfold longS
  rw [← hx]
  clear hx hA hsz
  generalize idxS (fun x => decide (998 < x.size)) l = n at *
  go_enter Tryd.func36, Tryd.ntmps36
  go_wp2_with (first
    | (go_at_call 73; refine h1.mono ?_; rintro e w1 ⟨rfl, hb⟩)
    | go_in)
  go_ret
  exact ⟨rfl, hb⟩
end Go.Proofs.YtblongcnmpdihaaDoor
