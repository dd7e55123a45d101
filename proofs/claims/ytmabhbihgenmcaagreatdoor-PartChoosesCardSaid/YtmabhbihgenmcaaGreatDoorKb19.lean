/- QcJ QcK. -/
import Derived.Test.YtmabhbihgenmcaaGreatDoorKb18
namespace Wb
open Go Go.RowKit
def textF (b s : List UInt8) : Except Int (List UInt8 × List UInt8) :=
  if ([13, 10] : List UInt8).isPrefixOf (s.dropWhile blankB) = false then .error 4 else match nextD b ((s.dropWhile blankB).drop 2) with
  | none => .error 2
  | some (t, r3) => .ok (t, r3.drop (2 + b.length))
def TextOut (o : Except Int (List UInt8 × List UInt8)) (e : Ending) : Prop :=
  match o with
  | .ok (t, r) => e = .returned (.tuple #[.string (mkB t), .string (mkB r), .int .i64 0])
  | .error k => e = .returned (.tuple #[.string ⟨#[]⟩, .string ⟨#[]⟩, .int .i64 k])
theorem trim_blank (l : List UInt8) : Lib.trimLeftS l [32, 9] = l.dropWhile blankB := by
  unfold Lib.trimLeftS
  congr 1
  funext c
  have h : ∀ n : Fin 256, ([32, 9] : List UInt8).contains (UInt8.ofNat n.val) = blankB (UInt8.ofNat n.val) := by decide +kernel
  have := h ⟨c.toNat, c.toNat_lt⟩
  rwa [UInt8.ofNat_toNat] at this
theorem crlf_list {l : List UInt8} (h : ([13, 10] : List UInt8).isPrefixOf l = true) : l = 13 :: 10 :: l.drop 2 := by
  obtain ⟨x, rfl⟩ := List.isPrefixOf_iff_prefix.1 h
  rfl
end Wb
namespace Go.Proofs.YtmabhbihgenmcaaGreatDoor
open Go.RowKit Wb
set_option maxRecDepth 100000 in
set_option maxHeartbeats 4000000 in
theorem cutText_any (s b : ByteArray) (w : World) (hs : s.size ≤ 1000000000) (hb : b.size ≤ 1000000000) (hG : GvF w) :
    Calls Tryz.prog 34 #[.string s, .string b] w fun e w' => TextOut (textF b.data.toList s.data.toList) e ∧ Below w.heap.size w w' := by
  obtain ⟨o, ho⟩ : ∃ o, textF b.data.toList s.data.toList = o := ⟨_, rfl⟩
  rw [ho]
  unfold textF at ho
  have h1 := Any.strings_TrimLeft_laid Tryz.lays161 (by kernel_rfl) s ⟨#[32, 9]⟩ w (by decide) (ascii_of_all (by decide))
  rw [show (⟨#[32, 9]⟩ : ByteArray).data.toList = [32, 9] from rfl, trim_blank] at h1
  obtain ⟨r, hr⟩ : ∃ r, mkB (s.data.toList.dropWhile blankB) = r := ⟨_, rfl⟩
  have hrl : r.data.toList = s.data.toList.dropWhile blankB := by rw [← hr]; rfl
  have hrz : r.size ≤ s.size := by
    rw [ba_size, ba_size, hrl]
    exact (List.dropWhile_sublist _).length_le
  have h1 : Calls Tryz.prog 41 #[.string s, .string ⟨#[32, 9]⟩] w fun e w' => e = .returned (.string r) ∧ Below w.heap.size w w' := by rw [← hr]; exact h1
  rw [← hrl] at ho
  have h2 := fun (v : World) => Tryz.strings_HasPrefix r ⟨#[13, 10]⟩ v
  rw [show (⟨#[13, 10]⟩ : ByteArray).data.toList = [13, 10] from rfl] at h2
  have h2 : ∀ v, Calls Tryz.prog 33 #[.string r, .string ⟨#[13, 10]⟩] v fun e w' => e = .returned (.bool (([13, 10] : List UInt8).isPrefixOf r.data.toList)) ∧ w' = v := h2
  have HG := Lib.hid hG
  clear hr hG hrl
  cases hp : ([13, 10] : List UInt8).isPrefixOf r.data.toList
  · rw [if_pos hp] at ho
    have HE : Hid (o = .error 4) := Lib.hid ho.symm
    rw [hp] at h2
    clear ho hp
    go_enter Tryz.func34, Tryz.ntmps34
    go_wp2_with fail
    refine h1.mono ?_
    rintro e w1 ⟨rfl, hb1⟩
    have HB1 := Lib.hid hb1
    have h3 := h2 w1
    clear hb1 h1 h2
    go_wp2_with fail
    refine h3.mono ?_
    rintro e w2 ⟨rfl, rfl⟩
    clear h3
    go_wp2
    go_ret3
    rw [HE.out]
    exact ⟨rfl, HB1.out⟩
  · rw [if_neg (by rw [hp]; simp)] at ho
    rw [hp] at h2
    have HRL := Lib.hid (crlf_list hp)
    have HO := Lib.hid ho
    clear ho hp
    have h4 := fun (v : World) (hv : Below w.heap.size w v) => pcut_any r b v (by omega) hb (HG.out.next hv)
    go_enter Tryz.func34, Tryz.ntmps34
    go_wp2_with fail
    refine h1.mono ?_
    rintro e w1 ⟨rfl, hb1⟩
    have HB1 := Lib.hid hb1
    have h3 := h2 w1
    have h5 := h4 w1 hb1
    clear hb1 h1 h2 h4
    go_wp2_with fail
    refine h3.mono ?_
    rintro e w2 ⟨rfl, rfl⟩
    clear h3
    go_wp2_with fail
    refine h5.mono ?_
    rintro e w3 ⟨⟨rr, hN, he⟩, hb3⟩
    have HB3 := Lib.hid (HB1.out.trans (hb3.mono HB1.out.size))
    clear hb3 h5
    rw [HRL.out] at hN
    rcases text_cut hN with ⟨h6, h7⟩ | ⟨k, h6, h6b, h7, _⟩
    · rcases he with ⟨_, rfl⟩ | ⟨k, h8, _⟩
      · have HE : Hid (o = .error 2) := Lib.hid (by rw [← HO.out, h7])
        clear hN h6 h7
        go_wp2
        go_ret3
        rw [HE.out]
        exact ⟨rfl, HB3.out⟩
      · omega
    · rcases he with ⟨h8, _⟩ | ⟨k2, h8, hk2, rfl⟩
      · omega
      · obtain rfl : k = k2 := by omega
        rw [← HRL.out] at h7
        have HE : Hid (o = .ok (Lib.trimSuffix (Lib.trimPrefix (r.data.toList.take k) [13, 10]) [13, 10], r.data.toList.drop (k + (2 + b.data.toList.length)))) := Lib.hid (by
          rw [← HO.out, h7]
          simp only
          rw [List.drop_drop])
        have hx1 : (r.extract 0 k).data.toList = r.data.toList.take k := by rw [Lib.extract_upto]
        have hx2 : r.extract (k + (2 + b.data.toList.length)) r.size = mkB (r.data.toList.drop (k + (2 + b.data.toList.length))) := Lib.extract_from r _
        have k1 := Tryz.strings_TrimPrefix (r.extract 0 k) ⟨#[13, 10]⟩ w3
        rw [hx1, show (⟨#[13, 10]⟩ : ByteArray).data.toList = [13, 10] from rfl] at k1
        obtain ⟨t1, ht1⟩ : ∃ t, Lib.trimPrefix (r.data.toList.take k) [13, 10] = t := ⟨_, rfl⟩
        have htl : t1.length ≤ r.size := by
          rw [← ht1]
          unfold Lib.trimPrefix
          rw [ba_size]
          split
          · rw [List.length_drop, List.length_take]; omega
          · rw [List.length_take]; omega
        rw [ht1] at k1
        have k2 := Tryz.strings_TrimSuffix ⟨t1.toArray⟩ ⟨#[13, 10]⟩ w3 (by rw [Lib.size_mk]; omega)
        rw [show (⟨t1.toArray⟩ : ByteArray).data.toList = t1 from rfl, show (⟨#[13, 10]⟩ : ByteArray).data.toList = [13, 10] from rfl] at k2
        have HT1 := Lib.hid ht1
        have HX2 := Lib.hid hx2
        clear hN h6 h7 h8 hx1 hx2 ht1
        generalize r.extract (k + (2 + b.data.toList.length)) r.size = x2 at *
        generalize r.extract 0 k = x1 at *
        obtain ⟨b1, hb1⟩ : ∃ b1, (⟨t1.toArray⟩ : ByteArray) = b1 := ⟨_, rfl⟩
        obtain ⟨b2, hb2⟩ : ∃ b2, (⟨(Lib.trimSuffix t1 [13, 10]).toArray⟩ : ByteArray) = b2 := ⟨_, rfl⟩
        have HB2 := Lib.hid hb2
        rw [hb1] at k1 k2
        rw [hb2] at k2
        clear hb1 hb2 htl
        go_wp2_with fail
        refine k1.mono ?_
        rintro e w4 ⟨rfl, rfl⟩
        clear k1
        go_wp2_with fail
        refine k2.mono ?_
        rintro e w5 ⟨rfl, rfl⟩
        clear k2
        go_wp2
        go_ret3
        rw [HE.out, HT1.out]
        refine ⟨?_, HB3.out⟩
        show _ = Ending.returned (.tuple #[.string (mkB (Lib.trimSuffix t1 [13, 10])), .string (mkB (r.data.toList.drop (k + (2 + b.data.toList.length)))), .int .i64 0])
        rw [← HX2.out, show mkB (Lib.trimSuffix t1 [13, 10]) = b2 from HB2.out]
        rfl
end Go.Proofs.YtmabhbihgenmcaaGreatDoor
namespace Wb
open Go Go.RowKit
def ParseOutF (base : Nat) (o : Except Int (List (List UInt8 × List UInt8) × List UInt8)) (e : Ending) (w' : World) : Prop :=
  match o with
  | .ok (l, r) => ∃ A c, e = .returned (.tuple #[.slice A l.length c, .string (mkB r), .int .i64 0]) ∧ Sl2 w' A (toPrs l) ∧ ∀ ad, A = some ad → base ≤ ad.block
  | .error n => e = .returned (.tuple #[.slice none 0 0, .string ⟨#[]⟩, .int .i64 n])
theorem own_newer {w : World} {base sz n m c : Nat} {e : TypeId} {A : Option Addr} {xs : List Value} (h : w.ownsRow base e sz (.slice A n c) m xs) : ∀ ad, A = some ad → base ≤ ad.block := by
  intro ad ha
  subst ha
  rcases h.2 with ⟨hn, _⟩ | ⟨g, cap, cur, hv, hbg, _⟩
  · cases hn
  · injection hv with h1
    injection h1 with h1
    rw [h1]
    exact hbg
theorem Sl2.grown {w w' : World} {A : Option Addr} {l : List Pr} {v : Value} (h : Sl2 w A l) (ha : Apart A l.length v) (hg : w.grownBy w' v.ownBlock) : Sl2 w' A l := by
  refine ⟨h.1, fun hn => ?_⟩
  obtain ⟨ad, e, hb, hc⟩ := h.2 hn
  exact ⟨ad, e, Nat.lt_of_lt_of_le hb hg.size, fun j u hu => hg.cell (hc j u hu) (by rw [add_block]; exact (ha.ne hn ad e))⟩
end Wb
namespace Go.Proofs.YtmabhbihgenmcaaGreatDoor
open Go.RowKit Wb
set_option maxRecDepth 100000 in
set_option maxHeartbeats 8000000 in
theorem parseF_any (s : ByteArray) (F : Nat) (w : World) (hs : s.size ≤ 100000000) (hF : s.size < F) (hG : GvF w) :
    Calls Tryz.prog 35 #[.string s] w fun e w' => ParseOutF w.heap.size (parseL F 0 s.data.toList) e w' ∧ Below w.heap.size w w' := by
  obtain ⟨i2, hk0, hu0, hu1, hu2⟩ := info_parts field_info2
  obtain ⟨o, ho⟩ : ∃ o, parseL F 0 s.data.toList = o := ⟨_, rfl⟩
  rw [ho]
  have HO := Lib.hid (show o = prepP [] (parseL F ([] : List (List UInt8 × List UInt8)).length s.data.toList) by rw [prepP_nil]; exact ho.symm)
  have HG := Lib.hid hG
  clear ho hG
  have e0 : w.ownsRow w.heap.size 61 2 (.slice none 0 0) ([] : List (List UInt8 × List UInt8)).length (cells2 (toPrs [])) := World.ownsRow_nil _ _ _ _
  have E0 := Lib.hid e0
  clear e0
  go_enter Tryz.func35, Tryz.ntmps35
  go_wp2
  go_loopw [0, 2] (fun v0 v2 wr => ∃ (u : ByteArray) (out : List (List UInt8 × List UInt8)) (f : Nat), v0 = .string u ∧ u.size < f ∧ out.length ≤ 8 ∧ u.size ≤ s.size ∧ Hid (o = prepP out (parseL f out.length u.data.toList)) ∧ Hid (wr.ownsRow w.heap.size 61 2 v2 out.length (cells2 (toPrs out))) ∧ Hid (Below w.heap.size w wr)) (fun v0 _ _ => Lib.strSize v0)
  case atStart => exact ⟨s, [], F, rfl, hF, by simp, by omega, HO, E0, Lib.hid (Below.refl _ _)⟩
  case round =>
    obtain ⟨u, out, f, rfl, hf, h8, hsz, HQ, HR, HB⟩ := hrel
    have hGr := HG.out.next HB.out
    have h0 := Tryz.strings_HasPrefix u ⟨#[13, 10]⟩ wr
    have e1 : (⟨#[13, 10]⟩ : ByteArray).data.toList = [13, 10] := rfl
    rw [e1, crlf_pre] at h0
    clear e1
    obtain ⟨f, rfl⟩ : ∃ g, f = g + 1 := ⟨f - 1, by omega⟩
    have hst := HQ.out
    rw [parseL_way] at hst
    by_cases h2 : u.data.toList.take 2 = [13, 10]
    · rw [if_pos h2] at hst
      rw [decide_eq_true h2] at h0
      have hu2' : 2 ≤ u.size := by
        have := congrArg List.length h2
        rw [List.length_take, ← ba_size] at this
        simp only [List.length_cons, List.length_nil] at this
        omega
      have HE : Hid (o = .ok (out, u.data.toList.drop 2)) := Lib.hid (by rw [hst]; simp [prepP])
      have HX := Lib.hid (show u.extract 2 u.size = mkB (u.data.toList.drop 2) from Lib.extract_from u 2)
      obtain ⟨vA, vc, rfl⟩ := own_shape HR.out
      have HS2 := Lib.hid (Sl2.of_own (l := toPrs out) (by rw [toPrs_len]; exact HR.out))
      clear hst HQ h2
      go_wp2_with fail
      refine h0.mono ?_
      rintro e w1 ⟨rfl, rfl⟩
      clear h0
      go_wp2
      go_region
      go_wp2
      go_ret3
      rw [HE.out]
      refine ⟨⟨vA, vc, ?_, HS2.out, own_newer HR.out⟩, HB.out.drew⟩
      rw [← HX.out]
      rfl
    · rw [if_neg h2] at hst
      rw [decide_eq_false h2] at h0
      have h1 := fun v (hg : GvF v) => cutField_any u v (by omega) hg
      rw [show u.data.toList.length = u.size from (ba_size u).symm] at hst
      clear h2
      cases hc : cutL (u.size + 1) u.data.toList with
      | none =>
        rw [hc] at hst h1
        have HE : Hid (o = .error 2) := Lib.hid hst
        have k1 := h1 wr hGr
        clear hst HQ hc h1
        go_wp2_with fail
        refine h0.mono ?_
        rintro e w1 ⟨rfl, rfl⟩
        clear h0
        go_wp2_with fail
        refine k1.mono ?_
        rintro e w2 ⟨he, hb⟩
        obtain rfl : e = _ := he
        have HB2 := Lib.hid (HB.out.trans (hb.mono HB.out.size))
        clear hb k1
        go_wp2
        go_ret3
        rw [HE.out]
        exact ⟨rfl, HB2.out⟩
      | some p =>
        obtain ⟨ls, rest⟩ := p
        rw [hc] at hst h1
        have hlen := cutL_len _ _ _ _ hc
        rw [← ba_size, ← flat_sum] at hlen
        have hne := cutL_ne _ _ _ _ hc
        have hl0 : 0 < ls.length := by
          cases ls with
          | nil => exact absurd rfl hne
          | cons a l => simp
        have hmem : ∀ x ∈ ls.map mkB, x.size ≤ 4000000000 := by
          intro x hx
          obtain ⟨y, hy, rfl⟩ := List.mem_map.1 hx
          rw [mkB_size]
          have : y.length ≤ ls.flatten.length := by
            exact flat_mem_len hy
          omega
        have k1 := h1 wr hGr
        simp only at hst
        clear hc HQ hne h1
        have h5 := fun g c v (hS : OwnS v g c (ls.map mkB)) => tooLong_any (some ⟨g, 0, none⟩) (ls.map mkB) c v hS.sl (by rw [List.length_map]; omega) hmem
        rw [longS_B, List.length_map] at h5
        have h6 := fun g c v (hS : OwnS v g c (ls.map mkB)) => joinS_any ls hS (by omega) (by omega)
        clear hmem
        by_cases hk8 : out.length = 8
        · rw [if_pos (.inl hk8)] at hst
          have HE : Hid (o = .error 3) := Lib.hid hst
          have hk : ((out.length : Int) == 8) = true := by simp [hk8]
          obtain ⟨vA, vc, rfl⟩ := own_shape HR.out
          clear hst h5 h6
          generalize out.length = no at *
          clear hk8
          go_wp2_with fail
          refine h0.mono ?_
          rintro e w1 ⟨rfl, rfl⟩
          clear h0
          go_wp2_with fail
          refine k1.mono ?_
          rintro e w2 ⟨⟨g, c, rfl, hS⟩, hb⟩
          have HB2 := Lib.hid (HB.out.trans (hb.mono HB.out.size))
          clear hb k1 hS
          go_wp2
          go_ret3
          rw [HE.out]
          exact ⟨rfl, HB2.out⟩
        · have hk : ((out.length : Int) == 8) = false := by simp; omega
          have h7 : out.length + 1 ≤ 8 := by omega
          obtain ⟨vA, vc, rfl⟩ := own_shape HR.out
          cases hlong : longB ls
          · rw [if_neg (show ¬ (out.length = 8 ∨ longB ls = true) from fun h => h.elim hk8 (fun h => by rw [hlong] at h; cases h))] at hst
            rw [hlong] at h5
            have h8' := fun v (hg : GvF v) => parsed_any (mkB ls.flatten) v (by rw [mkB_size]; omega) hg
            rw [mkB_list] at h8'
            clear hlong hk8
            cases hp : parsedF ls.flatten with
            | error n =>
              rw [hp] at hst h8'
              have HE : Hid (o = .error n) := Lib.hid hst
              have hn := parsedF_err hp
              clear hst hp
              generalize ls.flatten = fl at *
              rcases hn with rfl | rfl
              all_goals
                go_wp2_with fail
                refine h0.mono ?_
                rintro e w1 ⟨rfl, rfl⟩
                clear h0
                go_wp2_with fail
                refine k1.mono ?_
                rintro e w2 ⟨⟨g, c, rfl, hS⟩, hb⟩
                have HB2 := Lib.hid (HB.out.trans (hb.mono HB.out.size))
                have k5 := h5 g c w2 hS
                have HS2 := Lib.hid hS
                clear hb k1 hS h5
                go_wp2_with fail
                refine k5.mono ?_
                rintro e w3 ⟨rfl, hb⟩
                have HB3 := Lib.hid (HB2.out.trans (hb.mono HB2.out.size))
                have k6 := h6 g c w3 (HS2.out.below hb)
                clear hb k5 h6
                go_wp2_with fail
                refine k6.mono ?_
                rintro e w4 ⟨rfl, hb⟩
                have HB4 := Lib.hid (HB3.out.trans (hb.mono HB3.out.size))
                have k7 := h8' w4 (HG.out.next HB4.out)
                clear hb k6 h8'
                go_wp2_with fail
                refine k7.mono ?_
                rintro e w5 ⟨he, hb⟩
                obtain rfl : e = _ := he
                have HB5 := Lib.hid (HB4.out.trans (hb.mono HB4.out.size))
                clear hb k7
                go_wp2
                go_ret3
                rw [HE.out]
                exact ⟨rfl, HB5.out.alloc HB5.out.size _⟩
            | ok x =>
              rw [hp] at hst h8'
              have hxl := parsedF_len hp
              have HST : Hid (o = prepP (out ++ [x]) (parseL f (out.length + 1) rest)) := Lib.hid (by
                rw [hst]
                simp only
                cases parseL f (out.length + 1) rest with
                | error e => rfl
                | ok q => simp [prepP])
              have hrs : (mkB rest).size = rest.length := mkB_size rest
              have HRL := Lib.hid (mkB_list rest)
              have HMX := Lib.hid (show toPrs (out ++ [x]) = toPrs out ++ [(mkB x.1, mkB x.2)] from toPrs_snoc out x)
              clear hst hp
              generalize ls.flatten = fl at *
              generalize hbr : mkB rest = br at *
              have HBR := Lib.hid hbr
              clear hbr
              have h8'' : ∀ v, GvF v → Calls Tryz.prog 60 #[.string (mkB fl)] v fun e w' => e = .returned (.tuple #[.agg #[.string (mkB x.1), .string (mkB x.2)], .int .i64 0]) ∧ Below v.heap.size v w' := h8'
              clear h8'
              generalize mkB x.1 = b1 at *
              generalize mkB x.2 = b2 at *
              have HFL := Lib.hid hlen
              clear hlen hxl
              go_wp2_with fail
              refine h0.mono ?_
              rintro e w1 ⟨rfl, rfl⟩
              clear h0
              go_wp2_with fail
              refine k1.mono ?_
              rintro e w2 ⟨⟨g, c, he, hS⟩, hb⟩
              rw [HBR.out] at he
              subst he
              have HB2 := Lib.hid (HB.out.trans (hb.mono HB.out.size))
              have HR2 := Lib.hid (own_below HR.out hb)
              have k5 := h5 g c w2 hS
              have HS2 := Lib.hid hS
              clear hb k1 hS h5
              go_wp2_with fail
              refine k5.mono ?_
              rintro e w3 ⟨rfl, hb⟩
              have HB3 := Lib.hid (HB2.out.trans (hb.mono HB2.out.size))
              have HR3 := Lib.hid (own_below HR2.out hb)
              have k6 := h6 g c w3 (HS2.out.below hb)
              clear hb k5 h6
              go_wp2_with fail
              refine k6.mono ?_
              rintro e w4 ⟨rfl, hb⟩
              have HB4 := Lib.hid (HB3.out.trans (hb.mono HB3.out.size))
              have HR4 := Lib.hid (own_below HR3.out hb)
              have k7 := h8'' w4 (HG.out.next HB4.out)
              clear hb k6 h8''
              go_wp2_with fail
              refine k7.mono ?_
              rintro e w5 ⟨rfl, hb⟩
              have HB5 := Lib.hid (HB4.out.trans (hb.mono HB4.out.size))
              have HR5 := Lib.hid (own_below HR4.out hb)
              have hz5 := HB5.out.size
              clear hb k7
              have hSL : Sl ((w5.alloc (.cells #[.string b1, .string b2] 61)).alloc (.cells #[.string b1, .string b2] 61)) 2 (some ⟨w5.heap.size + 1, 0, none⟩) 1 [.string b1, .string b2] := by
                have h := Sl.lit (w5.alloc (.cells #[.string b1, .string b2] 61)) 2 [.string b1, .string b2] 61 1 rfl
                rwa [show (w5.alloc (.cells #[.string b1, .string b2] 61)).heap.size = w5.heap.size + 1 from by simp] at h
              go_wp2_with (at_builtin; apply Classical.byContradiction; intro hNG)
              refine hNG ?_
              refine wpList_append_sl _ rfl _ _ _ rfl w.heap.size 61 i2 _ 2 32 Tryz.underlying41 hk0 hu0 hu1 hu2 rfl (by omega) _ out.length (cells2 (toPrs out)) rfl ((HR5.out.alloc _).alloc _) (some ⟨w5.heap.size + 1, 0, none⟩) 1 1 [.string b1, .string b2] rfl hSL (cells2_one [(b1, b2)]) (by simp only [maxLen]; omega) (by omega) (by simp; omega) ?_
              intro v6 w6 hown6 hg6 hat6
              have HB6 := Lib.hid (((HB5.out.alloc hz5 (.cells #[.string b1, .string b2] 61)).alloc (by simp; omega) (.cells #[.string b1, .string b2] 61)).grown hg6 (by simp; omega) (fun k hk => (HR5.out.lt k hk).1))
              have HR6 := Lib.hid hown6
              clear hown6 hg6 hat6 hNG hSL
              go_wp2
              go_roundw
              case rel => exact ⟨br, out ++ [x], f, rfl, by have := HFL.out; omega, by rw [List.length_append, List.length_singleton]; omega, by have := HFL.out; omega, by rw [List.length_append, List.length_singleton, HRL.out]; exact HST, Lib.hid (by
                have := HR6.out
                rw [List.length_append, List.length_singleton, HMX.out, cells2_append]
                exact this), HB6⟩
              case measure =>
                show br.size < u.size
                have := HFL.out
                omega
          · rw [if_pos (.inr hlong)] at hst
            rw [hlong] at h5
            have HE : Hid (o = .error 3) := Lib.hid hst
            clear hst h6 hlong hk8
            go_wp2_with fail
            refine h0.mono ?_
            rintro e w1 ⟨rfl, rfl⟩
            clear h0
            go_wp2_with fail
            refine k1.mono ?_
            rintro e w2 ⟨⟨g, c, rfl, hS⟩, hb⟩
            have HB2 := Lib.hid (HB.out.trans (hb.mono HB.out.size))
            have k5 := h5 g c w2 hS
            clear hb k1 hS h5
            go_wp2_with fail
            refine k5.mono ?_
            rintro e w3 ⟨rfl, hb⟩
            have HB3 := Lib.hid (HB2.out.trans (hb.mono HB2.out.size))
            clear hb k5
            go_wp2
            go_ret3
            rw [HE.out]
            exact ⟨rfl, HB3.out⟩
end Go.Proofs.YtmabhbihgenmcaaGreatDoor
