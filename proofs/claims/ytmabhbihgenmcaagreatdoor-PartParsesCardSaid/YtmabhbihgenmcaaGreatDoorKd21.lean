/- QcL. -/
import Derived.Test.YtmabhbihgenmcaaGreatDoorKd20
namespace Wb
open Go Go.RowKit
def parseR (b : List UInt8) : Nat → Nat → List UInt8 → Except Int (List Pt)
  | 0, _, _ => .error 0
  | f + 1, k, u => if ([45, 45] : List UInt8).isPrefixOf u = true then (if k = 0 then .error 2 else .ok []) else match textF b u with
    | .error e => .error e
    | .ok (t, r) => if k = 40 then .error 3 else match parseL (t.length + 1) 0 t with
      | .error e => .error e
      | .ok x => match parseR b f (k + 1) r with
        | .error e => .error e
        | .ok l => .ok (x :: l)
theorem parsePs_R (b : List UInt8) : ∀ (f k : Nat) (s : List UInt8), parsePs f b k s = parseR b f k (s.drop (2 + b.length))
  | 0, _, _ => rfl
  | f + 1, k, s => by
    rw [parsePs, parseR]
    simp only
    split
    · rfl
    · unfold textF
      split
      · rfl
      · cases nextD b (((s.drop (2 + b.length)).dropWhile blankB).drop 2) with
        | none => rfl
        | some x =>
          obtain ⟨t, r3⟩ := x
          simp only
          split
          · rfl
          · cases parseL (t.length + 1) 0 t with
            | error e => rfl
            | ok y =>
              obtain ⟨fs, body⟩ := y
              simp only
              rw [parsePs_R b f (k + 1) r3]
              cases parseR b f (k + 1) (r3.drop (2 + b.length)) <;> rfl
theorem nextD_len {b Y t r : List UInt8} (h : nextD b Y = some (t, r)) : t.length ≤ Y.length ∧ r.length ≤ Y.length := by
  unfold nextD at h
  split at h
  · injection h with h
    injection h with h1 h2
    rw [← h1, ← h2]
    exact ⟨Nat.zero_le _, Nat.le_refl _⟩
  · rcases findD_spec b Y with ⟨g, _⟩ | ⟨j, g, _, _⟩
    · rw [g] at h; cases h
    · rw [g] at h
      injection h with h
      injection h with h1 h2
      rw [← h1, ← h2, List.length_take, List.length_drop]
      omega
theorem textF_len {b u t r : List UInt8} (h : textF b u = .ok (t, r)) : t.length ≤ u.length ∧ r.length + 2 ≤ u.length := by
  unfold textF at h
  split at h
  · cases h
  · rename_i hp
    have hl := pre_len (show ([13, 10] : List UInt8).isPrefixOf (u.dropWhile blankB) = true by simpa using hp)
    have hd := (List.dropWhile_sublist blankB (l := u)).length_le
    split at h
    · cases h
    · rename_i t' r3 hn
      injection h with h
      injection h with h1 h2
      have := nextD_len hn
      rw [List.length_drop] at this
      rw [← h1, ← h2, List.length_drop]
      simp only [List.length_cons, List.length_nil] at hl
      omega
theorem textF_err {b u : List UInt8} {e : Int} (h : textF b u = .error e) : e = 4 ∨ e = 2 := by
  unfold textF at h
  split at h
  · injection h with h; exact .inl h.symm
  · split at h
    · injection h with h; exact .inr h.symm
    · cases h
theorem parseL_err : ∀ (f k : Nat) (s : List UInt8) (e : Int), s.length < f → parseL f k s = .error e → e = 2 ∨ e = 3 ∨ e = 4 ∨ e = 12
  | 0, _, _, _, h, _ => by omega
  | f + 1, k, s, e, hf, h => by
    rw [parseL_way] at h
    split at h
    · cases h
    · split at h
      · injection h with h; exact .inl h.symm
      · rename_i ls rest hc
        split at h
        · injection h with h; exact .inr (.inl h.symm)
        · split at h
          · rename_i e2 hp
            injection h with h
            rw [← h]
            rcases parsedF_err hp with h | h
            · exact .inr (.inr (.inl h))
            · exact .inr (.inr (.inr h))
          · rename_i x hp
            have hlen := cutL_len _ _ _ _ hc
            have hne := cutL_ne _ _ _ _ hc
            have hl0 : 0 < ls.length := by
              cases ls with
              | nil => exact absurd rfl hne
              | cons a l => simp
            cases hq : parseL f (k + 1) rest with
            | error e2 =>
              rw [hq] at h
              injection h with h
              rw [← h]
              exact parseL_err f (k + 1) rest e2 (by omega) hq
            | ok y => rw [hq] at h; cases h
def prepQ (acc : List Pt) (o : Except Int (List Pt)) : Except Int (List Pt) :=
  match o with
  | .ok l => .ok (acc ++ l)
  | .error e => .error e
theorem prepQ_nil (o : Except Int (List Pt)) : prepQ [] o = o := by cases o <;> rfl
theorem prepQ_step {b : List UInt8} {f k : Nat} {u t r : List UInt8} {x : List (List UInt8 × List UInt8) × List UInt8} (acc : List Pt) (h0 : ([45, 45] : List UInt8).isPrefixOf u = false) (h1 : textF b u = .ok (t, r)) (h2 : k ≠ 40) (h3 : parseL (t.length + 1) 0 t = .ok x) :
    prepQ acc (parseR b (f + 1) k u) = prepQ (acc ++ [x]) (parseR b f (k + 1) r) := by
  rw [parseR, if_neg (by rw [h0]; simp), h1]
  simp only
  rw [if_neg h2, h3]
  simp only
  cases parseR b f (k + 1) r with
  | error e => rfl
  | ok l => simp [prepQ]
def ParseOutP (o : Except Int (List Pt)) (e : Ending) (w' : World) : Prop :=
  match o with
  | .ok l => ∃ A c, ∃ L : List PtV, e = .returned (.tuple #[.slice A L.length c, .int .i64 0]) ∧ SlP w' A L ∧ ptsOf L = l
  | .error k => e = .returned (.tuple #[.slice none 0 0, .int .i64 k])
theorem parseM_R {b s : List UInt8} {k : Nat} (hb : bndF b = true) {t : List UInt8} (h : nextD b s = some (t, s.drop k)) : parseM b s = parseR b (s.length + 1) 0 (s.drop (k + (2 + b.length))) := by
  unfold parseM
  rw [if_neg (by rw [hb]; simp), h]
  simp only
  rw [parsePs_R, List.drop_drop]
theorem ptsOf_snoc (L : List PtV) (x : PtV) : ptsOf (L ++ [x]) = ptsOf L ++ [ptOf x] := by
  unfold ptsOf
  rw [List.map_append]
  rfl
theorem toPrs_back (l : List (List UInt8 × List UInt8)) : (toPrs l).map ofPr = l := by
  unfold toPrs
  rw [List.map_map]
  exact List.map_id _
end Wb
namespace Go.Proofs.YtmabhbihgenmcaaGreatDoor
open Go.RowKit Wb
theorem part_info : (Tryz.prog.info? 43).map (fun i => (i.zero, i.size, i.bytes)) = some (some (.agg #[.slice none 0 0, .string ⟨#[]⟩]), 2, 40) := by kernel_rfl
set_option maxRecDepth 100000 in
set_option maxHeartbeats 8000000 in
theorem parse8_any (s b : ByteArray) (w : World) (hs : s.size ≤ 10000000) (hb : b.size ≤ 10000000) (hG : GvF w) :
    Calls Tryz.prog 13 #[.string s, .string b] w fun e w' => ParseOutP (parseM b.data.toList s.data.toList) e w' ∧ Below w.heap.size w w' := by
  obtain ⟨i2, hk0, hu0, hu1, hu2⟩ := info_parts part_info
  obtain ⟨o, ho⟩ : ∃ o, parseM b.data.toList s.data.toList = o := ⟨_, rfl⟩
  rw [ho]
  have HG := Lib.hid hG
  have h1 := isBnd_any b w (by omega)
  have HBL := Lib.hid (ba_size b)
  have HSL := Lib.hid (ba_size s)
  clear hG
  cases hbf : bndF b.data.toList
  · have HE : Hid (o = .error 30) := Lib.hid (by rw [← ho]; unfold parseM; rw [if_pos hbf])
    rw [hbf] at h1
    clear hbf ho
    go_enter Tryz.func13, Tryz.ntmps13
    go_wp2_with fail
    refine h1.mono ?_
    rintro e w1 ⟨rfl, hb1⟩
    have HB1 := Lib.hid hb1
    clear hb1 h1
    go_wp2
    go_ret2
    rw [HE.out]
    exact ⟨rfl, HB1.out⟩
  rw [hbf] at h1
  have HBF := Lib.hid hbf
  have HO := Lib.hid ho
  clear hbf ho
  go_enter Tryz.func13, Tryz.ntmps13
  go_wp2_with fail
  refine h1.mono ?_
  rintro e w1 ⟨rfl, hb1⟩
  have HB1 := Lib.hid hb1
  have h2 := pcut_any s b w1 (by omega) (by omega) (HG.out.next hb1)
  clear hb1 h1
  go_wp2_with fail
  refine h2.mono ?_
  rintro e w2 ⟨⟨r, hN, he⟩, hb2⟩
  have HB2 := Lib.hid (HB1.out.trans (hb2.mono HB1.out.size))
  clear hb2 h2
  have hnd := next_D (.inl rfl) hN
  rw [List.drop_zero] at hnd
  rcases hnd with ⟨h3, h4⟩ | ⟨k, h3, _, _, _, h5⟩
  · rcases he with ⟨_, rfl⟩ | ⟨k, h8, _⟩
    · have HE : Hid (o = .error 30) := Lib.hid (by
        rw [← HO.out]
        unfold parseM
        rw [if_neg (by rw [HBF.out]; simp), h4])
      clear hN h3 h4
      go_wp2
      go_ret2
      rw [HE.out]
      exact ⟨rfl, HB2.out⟩
    · omega
  rcases he with ⟨h8, _⟩ | ⟨k2, h8, hk2, rfl⟩
  · omega
  obtain rfl : k = k2 := by omega
  have hx2 : s.extract (k + (2 + b.data.toList.length)) s.size = mkB (s.data.toList.drop (k + (2 + b.data.toList.length))) := Lib.extract_from s _
  have hq0 := parseM_R HBF.out h5
  rw [HO.out, ← HSL.out] at hq0
  obtain ⟨u0, hu0'⟩ : ∃ u, s.extract (k + (2 + b.data.toList.length)) s.size = u := ⟨_, rfl⟩
  have hul : u0.data.toList = s.data.toList.drop (k + (2 + b.data.toList.length)) := by rw [← hu0', hx2]; rfl
  have huz : u0.size ≤ s.size := by rw [← hu0', ByteArray.size_extract]; omega
  rw [← hul] at hq0
  rw [hu0']
  have HQ0 : Hid (o = prepQ (ptsOf []) (parseR b.data.toList (s.size + 1) ([] : List PtV).length u0.data.toList)) := Lib.hid (by
    rw [show ptsOf [] = [] from rfl, prepQ_nil]
    exact hq0)
  have e0 : w2.ownsRow w.heap.size 43 2 (.slice none 0 0) ([] : List PtV).length (cellsP []) := World.ownsRow_nil _ _ _ _
  have E0 := Lib.hid e0
  clear hN h3 h5 h8 hx2 hq0 hul hu0' e0 HSL
  generalize s.extract 0 k = xk at *
  go_wp2
  go_loopw [0, 8] (fun v0 v8 wr => ∃ (u : ByteArray) (L : List PtV) (f : Nat), v0 = .string u ∧ u.size < f ∧ L.length ≤ 40 ∧ u.size ≤ s.size ∧ Hid (o = prepQ (ptsOf L) (parseR b.data.toList f L.length u.data.toList)) ∧ Hid (wr.ownsRow w.heap.size 43 2 v8 L.length (cellsP L)) ∧ Hid (∀ x ∈ L, Sl2 wr x.1.1 x.2.1 ∧ Apart x.1.1 x.2.1.length v8) ∧ Hid (Below w.heap.size w wr)) (fun v0 _ _ => Lib.strSize v0)
  case atStart => exact ⟨u0, [], s.size + 1, rfl, by omega, by simp, huz, HQ0, E0, Lib.hid (fun x hx => by cases hx), HB2⟩
  case round =>
    obtain ⟨u, L, f, rfl, hf, h40, hsz, HQ, HR, HX, HB⟩ := hrel
    have k0 := Tryz.strings_HasPrefix u ⟨#[45, 45]⟩ wr
    have k0 : Calls Tryz.prog 33 #[.string u, .string ⟨#[45, 45]⟩] wr fun e w' => e = .returned (.bool (([45, 45] : List UInt8).isPrefixOf u.data.toList)) ∧ w' = wr := k0
    obtain ⟨f, rfl⟩ : ∃ g, f = g + 1 := ⟨f - 1, by omega⟩
    obtain ⟨vA, vc, rfl⟩ := own_shape HR.out
    cases hd : ([45, 45] : List UInt8).isPrefixOf u.data.toList
    · rw [hd] at k0
      have k1 := cutText_any u b wr (by omega) (by omega) (HG.out.next HB.out)
      cases ht : textF b.data.toList u.data.toList with
      | error e1 =>
        rw [ht] at k1
        have HE : Hid (o = .error e1) := Lib.hid (by rw [HQ.out, parseR, if_neg (by rw [hd]; simp), ht]; rfl)
        have hk := textF_err ht
        clear ht hd
        rcases hk with rfl | rfl
        all_goals
          go_wp2_with fail
          refine k0.mono ?_
          rintro e w3 ⟨rfl, rfl⟩
          clear k0
          go_wp2_with fail
          refine k1.mono ?_
          rintro e w4 ⟨he, hb4⟩
          obtain rfl : e = _ := he
          have HB4 := Lib.hid (HB.out.trans (hb4.mono HB.out.size))
          clear hb4 k1
          go_wp2
          go_ret2
          rw [HE.out]
          exact ⟨rfl, HB4.out⟩
      | ok tr =>
        obtain ⟨t, r⟩ := tr
        rw [ht] at k1
        have htl := textF_len ht
        rw [← ba_size] at htl
        have k1 : Calls Tryz.prog 34 #[.string u, .string b] wr fun e w' => e = .returned (.tuple #[.string (mkB t), .string (mkB r), .int .i64 0]) ∧ Below wr.heap.size wr w' := k1
        have hmt : (mkB t).size = t.length := mkB_size t
        have hmr : (mkB r).size = r.length := mkB_size r
        by_cases hk40 : L.length = 40
        · have HE : Hid (o = .error 3) := Lib.hid (by rw [HQ.out, parseR, if_neg (by rw [hd]; simp), ht]; simp only; rw [if_pos hk40]; rfl)
          have hz : ((L.length : Int) == 40) = true := by rw [beq_iff_eq]; omega
          clear ht hd
          generalize L.length = n0 at *
          clear hk40
          go_wp2_with fail
          refine k0.mono ?_
          rintro e w3 ⟨rfl, rfl⟩
          clear k0
          go_wp2_with fail
          refine k1.mono ?_
          rintro e w4 ⟨rfl, hb4⟩
          have HB4 := Lib.hid (HB.out.trans (hb4.mono HB.out.size))
          clear hb4 k1
          go_wp2
          go_ret2
          rw [HE.out]
          exact ⟨rfl, HB4.out⟩
        have hz : ((L.length : Int) == 40) = false := by rw [beq_eq_false_iff_ne]; omega
        have k2 := fun (v : World) (hg : GvF v) => parseF_any (mkB t) (t.length + 1) v (by omega) (by omega) hg
        rw [show (mkB t).data.toList = t from rfl] at k2
        cases hp : parseL (t.length + 1) 0 t with
        | error e1 =>
          rw [hp] at k2
          have HE : Hid (o = .error e1) := Lib.hid (by rw [HQ.out, parseR, if_neg (by rw [hd]; simp), ht]; simp only; rw [if_neg hk40, hp]; rfl)
          have hk := parseL_err _ _ _ _ (Nat.lt_succ_self _) hp
          clear ht hd hp
          rcases hk with rfl | rfl | rfl | rfl
          all_goals
            go_wp2_with fail
            refine k0.mono ?_
            rintro e w3 ⟨rfl, rfl⟩
            clear k0
            go_wp2_with fail
            refine k1.mono ?_
            rintro e w4 ⟨rfl, hb4⟩
            have HB4 := Lib.hid (HB.out.trans (hb4.mono HB.out.size))
            have k3 := k2 w4 (HG.out.next HB4.out)
            clear hb4 k1 k2
            go_wp2_with fail
            refine k3.mono ?_
            rintro e w5 ⟨he, hb5⟩
            obtain rfl : e = _ := he
            have HB5 := Lib.hid (HB4.out.trans (hb5.mono HB4.out.size))
            clear hb5 k3
            go_wp2
            go_ret2
            rw [HE.out]
            exact ⟨rfl, HB5.out⟩
        | ok x =>
          rw [hp] at k2
          obtain ⟨fs, body⟩ := x
          have HN : Hid (o = prepQ (ptsOf L ++ [(fs, body)]) (parseR b.data.toList f (L.length + 1) r)) := Lib.hid (by rw [HQ.out]; exact prepQ_step _ hd ht hk40 hp)
          have k2 : ∀ v, GvF v → Calls Tryz.prog 35 #[.string (mkB t)] v fun e w' => (∃ A c, e = .returned (.tuple #[.slice A fs.length c, .string (mkB body), .int .i64 0]) ∧ Sl2 w' A (toPrs fs) ∧ ∀ ad, A = some ad → v.heap.size ≤ ad.block) ∧ Below v.heap.size v w' := k2
          have h39 : L.length ≤ 39 := by omega
          clear ht hd hp hk40
          have HBO := Lib.hid (mkB_list body)
          generalize mkB body = bb at *
          generalize hbr : mkB r = br at *
          have HBR : Hid (br.data.toList = r) := Lib.hid (by rw [← hbr]; rfl)
          clear hbr
          generalize mkB t = bt at *
          have HFL := Lib.hid (toPrs_len fs)
          go_wp2_with fail
          refine k0.mono ?_
          rintro e w3 ⟨rfl, rfl⟩
          clear k0
          go_wp2_with fail
          refine k1.mono ?_
          rintro e w4 ⟨rfl, hb4⟩
          have HB4 := Lib.hid (HB.out.trans (hb4.mono HB.out.size))
          have HR4 := Lib.hid (own_below HR.out hb4)
          have HX4 := Lib.hid (fun x hx => (show Sl2 w4 x.1.1 x.2.1 ∧ Apart x.1.1 x.2.1.length (.slice vA L.length vc) from ⟨(HX.out x hx).1.below hb4, (HX.out x hx).2⟩))
          have k3 := k2 w4 (HG.out.next HB4.out)
          clear hb4 k1 k2
          go_wp2_with fail
          refine k3.mono ?_
          rintro e w5 ⟨⟨A5, c5, rfl, hS5, hF5⟩, hb5⟩
          have HB5 := Lib.hid (HB4.out.trans (hb5.mono HB4.out.size))
          have HR5 := Lib.hid (own_below HR4.out hb5)
          have HX5 := Lib.hid (fun x hx => (show Sl2 w5 x.1.1 x.2.1 ∧ Apart x.1.1 x.2.1.length (.slice vA L.length vc) from ⟨(HX4.out x hx).1.below hb5, (HX4.out x hx).2⟩))
          have HA5 : Hid (Apart A5 (toPrs fs).length (.slice vA L.length vc)) := Lib.hid (fun _ ad ha he => by
            have h1 := hF5 ad ha
            have h2 := (HR4.out.lt _ he).2
            omega)
          have HS5 := Lib.hid hS5
          have hz5 := HB5.out.size
          clear hb5 k3 hS5 hF5
          have hSL : Sl (w5.alloc (.cells #[.slice A5 fs.length c5, .string bb] 43)) 2 (some ⟨w5.heap.size, 0, none⟩) 1 [.slice A5 fs.length c5, .string bb] := Sl.lit w5 2 [.slice A5 fs.length c5, .string bb] 43 1 rfl
          go_wp2_with (at_builtin; refine wpList_append_sl _ rfl _ _ _ rfl w.heap.size 43 i2 _ 2 40 Tryz.underlying22 hk0 hu0 hu1 hu2 rfl (by omega) _ L.length (cellsP L) rfl (HR5.out.alloc _) (some ⟨w5.heap.size, 0, none⟩) 1 1 [.slice A5 fs.length c5, .string bb] rfl hSL (by intro u hu; simp at hu; rcases hu with rfl | rfl <;> rfl) (by simp only [maxLen]; omega) (by omega) (by simp; omega) ?_)
          intro v6 w6 hown6 hg6 hat6
          have HB6 := Lib.hid ((HB5.out.alloc hz5 (.cells #[.slice A5 fs.length c5, .string bb] 43)).grown hg6 (by simp; omega) (fun k hk => (HR5.out.lt k hk).1))
          have hpt : ptsOf (L ++ [((A5, c5), (toPrs fs, bb))]) = ptsOf L ++ [(fs, body)] := by
            rw [ptsOf_snoc]
            unfold ptOf
            simp only
            rw [toPrs_back, HBO.out]
          have HR6 : Hid (w6.ownsRow w.heap.size 43 2 v6 (L ++ [((A5, c5), (toPrs fs, bb))]).length (cellsP (L ++ [((A5, c5), (toPrs fs, bb))]))) := Lib.hid (by
            rw [List.length_append, List.length_singleton, cellsP_append]
            have h := hown6
            rw [← HFL.out] at h
            exact h)
          have HX6 : Hid (∀ x ∈ L ++ [((A5, c5), (toPrs fs, bb))], Sl2 w6 x.1.1 x.2.1 ∧ Apart x.1.1 x.2.1.length v6) := Lib.hid (fun x hx => by
            rcases List.mem_append.1 hx with hx | hx
            · have h := HX5.out x hx
              have h2 := h.1.alloc (.cells #[.slice A5 fs.length c5, .string bb] 43)
              exact ⟨h2.grown h.2 hg6, Apart.next h.2 h.1 hat6 (by simp)⟩
            · rw [List.mem_singleton.1 hx]
              have h2 := HS5.out.alloc (.cells #[.slice A5 fs.length c5, .string bb] 43)
              exact ⟨h2.grown HA5.out hg6, Apart.next HA5.out HS5.out hat6 (by simp)⟩)
          have HNN : Hid (o = prepQ (ptsOf (L ++ [((A5, c5), (toPrs fs, bb))])) (parseR b.data.toList f (L ++ [((A5, c5), (toPrs fs, bb))]).length br.data.toList)) := Lib.hid (by
            rw [hpt, List.length_append, List.length_singleton, HBR.out]
            exact HN.out)
          clear hown6 hg6 hat6 hSL hpt
          go_wp2
          go_roundw
          case rel => exact ⟨br, L ++ [((A5, c5), (toPrs fs, bb))], f, rfl, by omega, by rw [List.length_append, List.length_singleton]; omega, by omega, HNN, HR6, HX6, HB6⟩
          case measure =>
            show br.size < u.size
            omega
    · rw [hd] at k0
      by_cases hz : L.length = 0
      · have HE : Hid (o = .error 2) := Lib.hid (by rw [HQ.out, parseR, if_pos hd, if_pos hz]; rfl)
        have hz0 : ((L.length : Int) == 0) = true := by rw [beq_iff_eq]; omega
        clear hd HQ
        generalize L.length = n0 at *
        clear hz
        go_wp2_with fail
        refine k0.mono ?_
        rintro e w3 ⟨rfl, rfl⟩
        clear k0
        go_wp2
        go_ret2
        rw [HE.out]
        exact ⟨rfl, HB.out⟩
      · have HE : Hid (o = .ok (ptsOf L)) := Lib.hid (by rw [HQ.out, parseR, if_pos hd, if_neg hz]; simp [prepQ])
        have hz0 : ((L.length : Int) == 0) = false := by rw [beq_eq_false_iff_ne]; omega
        have HF : Hid (SlP wr vA L) := Lib.hid ⟨Sl.of_own HR.out, fun x hx => (HX.out x hx).1⟩
        clear hd HQ
        go_wp2_with fail
        refine k0.mono ?_
        rintro e w3 ⟨rfl, rfl⟩
        clear k0
        go_wp2
        go_ret2
        rw [HE.out]
        exact ⟨⟨vA, vc, L, rfl, HF.out, rfl⟩, HB.out⟩
end Go.Proofs.YtmabhbihgenmcaaGreatDoor
