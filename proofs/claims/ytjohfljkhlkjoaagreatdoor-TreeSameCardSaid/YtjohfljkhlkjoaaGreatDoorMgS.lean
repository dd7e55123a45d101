import Derived.Test.YtjohfljkhlkjoaaGreatDoorMgN
import Derived.Test.YtjohfljkhlkjoaaGreatDoorMgD
import Derived.Laws.StructEq
import Derived.Laws.Tables
import Derived.Test.YtjohfljkhlkjoaaGreatDoorMgQ
import Derived.Test.YtjohfljkhlkjoaaGreatDoorMgW
namespace Go.Proofs.YtjohfljkhlkjoaaGreatDoor
open Go.RowKit Wb
def parseX (s : ByteArray) : Except (Int × Int) Nd :=
  match tokensU s.data.toList with
  | .error (p, c) => .error (p, c)
  | .ok ts => treeX s.size (ts.map tkv)
def ndZV : Value := .agg #[.int .i64 0, .string sE, .string sE, .slice none 0 0, .slice none 0 0, .string sE]
def ParseOut (r : Except (Int × Int) Nd) (e : Ending) (w' : World) : Prop :=
  match r with
  | .error (p, c) => c ≠ 0 ∧ e = .returned (.tuple #[ndZV, .int .i64 p, .int .i64 c])
  | .ok n => ∃ A ca K ck, e = .returned (.tuple #[ndV n A ca K ck, .int .i64 0, .int .i64 0]) ∧ NodeV w' n A K
theorem parse_bad {r : Except (Int × Int) Nd} {p c : Int} {w' : World} (hr : r = .error (p, c)) (hc : c ≠ 0) : ParseOut r (.returned (.tuple #[ndZV, .int .i64 p, .int .i64 c])) w' := by
  subst hr; exact ⟨hc, rfl⟩
theorem six_blk {w : World} {g : Nat} {t : TypeId} {z0 z1 z2 z3 z4 z5 : Value} (h : w.heap[g]? = some (.cells #[z0, z1, z2, z3, z4, z5] t (0, 0))) (c0 c1 c2 c3 c4 c5 : Value) :
    ((((((w.setCell ⟨g, 0, none⟩ c0).setCell ⟨g, 1, none⟩ c1).setCell ⟨g, 2, none⟩ c2).setCell ⟨g, 3, none⟩ c3).setCell ⟨g, 4, none⟩ c4).setCell ⟨g, 5, none⟩ c5).heap[g]? = some (.cells #[c0, c1, c2, c3, c4, c5] t (0, 0)) := by
  have := blk_set (blk_set (blk_set (blk_set (blk_set (blk_set h 0 c0) 1 c1) 2 c2) 3 c3) 4 c4) 5 c5
  simpa using this
theorem six_blk_drew {w : World} {g : Nat} {t : TypeId} {z0 z1 z2 z3 z4 z5 : Value} (h : w.heap[g]? = some (.cells #[z0, z1, z2, z3, z4, z5] t (0, 0))) (c0 c1 c2 c3 c4 c5 : Value) :
    (((((((w.setCell ⟨g, 0, none⟩ c0).setCell ⟨g, 1, none⟩ c1).setCell ⟨g, 2, none⟩ c2).setCell ⟨g, 3, none⟩ c3).setCell ⟨g, 4, none⟩ c4).setCell ⟨g, 5, none⟩ c5).drew).heap[g]? = some (.cells #[c0, c1, c2, c3, c4, c5] t (0, 0)) := by
  rw [show ∀ v : World, v.drew.heap = v.heap from fun _ => rfl]
  exact six_blk h c0 c1 c2 c3 c4 c5
theorem six_below {B : Nat} {a w : World} {g : Nat} (h : Below B a w) (hg : B ≤ g) (c0 c1 c2 c3 c4 c5 : Value) :
    Below B a ((((((w.setCell ⟨g, 0, none⟩ c0).setCell ⟨g, 1, none⟩ c1).setCell ⟨g, 2, none⟩ c2).setCell ⟨g, 3, none⟩ c3).setCell ⟨g, 4, none⟩ c4).setCell ⟨g, 5, none⟩ c5) := by
  have st : ∀ (v : World) (i : Nat) (c : Value), Below B a v → Below B a (v.setCell ⟨g, i, none⟩ c) := fun v i c hv => hv.setCell (p := ⟨g, i, none⟩) hg c
  exact st _ _ _ (st _ _ _ (st _ _ _ (st _ _ _ (st _ _ _ (st _ _ _ h)))))
theorem six_keep (w : World) (g : Nat) (c0 c1 c2 c3 c4 c5 : Value) :
    Keep (fun k => k = g) w ((((((w.setCell ⟨g, 0, none⟩ c0).setCell ⟨g, 1, none⟩ c1).setCell ⟨g, 2, none⟩ c2).setCell ⟨g, 3, none⟩ c3).setCell ⟨g, 4, none⟩ c4).setCell ⟨g, 5, none⟩ c5) := by
  have st : ∀ (v : World) (i : Nat) (c : Value), Keep (fun k => k = g) w v → Keep (fun k => k = g) w (v.setCell ⟨g, i, none⟩ c) := fun v i c hv => hv.setCell (p := ⟨g, i, none⟩) rfl c
  exact st _ _ _ (st _ _ _ (st _ _ _ (st _ _ _ (st _ _ _ (st _ _ _ (Keep.refl _ w))))))
theorem node_info2 : (Tryz.prog.info? 37).map (·.size) = some 6 := by kernel_rfl
theorem results_cell3 {P : Program} {fn : Func} {p u v : Tmp} {ty : TypeId} (h : fn.results = #[.cell p ty, .tmp u, .tmp v]) (tmps : Array Value) (w : World) (g : Nat) (t : TypeId) (cs : Array Value) (d : TypeDesc)
    (hp : tmps.getD p undef = .pointer (some ⟨g, 0, none⟩)) (hg : w.heap[g]? = some (.cells cs t (0, 0)))
    (hu : P.underlying ty = some d) (hd : (match d with | .struct _ | .array _ _ => true | _ => false) = true) (hi : (P.info? ty).map (·.size) = some cs.size) :
    (results fn tmps).run P w = .ok (.tuple #[.agg cs, tmps.getD u undef, tmps.getD v undef]) w := by
  have hp' : tmps[p]?.getD undef = .pointer (some ⟨g, 0, none⟩) := by simpa using hp
  simp only [results, h]
  simp [Result.andThen, hp', asAddr, run_loadVar_row w g t ty cs (0, 0) d hg hu hd hi]
theorem first_bd (w : World) : BW w.heap.size w.heap.size Bd.none_ (.slice none 0 0) [] [.int .i64 0, .string sE, .string sE, .slice none 0 0, .slice none 0 0, .string sE] (w.alloc (.cells #[.slice none 0 0, .int .i64 0, .string sE, .string sE, .slice none 0 0, .slice none 0 0, .string sE, .int .i64 0] 93)) :=
  ⟨rfl, Nat.le_refl _, heap_alloc_new w _, fun _ _ => (nodeC_V _ _ _).2 ⟨none, 0, none, 0, rfl, Sl3.nil _ _, .inl rfl⟩, World.ownsRow_nil _ _ _ _, fun x hx => (by cases hx), fun x hx => (by cases hx), fun x hx => (by cases hx), by simp [Value.ownBlock], fun x hx => (by cases hx), fun x hx => (by cases hx), List.Pairwise.nil⟩
def restX (len : Nat) (b : Bd) (ts : List TkV) : Except (Int × Int) Nd :=
  match takeAll b ts with
  | .error e => .error e
  | .ok b => if b.opened ≠ [] then .error (len, 2) else if b.root.kind ≠ 1 then .error (len, 18) else .ok b.root
set_option maxRecDepth 100000 in
set_option maxHeartbeats 1500000 in
theorem Parse_any (s : ByteArray) (w : World) (hG : Gv w) (hs : s.size ≤ 900000) :
    Calls Tryz.prog 25 #[.string s] w fun e w' => ParseOut (parseX s) e w' ∧ Below w.heap.size w w' := by
  have hR0 := heap_alloc_new w (.cells #[.int .i64 0, .string sE, .string sE, .slice none 0 0, .slice none 0 0, .string sE] 37)
  have hBR : Below w.heap.size w (w.alloc (.cells #[.int .i64 0, .string sE, .string sE, .slice none 0 0, .slice none 0 0, .string sE] 37)) := (Below.refl _ w).alloc (Nat.le_refl _) _
  have htk := Tokens_any s (w.alloc (.cells #[.int .i64 0, .string sE, .string sE, .slice none 0 0, .slice none 0 0, .string sE] 37)) (hG.alloc _) hs
  have HR0 := Lib.hid hR0
  have HBR := Lib.hid hBR
  clear hR0 hBR hG
  go_enter Tryz.func25, Tryz.ntmps25
  go_wp2_with fail
  refine htk.mono ?_
  rintro e w1 ⟨h1, hb1⟩
  have hb1' : Below w.heap.size w w1 := HBR.out.trans (hb1.mono (by simp))
  have hR1 := still_block HR0.out hb1
  have HB1 := Lib.hid hb1'
  have HR1 := Lib.hid hR1
  clear hb1 hb1' htk
  rcases tokens_fit s.data.toList with ⟨ts, hd, htok⟩ | ⟨_, p, c, htok, hp, hc⟩
  · rw [htok] at h1
    obtain ⟨A, ca, rfl, hS⟩ := h1
    have hpx : parseX s = treeX s.size (ts.map tkv) := by unfold parseX; rw [htok]
    have HPX := Lib.hid hpx
    have HS := Lib.hid hS
    have HD := Lib.hid hd
    have hlen : ts.length ≤ 32768 := by have := (doc_len hd).2; have := hd.1; omega
    clear htok hpx hS hd hR1
    go_upto_region 5 with fail
    have hRN : w.heap.size < w1.heap.size := blk_in HR1.out
    have HW0 := Lib.hid (show BW w1.heap.size w1.heap.size Bd.none_ (.slice none 0 0) [] [.int .i64 0, .string sE, .string sE, .slice none 0 0, .slice none 0 0, .string sE] (w1.alloc (.cells #[.slice none 0 0, .int .i64 0, .string ⟨#[]⟩, .string ⟨#[]⟩, .slice none 0 0, .slice none 0 0, .string ⟨#[]⟩, .int .i64 0] 93)) from first_bd w1)
    have HB2 := Lib.hid (show Below w1.heap.size w1 (w1.alloc (.cells #[.slice none 0 0, .int .i64 0, .string ⟨#[]⟩, .string ⟨#[]⟩, .slice none 0 0, .slice none 0 0, .string ⟨#[]⟩, .int .i64 0] 93)) from (Below.refl _ w1).alloc (Nat.le_refl _) _)
    revert HB2; revert HW0
    generalize (w1.alloc (.cells #[.slice none 0 0, .int .i64 0, .string ⟨#[]⟩, .string ⟨#[]⟩, .slice none 0 0, .slice none 0 0, .string ⟨#[]⟩, .int .i64 0] 93)) = w2
    intro HW0 HB2
    generalize hN : w1.heap.size = N at *
    have HN := Lib.hid hN
    clear hN
    go_wp2
    go_loopw [23] (fun vi wr => ∃ (k : Nat) (b : Bd), k ≤ ts.length ∧ vi = .int .i64 k ∧ Hid (BdOK b) ∧ Hid (BdSz (k * 1000000) b) ∧ Hid (∃ ov xs rc, BW N N b ov xs rc wr) ∧ Hid (Below N w1 wr) ∧ Hid (parseX s = restX s.size b ((ts.map tkv).drop k))) (fun vi _ => ((ts.length : Int) - intOf vi).toNat)
    case atStart => exact ⟨0, Bd.none_, by omega, rfl, Lib.hid BdOK.none_, Lib.hid (by simpa using BdSz.none_), Lib.hid ⟨_, _, _, HW0.out⟩, HB2, Lib.hid (by rw [HPX.out]; rfl)⟩
    case round =>
      obtain ⟨k, b, hk, rfl, HOK, HSZ, HBX, HBL, HRX⟩ := hrel
      have HRr : Hid (wr.heap[w.heap.size]? = some (.cells #[.int .i64 0, .string sE, .string sE, .slice none 0 0, .slice none 0 0, .string sE] 37 (0, 0))) := Lib.hid ((HBL.out.block _ hRN).trans HR1.out)
      have HBB : Hid (Below w.heap.size w wr) := Lib.hid (HB1.out.trans (HBL.out.mono (by omega)))
      obtain ⟨ov, xs, rc, hW⟩ := HBX.out
      by_cases h0 : k < ts.length
      · obtain ⟨p, hp⟩ : ∃ p, ts[k]? = some p := ⟨ts[k], List.getElem?_eq_getElem h0⟩
        have hmem : p ∈ ts := List.mem_of_getElem? hp
        have hSw : TokS wr A (ts.map tv) := HS.out.below (by rw [HN.out]; exact HBL.out)
        obtain ⟨ad, Bq, cq, rfl, had, d0, d1, d2, d3, d4, hSq⟩ := hSw.at_ (k := k) (t := tv p) (by rw [List.getElem?_map, hp]; rfl)
        have htko : TkOk (tkv p) := tkv_ok (D := s.data.toList.length) HD.out.1 ((doc_len HD.out).1 p hmem) (doc_few HD.out p hmem)
        have htxt := prs_txt (t := p) (doc_txt HD.out p hmem)
        have hdrop : (ts.map tkv).drop k = tkv p :: (ts.map tkv).drop (k + 1) := by
          rw [List.drop_eq_getElem_cons (by simpa using h0)]
          congr 1
          rw [List.getElem_map]
          obtain ⟨_, e⟩ := List.getElem?_eq_some_iff.1 hp
          rw [e]
        have hstep : restX s.size b ((ts.map tkv).drop k) = match takeX' b (tkv p) with
            | .error e => .error ((tkv p).place, e)
            | .ok b' => restX s.size b' ((ts.map tkv).drop (k + 1)) := by
          rw [hdrop]
          unfold restX
          conv => lhs; unfold takeAll
          cases takeX' b (tkv p) <;> rfl
        have HST := Lib.hid (HRX.out.trans hstep)
        clear hstep hdrop hSw hp hmem
        have ek : (tv p).kind = (tkv p).kind := rfl
        have ep : (tv p).place = (tkv p).place := rfl
        have en : (tv p).name = (tkv p).name := rfl
        have ea : (tv p).attrs = (tkv p).attrs := rfl
        have ex : (tv p).text = (tkv p).text := rfl
        rw [ek] at d0
        rw [ep] at d1
        rw [en] at d2
        rw [ea] at d3 hSq
        rw [ex] at d4
        clear ek ep en ea ex
        generalize tkv p = q at *
        have htl := take_any' q Bq cq (hW.other ((Below.refl wr.heap.size wr).alloc (Nat.le_refl _) (.cells #[.int .i64 q.kind, .int .i64 q.place, .string q.name, .slice Bq q.attrs.length cq, .string q.text] 57))) HOK.out HSZ.out (by omega) htko (hSq.alloc _) htxt.1
        have HOK2 := Lib.hid (fun b' (h : takeX' b q = .ok b') => takeX_ok HOK.out htxt.1 htxt.2 h)
        have HSZ2 := Lib.hid (fun b' (h : takeX' b q = .ok b') => takeX_sz HSZ.out htko h)
        have hNB : N ≤ wr.heap.size := by have := hW.ltB; omega
        unfold tkVal at htl
        have hk1 : (0 : Int) ≤ (k : Int) := by omega
        have hk2 : (k : Int) < (ts.length : Int) := by omega
        clear hSq had HW0 HB2
        go_wp2_with fail
        refine htl.mono ?_
        rintro e w3 ⟨hb3, h3⟩
        have hba : Below wr.heap.size wr (wr.alloc (.cells #[.int .i64 q.kind, .int .i64 q.place, .string q.name, .slice Bq q.attrs.length cq, .string q.text] 57)) := (Below.refl _ wr).alloc (Nat.le_refl _) _
        have hR3 : w3.heap[w.heap.size]? = _ := (hb3.block _ hRN).trans ((hba.block _ (by omega)).trans HRr.out)
        have HR3 := Lib.hid hR3
        have HB3 := Lib.hid (HBB.out.trans ((hba.mono HBB.out.size).trans (hb3.mono (by omega))))
        cases hx : takeX' b q with
        | error c =>
          rw [hx] at h3
          obtain ⟨hc, rfl, hbz⟩ := h3
          have hT3 := still_block (heap_alloc_new wr (.cells #[.int .i64 q.kind, .int .i64 q.place, .string q.name, .slice Bq q.attrs.length cq, .string q.text] 57)) hbz
          have HXE : Hid (parseX s = .error (q.place, c)) := Lib.hid (by rw [HST.out, hx])
          have hc' : (c != 0) = true := by simpa using hc
          have k1 : w3.cell? ⟨wr.heap.size, 1, none⟩ = some (.int .i64 q.place) := blk_cell hT3 1
          have z0 := blk_cell hR3 0
          have z1 := blk_cell hR3 1
          have z2 := blk_cell hR3 2
          have z3 := blk_cell hR3 3
          have z4 := blk_cell hR3 4
          have z5 := blk_cell hR3 5
          simp only [List.getElem?_toArray, List.getElem?_cons_zero, List.getElem?_cons_succ] at z0 z1 z2 z3 z4 z5
          have y0 := blk_free hR3 0
          have y1 := blk_free hR3 1
          have y2 := blk_free hR3 2
          have y3 := blk_free hR3 3
          have y4 := blk_free hR3 4
          have y5 := blk_free hR3 5
          clear hx hT3 hbz hb3 hba hR3 HRr HBB HBL HBX HOK HSZ HOK2 HSZ2 HST hW HS HD HRX HR1 HB1 HN d0 d1 d2 d3 d4 htl
          go_upto_region 10 with fail
          go_region
          all_goals (
            go_wp2
            refine bodyPost_ret (results_cell3 rfl _ _ w.heap.size _ _ _ rfl (six_blk_drew HR3.out _ _ _ _ _ _) Tryz.underlying37 rfl node_info2) rfl ?_
            exact ⟨parse_bad HXE.out hc, (six_below HB3.out (Nat.le_refl _) _ _ _ _ _ _).drew⟩)
        | ok b' =>
          rw [hx] at h3
          obtain ⟨rfl, hw3⟩ := h3
          have HXE : Hid (parseX s = restX s.size b' ((ts.map tkv).drop (k + 1))) := Lib.hid (by rw [HST.out, hx])
          have HOK3 := Lib.hid (HOK2.out b' hx)
          have HSZ3 : Hid (BdSz ((k + 1) * 1000000) b') := Lib.hid (by rw [Nat.add_mul, Nat.one_mul]; exact HSZ2.out b' hx)
          have HW3 := Lib.hid hw3
          have HBL3 : Hid (Below N w1 w3) := Lib.hid (HBL.out.trans ((hba.mono hNB).trans hb3))
          clear hx hw3 hR3 HRr HBB HBL HBX HOK HSZ HOK2 HSZ2 HST hW HRX d0 d1 d2 d3 d4 htl hba hb3
          go_wp2
          go_roundw
          case rel => exact ⟨k + 1, b', by omega, by go_num, HOK3, HSZ3, HW3, HBL3, HXE⟩
          case measure => simp [intOf]; omega
      · have hke : k = ts.length := by omega
        subst hke
        rw [List.drop_eq_nil_of_le (by simp)] at HRX
        have hres : restX s.size b [] = if b.opened ≠ [] then .error (s.size, 2) else if b.root.kind ≠ 1 then .error (s.size, 18) else .ok b.root := rfl
        rw [hres] at HRX
        clear hres
        obtain ⟨OA, OC, rfl⟩ := own_shape hW.own
        have c0 := hW.c0
        have hol : b.opened.length = xs.length := by rw [hW.els]; simp
        have hxl := (hW.kids_len HOK.out).2
        have hRr := HRr.out
        have z0 := blk_cell hRr 0
        have z1 := blk_cell hRr 1
        have z2 := blk_cell hRr 2
        have z3 := blk_cell hRr 3
        have z4 := blk_cell hRr 4
        have z5 := blk_cell hRr 5
        simp only [List.getElem?_toArray, List.getElem?_cons_zero, List.getElem?_cons_succ] at z0 z1 z2 z3 z4 z5
        have y0 := blk_free hRr 0
        have y1 := blk_free hRr 1
        have y2 := blk_free hRr 2
        have y3 := blk_free hRr 3
        have y4 := blk_free hRr 4
        have y5 := blk_free hRr 5
        by_cases ho : b.opened = []
        · have hx0 : xs.length = 0 := by rw [← hol, ho]; rfl
          rw [hx0] at c0
          have hend := ended_any hW
          by_cases hr : b.root.kind = 1
          · rw [decide_eq_true hr] at hend
            have HXE : Hid (parseX s = .ok b.root) := Lib.hid (by rw [HRX.out, if_neg (by simpa using ho), if_neg (by simpa using hr)])
            obtain ⟨Ar, car, Kr, ckr, hrc, hV⟩ := (nodeC_V _ _ _).1 hW.root.here
            have HRC := Lib.hid hrc
            have HRK := Lib.hid hr
            have hblk := hW.blk
            rw [hrc] at hblk
            have r1 := blk_cell hblk 1
            have r2 := blk_cell hblk 2
            have r3 := blk_cell hblk 3
            have r4 := blk_cell hblk 4
            have r5 := blk_cell hblk 5
            have r6 := blk_cell hblk 6
            unfold ndCells at r1 r2 r3 r4 r5 r6
            simp only [List.cons_append, List.nil_append, List.getElem?_toArray, List.getElem?_cons_zero, List.getElem?_cons_succ] at r1 r2 r3 r4 r5 r6
            have HVR : Hid (SafeP (fun k => k = w.heap.size) wr (fun v => nodeC v b.root rc)) := Lib.hid (fun w2 h2 => hW.root w2 (h2.mono (fun k _ e => .inl (by omega))))
            clear HS HD HN HB2 HW0 hblk hV HOK HSZ HBX HBL HRX HR1 HB1 hol hrc
            go_wp2_with fail
            refine hend.mono ?_
            rintro e w3 ⟨rfl, rfl⟩
            go_wp2
            refine bodyPost_ret (results_cell3 rfl _ _ w.heap.size _ _ _ rfl (six_blk HRr.out _ _ _ _ _ _) Tryz.underlying37 rfl node_info2) rfl ?_
            refine ⟨?_, six_below HBB.out (Nat.le_refl _) _ _ _ _ _ _⟩
            rw [HXE.out]
            refine ⟨Ar, car, Kr, ckr, by unfold ndV ndCells; rw [HRK.out]; rfl, ?_⟩
            obtain ⟨A', ca', K', ck', e', hV'⟩ := (nodeC_V _ _ _).1 (HVR.out _ (six_keep _ _ _ _ _ _ _ _))
            rw [HRC.out] at e'
            unfold ndCells at e'
            simp only [List.cons.injEq, Value.slice.injEq] at e'
            obtain ⟨_, _, _, ⟨rfl, _⟩, ⟨rfl, _⟩, _⟩ := e'
            exact hV'
          · rw [decide_eq_false hr] at hend
            have HXE : Hid (parseX s = .error ((s.size : Int), 18)) := Lib.hid (by rw [HRX.out, if_neg (by simpa using ho), if_pos hr])
            clear HS HD HN HB2 HW0 HOK HSZ HBX HBL HRX HR1 HB1 hol hW
            go_wp2_with fail
            refine hend.mono ?_
            rintro e w3 ⟨rfl, rfl⟩
            go_wp2
            refine bodyPost_ret (results_cell3 rfl _ _ w.heap.size _ _ _ rfl (six_blk HRr.out _ _ _ _ _ _) Tryz.underlying37 rfl node_info2) rfl ?_
            exact ⟨parse_bad HXE.out (by decide), six_below HBB.out (Nat.le_refl _) _ _ _ _ _ _⟩
        · have hx0 : (0 : Int) < (xs.length : Int) := by
            have : xs.length ≠ 0 := fun e => ho (List.eq_nil_of_length_eq_zero (by rw [hol, e]))
            omega
          have HXE : Hid (parseX s = .error ((s.size : Int), 2)) := Lib.hid (by rw [HRX.out, if_pos ho])
          clear HS HD HN HB2 HW0 HOK HSZ HBX HBL HRX HR1 HB1 hol hW
          go_wp2
          refine bodyPost_ret (results_cell3 rfl _ _ w.heap.size _ _ _ rfl (six_blk HRr.out _ _ _ _ _ _) Tryz.underlying37 rfl node_info2) rfl ?_
          exact ⟨parse_bad HXE.out (by decide), six_below HBB.out (Nat.le_refl _) _ _ _ _ _ _⟩
  · rw [htok] at h1
    obtain rfl := h1
    have hpx : parseX s = .error ((p : Int), (c : Int)) := by unfold parseX; rw [htok]
    have HPX := Lib.hid hpx
    have hc' : ((c : Int) != 0) = true := by simp; omega
    have hc0 : (c : Int) ≠ 0 := by omega
    have z0 := blk_cell hR1 0
    have z1 := blk_cell hR1 1
    have z2 := blk_cell hR1 2
    have z3 := blk_cell hR1 3
    have z4 := blk_cell hR1 4
    have z5 := blk_cell hR1 5
    simp only [List.getElem?_toArray, List.getElem?_cons_zero, List.getElem?_cons_succ] at z0 z1 z2 z3 z4 z5
    have y0 := blk_free hR1 0
    have y1 := blk_free hR1 1
    have y2 := blk_free hR1 2
    have y3 := blk_free hR1 3
    have y4 := blk_free hR1 4
    have y5 := blk_free hR1 5
    clear htok hpx hp hc hR1 HR0 HBR
    go_wp2
    refine bodyPost_ret (results_cell3 rfl _ _ w.heap.size _ _ _ rfl (six_blk HR1.out _ _ _ _ _ _) Tryz.underlying37 rfl node_info2) rfl ?_
    exact ⟨parse_bad HPX.out hc0, six_below HB1.out (Nat.le_refl _) _ _ _ _ _ _⟩
end Go.Proofs.YtjohfljkhlkjoaaGreatDoor

namespace Go.Proofs.YtjohfljkhlkjoaaGreatDoor
open Go.RowKit Wb Go.Lib
theorem txt_bad {s : List UInt8} (h : TxtOK s) (f k : Nat) (hf : s.length ≤ f) : badU f s k = none := by
  obtain ⟨ns, hn, rfl⟩ := h
  exact (badU_flat ns (fun n hm => char_sgn n (hn n hm)) f k hf).2 hn
set_option maxRecDepth 100000 in
set_option maxHeartbeats 1000000 in
theorem signs_ok (s : ByteArray) (w : World) (hs : s.size ≤ 1000000000) (hT : TxtB s) :
    Calls Tryz.prog 118 #[.string s] w fun e w' => e = .returned (.bool true) ∧ Below w.heap.size w w' := by
  have hck := check_any s w hs
  have hc : chk s.data.toList = -1 := by
    obtain ⟨ns, hn, e⟩ := hT
    have := chk_form ns [] (fun n hm => char_sgn n (hn n hm)) rfl
    rw [e]
    simpa using this
  rw [hc] at hck
  have HBAD := Lib.hid (txt_bad hT s.size 0 (by rw [← Lib.size_eq]; exact Nat.le_refl _))
  clear hc hT
  go_enter Tryz.func118, Tryz.ntmps118
  go_wp2_with fail
  refine hck.mono ?_
  rintro e w1 ⟨rfl, hb⟩
  have hit : (w1.iter s 0).heap[w1.heap.size]? = some (.stringIter s 0) := World.iter_heap w1 s 0
  have hb1 : Below w.heap.size w (w1.iter s 0) := hb.alloc hb.size _
  have hkb : w.heap.size ≤ w1.heap.size := hb.size
  have HIT := Lib.hid hit
  have HB1 := Lib.hid hb1
  clear hck hit hb1 hb
  go_wp2
  go_loopg [] s.size (fun g wx => ∃ pos : Nat, s.size ≤ pos + g ∧ wx.heap[w1.heap.size]? = some (.stringIter s pos) ∧ Below w.heap.size w wx ∧ Hid (badU g (s.data.toList.drop pos) pos = none))
  case atStart => exact ⟨0, by omega, HIT.out, HB1.out, HBAD⟩
  case round =>
    obtain ⟨pos, hpg, hk, hbw, HI⟩ := hrel
    have HBW := Lib.hid hbw
    by_cases hp : pos < s.size
    · obtain ⟨g, rfl⟩ : ∃ g, gk = g + 1 := ⟨gk - 1, by omega⟩
      have hne : s.data.toList.drop pos ≠ [] := by
        intro e
        have := congrArg List.length e
        rw [List.length_drop, ← Lib.size_eq] at this
        simp at this
        omega
      have hnx := fun (ty : TypeId) => run_next_any_at (P := Tryz.prog) wr w1.heap.size s pos ty hk hp
      rw [decode_U s pos hp] at hnx
      have hi := HI.out
      rw [show badU (g + 1) (s.data.toList.drop pos) pos = if s.data.toList.drop pos = [] then none else if charB (decU (s.data.toList.drop pos)).1 = true then badU g ((s.data.toList.drop pos).drop (decU (s.data.toList.drop pos)).2) (pos + (decU (s.data.toList.drop pos)).2) else some pos from rfl, if_neg hne, List.drop_drop] at hi
      have hdp := decU_pos (s.data.toList.drop pos)
      generalize hR : (decU (s.data.toList.drop pos)).1 = R at *
      generalize hW : (decU (s.data.toList.drop pos)).2 = W at *
      have HI3 := Lib.hid (iterAt_heap wr w1.heap.size s pos (pos + W) hk)
      have HB3 := Lib.hid (below_iterAt HBW.out hkb s (pos + W))
      cases hcb : charB (R : Int) with
      | true =>
        rw [if_pos hcb] at hi
        have HI2 := Lib.hid hi
        clear hi hk hbw hR hW hne HI hp
        go_wp2_with fail
        refine (char_any (R : Int) _).mono ?_
        rintro e w3 ⟨rfl, hb3⟩
        rw [hcb]
        have HB4 := Lib.hid (HB3.out.trans (hb3.mono HB3.out.size))
        have HI4 := Lib.hid ((hb3.block _ (Array.getElem?_eq_some_iff.1 HI3.out).1).trans HI3.out)
        clear hnx hb3
        go_wp2
        go_roundg g
        case measure => omega
        case rel => exact ⟨pos + W, by omega, HI4.out, HB4.out, HI2⟩
      | false =>
        rw [if_neg (by rw [hcb]; decide)] at hi
        cases hi
    · have hnx := fun (ty : TypeId) => run_next_end_at (P := Tryz.prog) wr w1.heap.size s pos ty hk hp
      clear hk hbw
      go_wp2
      go_ret
      exact ⟨rfl, HBW.out⟩
theorem rname_ok (n : Pr) (w : World) (h : nameOK n) (h1 : n.1.size ≤ 1000000000) (h2 : n.2.size ≤ 1000000000) :
    Calls Tryz.prog 78 #[.agg #[.string n.1, .string n.2]] w fun e w' => e = .returned (.bool true) ∧ Below w.heap.size w w' := by
  obtain ⟨sp, lo⟩ := n
  obtain ⟨hn, ht, hx⟩ := h
  simp only at hn ht hx h1 h2 ⊢
  have hnm := name_any lo (w.alloc (.cells #[.string sp, .string lo] 33)) h2
  rw [hn] at hnm
  have HS := Lib.hid (fun (w2 : World) => signs_ok sp w2 h1 ht)
  have hx' : (sp.toList == sXMLNS.toList) = false := by
    have : ¬ eqT sp sXMLNS = true := fun e => hx ((eqT_iff _ _).1 e)
    simpa [eqT] using this
  have hxl : sXMLNS.toList = [104, 116, 116, 112, 58, 47, 47, 119, 119, 119, 46, 119, 51, 46, 111, 114, 103, 47, 50, 48, 48, 48, 47, 120, 109, 108, 110, 115, 47] := by
    rw [ByteArray.toList_eq]; rfl
  rw [hxl] at hx'
  have hblk := heap_alloc_new w (.cells #[.string sp, .string lo] 33)
  have HB := Lib.hid hblk
  clear hn ht hx hblk hxl
  go_enter Tryz.func78, Tryz.ntmps78
  go_wp2_with fail
  refine hnm.mono ?_
  rintro e w2 ⟨rfl, hb2⟩
  have hB2 := still_block HB.out hb2
  have c0 := blk_cell hB2 0
  simp only [List.getElem?_toArray, List.getElem?_cons_zero] at c0
  have HB2 := Lib.hid hB2
  have HW2 := Lib.hid (((Below.refl _ w).alloc (Nat.le_refl _) (.cells #[.string sp, .string lo] 33)).trans (hb2.mono (by simp)))
  clear hB2 hb2 hnm
  go_wp2_with fail
  refine (HS.out _).mono ?_
  rintro e w3 ⟨rfl, hb3⟩
  have hB3 := still_block HB2.out hb3
  have c0' := blk_cell hB3 0
  simp only [List.getElem?_toArray, List.getElem?_cons_zero] at c0'
  have HW3 := Lib.hid (HW2.out.trans (hb3.mono HW2.out.size))
  clear hB3 hb3 c0
  go_wp2
  go_ret
  exact ⟨rfl, HW3.out⟩
theorem arr_info : (Tryz.prog.info? 75).map (·.size) = some 2 := by kernel_rfl
theorem key_any (a b : ByteArray) (w : World) : Calls Tryz.prog 40 #[.agg #[.string a, .string b]] w fun e w' => e = .returned (.agg #[.string a, .string b]) ∧ Below w.heap.size w w' := by
  have hb : ((w.alloc (.cells #[.string a, .string b] 33)).alloc (.cells #[.string a, .string b] 75)).heap[w.heap.size + 1]? = some (.cells #[.string a, .string b] 75 (0, 0)) := by
    have := heap_alloc_new (w.alloc (.cells #[.string a, .string b] 33)) (.cells #[.string a, .string b] 75)
    simpa using this
  have HB := Lib.hid hb
  clear hb
  go_enter Tryz.func40, Tryz.ntmps40
  go_wp2
  refine bodyPost_ret (results_cell_row rfl _ _ (w.heap.size + 1) _ _ (0, 0) _ rfl HB.out Tryz.underlying75 rfl arr_info) rfl ?_
  exact ⟨rfl, ((Below.refl _ w).alloc (Nat.le_refl _) _).alloc (by simp) _⟩
set_option maxRecDepth 100000 in
theorem eq_arr (a b c d : ByteArray) (w : World) : (Op.equalIn 10000 75 (.agg #[.string a, .string b]) (.agg #[.string c, .string d])).run Tryz.prog w = .ok (a.toList == c.toList && b.toList == d.toList) w := by
  have u3 := Tryz.underlying9
  have a3 := Tryz.isAgg9
  have z3 := Tryz.sizeOf9
  rw [show (10000 : Nat) = 9999 + 1 from rfl, Op.equalIn]
  simp only [Sem.run_bind, run_underlying Tryz.underlying75, Result.andThen_ok]
  simp only [Std.Legacy.Range.forIn_eq_forIn_range', Std.Legacy.Range.size, Nat.sub_zero, Nat.add_sub_cancel, Nat.div_one, List.range'_succ, List.range'_zero, List.forIn_cons, List.forIn_nil]
  go_simp
  by_cases h1 : a.toList = c.toList <;> by_cases h2 : b.toList = d.toList <;> simp [h1, h2]
set_option maxRecDepth 100000 in
theorem rtext_ok (n : Nd) (A K : Option Addr) (ca ck : Nat) (w : World) {d : Nat} (h : okN d n) (hk : n.kind ≠ 1) (hz : n.text.size ≤ 1000000000) :
    Calls Tryz.prog 77 #[ndV n A ca K ck] w fun e w' => e = .returned (.bool true) ∧ Below w.heap.size w w' := by
  obtain ⟨k, nm, al, ks, t⟩ := n
  unfold okN at h
  rcases h with ⟨rfl, _⟩ | ⟨rfl, ht0, ht, rfl, rfl, rfl⟩
  · exact absurd rfl hk
  · simp only [Nd.text] at hz
    unfold ndV ndCells
    simp only [Nd.kind, Nd.name, Nd.attrs, Nd.kids, Nd.text, List.length_nil]
    have he : t.toList.isEmpty = false := by
      have : ¬ t.toList = [] := fun e => ht0 (by
        rw [ByteArray.toList_eq] at e
        exact ByteArray.ext (Array.ext' (by simpa [sE] using e)))
      simpa using this
    have hblk := heap_alloc_new w (.cells #[.int .i64 2, .string sE, .string sE, .slice A 0 ca, .slice K 0 ck, .string t] 37)
    have HB := Lib.hid hblk
    have hsg := signs_ok t (w.alloc (.cells #[.int .i64 2, .string sE, .string sE, .slice A 0 ca, .slice K 0 ck, .string t] 37)) hz ht
    have HBW := Lib.hid ((Below.refl _ w).alloc (Nat.le_refl _) (.cells #[.int .i64 2, .string sE, .string sE, .slice A 0 ca, .slice K 0 ck, .string t] 37))
    have HKY := Lib.hid (fun w2 => key_any sE sE w2)
    have heq := fun w2 => eq_arr sE sE ⟨#[]⟩ ⟨#[]⟩ w2
    rw [show (sE.toList == (⟨#[]⟩ : ByteArray).toList && sE.toList == (⟨#[]⟩ : ByteArray).toList) = true from by simp [sE]] at heq
    clear hblk ht ht0 hk
    go_enter Tryz.func77, Tryz.ntmps77
    go_wp2_with fail
    refine hsg.mono ?_
    rintro e w2 ⟨rfl, hb2⟩
    have hB2 := still_block HB.out hb2
    have c1 := blk_cell hB2 1
    have c2 := blk_cell hB2 2
    simp only [List.getElem?_toArray, List.getElem?_cons_zero, List.getElem?_cons_succ] at c1 c2
    have HB2 := Lib.hid hB2
    have HW2 := Lib.hid (HBW.out.trans (hb2.mono (by simp)))
    clear hB2 hb2 hsg
    go_wp2_with fail
    refine (HKY.out _).mono ?_
    rintro e w3 ⟨rfl, hb3⟩
    have hB3 := still_block HB2.out hb3
    have c3 := blk_cell hB3 3
    have c4 := blk_cell hB3 4
    simp only [List.getElem?_toArray, List.getElem?_cons_zero, List.getElem?_cons_succ] at c3 c4
    have HW3 := Lib.hid (HW2.out.trans (hb3.mono HW2.out.size))
    clear hB3 hb3 c1 c2
    go_wp2
    go_ret
    exact ⟨rfl, HW3.out⟩
end Go.Proofs.YtjohfljkhlkjoaaGreatDoor

namespace Go.Proofs.YtjohfljkhlkjoaaGreatDoor
open Go.RowKit Wb Go.Maps
theorem arr_row : (75 : TypeId) < Tryz.prog.types.size := of_decide_eq_true (by kernel_rfl)
theorem arr_wide : (match Tryz.prog.underlying 75 with | some (.array _ _) | some (.struct _) => true | _ => false) = true := by kernel_rfl
set_option maxRecDepth 1000000 in
theorem arr_law : Keyed Tryz.prog 75 := Keyed.of_law (deep_law_laid laidOut (m := 3) (by omega) arr_row (by kernel_rfl) arr_wide)
theorem arr_kt : Tryz.prog.keyType 75 = true := by kernel_rfl
theorem arr_cells : Tryz.prog.cellsOf 75 = 2 := by kernel_rfl
theorem arr_key (x : Pr) (h1 : x.1.size ≤ maxLen) (h2 : x.2.size ≤ maxLen) : keyOf Tryz.prog 75 (.agg #[.string x.1, .string x.2]) = some (litN x) := by
  have hf : (Value.agg #[.string x.1, .string x.2]).formed Tryz.prog 75 = true := by
    simp [Value.formed, Tryz.underlying75, arr_cells]
  unfold keyOf
  rw [Tryz.underlying75]
  simp only [arr_kt, hf, Bool.and_self, if_true]
  obtain ⟨m, hm⟩ : ∃ m, Tryz.prog.types.size + 1 = m + 2 := ⟨Tryz.prog.types.size - 1, by have := many_types; omega⟩
  rw [hm]
  unfold Program.keyLits
  rw [Tryz.underlying75]
  simp [Value.cells, arr_cells, str_cells, key_str _ _ h1, key_str _ _ h2, litN, show List.range 2 = [0, 1] from rfl]
def SetA (w : World) (b n : Nat) (l : List Pr) : Prop :=
  ∃ D : DataW Unit, w.ownsMap Tryz.prog 75 unitElem b n D ∧ (∀ y ∈ l, y.1.size ≤ maxLen ∧ y.2.size ≤ maxLen) ∧
    ∀ x : Pr, x.1.size ≤ maxLen → x.2.size ≤ maxLen → Maps.has D (litN x) = l.any (fun y => eqP y x)
theorem SetA.made (w : World) : SetA (w.alloc (.map #[] 0)) w.heap.size 0 [] :=
  ⟨.map [], World.ownsMap_made _ _ _ _, by simp, fun x _ _ => by simp [has_eq]⟩
theorem SetA.below {w w2 : World} {b n : Nat} {l : List Pr} (h : SetA w b n l) (hb : Below w.heap.size w w2) : SetA w2 b n l := by
  obtain ⟨D, ⟨es, clock, h1, h2⟩, h3⟩ := h
  exact ⟨D, ⟨es, clock, still_block h1 hb, h2⟩, h3⟩
theorem SetA.put {w : World} {b n : Nat} {l : List Pr} {D : DataW Unit} {x : Pr} (hown : w.ownsMap Tryz.prog 75 unitElem b n (D.put (litN x) (.agg []))) (hD : IsMap D)
    (hsz : ∀ y ∈ l, y.1.size ≤ maxLen ∧ y.2.size ≤ maxLen) (h1 : x.1.size ≤ maxLen) (h2 : x.2.size ≤ maxLen)
    (hhas : ∀ x : Pr, x.1.size ≤ maxLen → x.2.size ≤ maxLen → Maps.has D (litN x) = l.any (fun y => eqP y x)) : SetA w b n (l ++ [x]) := by
  refine ⟨_, hown, ?_, fun y k1 k2 => ?_⟩
  · intro y hy
    rcases List.mem_append.1 hy with h | h
    · exact hsz y h
    · rw [List.mem_singleton.1 h]; exact ⟨h1, h2⟩
  · rw [List.any_append, ← hhas y k1 k2]
    by_cases e : y = x
    · subst e
      rw [has_put_same hD (show WideAt.IsKeyLit (litN y) from trivial), List.any_cons, (eqP_iff y y).2 rfl]
      simp
    · rw [has_put_other (fun h => e (litN_inj k1 k2 h1 h2 h))]
      have : eqP x y = false := by
        cases h : eqP x y
        · rfl
        · exact absurd ((eqP_iff _ _).1 h).symm e
      simp [this]
theorem map_below {w w2 : World} {b n : Nat} {D : DataW Unit} (h : w.ownsMap Tryz.prog 75 unitElem b n D) (hb : Below w.heap.size w w2) : w2.ownsMap Tryz.prog 75 unitElem b n D := by
  obtain ⟨es, clock, h1, h2⟩ := h
  exact ⟨es, clock, still_block h1 hb, h2⟩
def AtsSz (l : List Tr) : Prop := ∀ a ∈ l, a.1.1.size ≤ 1000000000 ∧ a.1.2.size ≤ 1000000000 ∧ a.2.size ≤ 1000000000
set_option maxRecDepth 100000 in
set_option maxHeartbeats 4000000 in
theorem rattrs_ok (A : Option Addr) (l : List Tr) (c : Nat) (w : World) (h : attrsOK l) (hz : AtsSz l) (hA : Sl3 w A l) :
    Calls Tryz.prog 79 #[.slice A l.length c] w fun e w' => e = .returned (.bool true) ∧ Below w.heap.size w w' := by
  obtain ⟨h32, hpw, heach⟩ := h
  have hmm := @run_makeMap Tryz.prog
  have h32' : ¬ (32 : Int) < (l.length : Int) := by omega
  have HPW := Lib.hid hpw
  have HEA := Lib.hid heach
  have HZ := Lib.hid hz
  clear hpw heach hz
  go_enter Tryz.func79, Tryz.ntmps79
  go_wp2
  go_loopw [15] (fun vi wr => ∃ k : Nat, k ≤ l.length ∧ vi = .int .i64 k ∧ Hid (SetA wr w.heap.size k ((l.take k).map (·.1))) ∧ Hid (Below w.heap.size w wr)) (fun vi _ => ((l.length : Int) - intOf vi).toNat)
  case atStart => exact ⟨0, by omega, rfl, Lib.hid (SetA.made w), Lib.hid ((Below.refl _ _).alloc (Nat.le_refl _) _)⟩
  case round =>
    obtain ⟨k, hk, rfl, HS, HB⟩ := hrel
    by_cases h0 : k < l.length
    · obtain ⟨⟨⟨a1, a2⟩, a3⟩, he⟩ : ∃ x, l[k]? = some x := ⟨l[k], List.getElem?_eq_getElem h0⟩
      obtain ⟨ad, rfl, had, c1, c2, c3⟩ := (hA.below HB.out).at_ he
      simp only at c1 c2 c3
      have hmem := List.mem_of_getElem? he
      obtain ⟨hn, hx, ht⟩ := HEA.out _ hmem
      obtain ⟨z1, z2, z3⟩ := HZ.out _ hmem
      simp only at hn hx ht z1 z2 z3
      have k1 : a1.size ≤ maxLen := by simp only [maxLen]; omega
      have k2 : a2.size ≤ maxLen := by simp only [maxLen]; omega
      have hnew : ((l.take k).map (·.1)).any (fun y => eqP y (a1, a2)) = false := by
        rw [Bool.eq_false_iff]
        intro h
        rw [List.any_eq_true] at h
        obtain ⟨y, hy, hey⟩ := h
        have hy2 := (eqP_iff _ _).1 hey
        subst hy2
        obtain ⟨z, hz1, hz2⟩ := List.mem_map.1 hy
        obtain ⟨i, hi, hzi⟩ := List.mem_iff_getElem.1 hz1
        rw [List.length_take] at hi
        rw [List.getElem_take] at hzi
        have hp := List.pairwise_iff_getElem.1 HPW.out i k (by rw [List.length_map]; omega) (by rw [List.length_map]; omega) (by omega)
        rw [List.getElem_map, List.getElem_map, hzi, hz2] at hp
        obtain ⟨_, e⟩ := List.getElem?_eq_some_iff.1 he
        rw [e] at hp
        exact hp rfl
      have htk : (l.take (k + 1)).map (·.1) = (l.take k).map (·.1) ++ [(a1, a2)] := by
        rw [List.take_add_one, he]; simp
      obtain ⟨D, hown, hsz, hhas⟩ := HS.out
      have hkey := arr_key (a1, a2) k1 k2
      have hhf : has D (litN (a1, a2)) = false := by rw [hhas (a1, a2) k1 k2, hnew]
      have HHAS := Lib.hid hhas
      have HSZ := Lib.hid hsz
      have HM := Lib.hid hown.isMap
      have HTK := Lib.hid htk
      have heq := fun w2 => eq_arr a1 a2 ⟨#[]⟩ ⟨#[120, 109, 108, 110, 115]⟩ w2
      have hne : (a1.toList == (⟨#[]⟩ : ByteArray).toList && a2.toList == (⟨#[120, 109, 108, 110, 115]⟩ : ByteArray).toList) = false := by
        rw [Bool.eq_false_iff]
        intro h
        rw [Bool.and_eq_true] at h
        exact hx (Prod.ext ((eqT_iff a1 sE).1 h.1) ((eqT_iff a2 sXmlns).1 h.2))
      rw [hne] at heq
      have HKY := Lib.hid (fun w2 => key_any a1 a2 w2)
      have HNM := Lib.hid (fun w2 => rname_ok (a1, a2) w2 hn z1 z2)
      have HSG := Lib.hid (fun w2 => signs_ok a3 w2 z3 ht)
      clear hne hhas hsz htk hnew hx hn ht hmem he had
      go_wp2_with fail
      refine (HKY.out _).mono ?_
      rintro e w2 ⟨rfl, hb2⟩
      have hba : Below wr.heap.size wr (wr.alloc (.cells #[.string a1, .string a2, .string a3] 42)) := (Below.refl _ wr).alloc (Nat.le_refl _) _
      have hbr : Below wr.heap.size wr w2 := hba.trans (hb2.mono (by simp))
      have hown2 := map_below hown hbr
      have hB5 := still_block (heap_alloc_new wr (.cells #[.string a1, .string a2, .string a3] 42)) hb2
      have h5l : wr.heap.size < w2.heap.size := blk_in hB5
      have n0 := blk_cell hB5 0
      have n1 := blk_cell hB5 1
      simp only [List.getElem?_toArray, List.getElem?_cons_zero, List.getElem?_cons_succ] at n0 n1
      have q : ∀ o o2 j, ((w2.alloc o).alloc o2).cell? ⟨wr.heap.size, j, none⟩ = w2.cell? ⟨wr.heap.size, j, none⟩ := fun o o2 j =>
        World.cell?_of_block (w := w2) ((Below.heap_alloc (w2.alloc o) o2 _ (by simp; omega)).trans (Below.heap_alloc w2 o _ h5l))
      have q0 : ∀ o o2, ((w2.alloc o).alloc o2).cell? ⟨wr.heap.size, 0, none⟩ = _ := fun o o2 => (q o o2 0).trans n0
      have q1 : ∀ o o2, ((w2.alloc o).alloc o2).cell? ⟨wr.heap.size, 1, none⟩ = _ := fun o o2 => (q o o2 1).trans n1
      have HB5 := Lib.hid hB5
      have HOWN2 := Lib.hid hown2
      have HBR := Lib.hid hbr
      clear hB5 n0 n1 q hb2 hba hown hbr
      go_wp2_with (at_lookup; refine wpList_lookup_own_unit _ rfl _ _ _ rfl 75 156 arr_law Tryz.underlying155 (zero_unit _) w.heap.size k D rfl (HOWN2.out.alloc _) _ _ rfl hkey ?_)
      refine (HNM.out _).mono ?_
      rintro e w3 ⟨rfl, hb3⟩
      have hb3w : Below w2.heap.size w2 w3 := (((Below.refl _ w2).alloc (Nat.le_refl _) (.cells #[.string a1, .string a2] 75)).alloc (by simp) (.cells #[] 156)).trans (hb3.mono (by simp; omega))
      have hB53 := still_block HB5.out hb3w
      have hB63 : w3.heap[w2.heap.size]? = some (.cells #[.string a1, .string a2] 75 (0, 0)) := by
        rw [hb3.block _ (by simp; omega), Below.heap_alloc _ _ _ (by simp)]
        exact heap_alloc_new w2 (.cells #[.string a1, .string a2] 75)
      have m2 := blk_cell hB53 2
      simp only [List.getElem?_toArray, List.getElem?_cons_zero, List.getElem?_cons_succ] at m2
      have HB63 := Lib.hid hB63
      have HBR3 := Lib.hid (HBR.out.trans (hb3w.mono HBR.out.size))
      have HOWN3 := Lib.hid (map_below HOWN2.out hb3w)
      clear hB53 hB63 hb3 hb3w q0 q1
      go_wp2_with fail
      refine (HSG.out _).mono ?_
      rintro e w4 ⟨rfl, hb4⟩
      have hB64 := still_block HB63.out hb4
      have e0 := blk_cell hB64 0
      have e1 := blk_cell hB64 1
      simp only [List.getElem?_toArray, List.getElem?_cons_zero, List.getElem?_cons_succ] at e0 e1
      have hown4 := map_below HOWN3.out hb4
      have HBR4 := Lib.hid (HBR3.out.trans (hb4.mono HBR3.out.size))
      have HBW4 := Lib.hid (HB.out.trans (HBR4.out.mono HB.out.size))
      clear hB64 hb4 m2
      go_wp2_with (at_mapUpdate; refine wpList_mapUpdate_own _ rfl _ _ _ _ rfl 75 156 arr_law Tryz.underlying155 unitElem w.heap.size k D rfl hown4 (by simp only [maxLen]; omega) _ _ (litN (a1, a2)) rfl rfl hkey (.agg []) [] unitElem_mk ?_; intro w5 hown5 hg5)
      have HS5 : Hid (SetA w5 w.heap.size (k + 1) ((l.take (k + 1)).map (·.1))) := Lib.hid (by rw [HTK.out]; exact SetA.put hown5 HM.out HSZ.out k1 k2 HHAS.out)
      have HB5' : Hid (Below w.heap.size w w5) := Lib.hid (HBW4.out.grown hg5 HBW4.out.size (by simp))
      clear hown5 hg5 hown4
      go_roundw
      case rel => exact ⟨k + 1, by omega, by go_num, HS5, HB5'⟩
      case measure => simp [intOf]; omega
    · have : k = l.length := by omega
      subst this
      go_wp2
      go_ret
      exact ⟨rfl, HB.out⟩
end Go.Proofs.YtjohfljkhlkjoaaGreatDoor

namespace Wb
mutual
/-- No text of it is long. -/
def szN : Nd → Prop
  | .mk _ n al ks t => n.1.size ≤ 1000000000 ∧ n.2.size ≤ 1000000000 ∧ (∀ a ∈ al, a.1.1.size ≤ 1000000000 ∧ a.1.2.size ≤ 1000000000 ∧ a.2.size ≤ 1000000000) ∧ t.size ≤ 1000000000 ∧ szKs ks
def szKs : List Nd → Prop
  | [] => True
  | k :: ks => szN k ∧ szKs ks
end
theorem szKs_iff : ∀ ks : List Nd, szKs ks ↔ ∀ k ∈ ks, szN k
  | [] => by simp [szKs]
  | k :: ks => by simp [szKs, szKs_iff ks]
theorem okKs_take : ∀ (ks : List Nd) (d : Nat) (a : Int) (i : Nat), okKs d a ks → okKs d a (ks.take i)
  | [], d, a, i, _ => by simp [okKs]
  | k :: ks, d, a, 0, _ => by simp [okKs]
  | k :: ks, d, a, i + 1, h => by
    simp only [okKs] at h
    rw [List.take_succ_cons]
    simp only [okKs]
    exact ⟨h.1, h.2.1, okKs_take ks d k.kind i h.2.2⟩
theorem okKs_at {ks : List Nd} {d i : Nat} {x : Nd} (h : okKs d 0 ks) (hx : ks[i]? = some x) : ¬ (lastK 0 (ks.take i) = 2 ∧ x.kind = 2) ∧ okN d x ∧ lastK 0 (ks.take (i + 1)) = x.kind := by
  have h1 := okKs_take ks d 0 (i + 1) h
  rw [List.take_add_one, hx] at h1 ⊢
  have h2 := (okKs_app d x (ks.take i) 0).1 h1
  refine ⟨h2.2.1, h2.2.2, ?_⟩
  unfold lastK
  simp
end Wb
namespace Go.Proofs.YtjohfljkhlkjoaaGreatDoor
open Go.RowKit Wb
set_option maxRecDepth 100000 in
set_option maxHeartbeats 4000000 in
theorem right_ok (W0 : World) (Cb : Nat) (hCb : W0.heap.size ≤ Cb) (n : Nd) : ∀ (d c : Nat) (A K : Option Addr) (ca ck : Nat) (w : World), okN d n → szN n → c + costN n ≤ 2000 → d ≤ 1000 → NodeV W0 n A K → Below W0.heap.size W0 w → w.heap[Cb]? = some (.cells #[.int .i64 (c : Int)] 89 (0, 0)) →
    Calls Tryz.prog 49 #[.pointer (some ⟨Cb, 0, none⟩), ndV n A ca K ck, .int .i64 (d : Int)] w fun e w' => e = .returned (.bool true) ∧ w'.heap[Cb]? = some (.cells #[.int .i64 ((c + costN n : Nat) : Int)] 89 (0, 0)) ∧ Below W0.heap.size W0 w' ∧ Keep (fun k => k = Cb) w w' := by
  induction n using Nd.induct with
  | h n ih =>
    intro d c A K ca ck w hok hsz hcn hd hV hB0 hC
    have hCl : Cb < w.heap.size := blk_in hC
    have hcost := costN_is n
    obtain ⟨kd, ⟨sp, lo⟩, al, ks, tx⟩ := n
    unfold ndV ndCells
    simp only [Nd.kind, Nd.name, Nd.attrs, Nd.kids, Nd.text] at *
    have hca : (w.alloc (.cells #[.int .i64 kd, .string sp, .string lo, .slice A al.length ca, .slice K ks.length ck, .string tx] 37)).heap[Cb]? = _ := (Below.heap_alloc w _ _ hCl).trans hC
    have hNb := heap_alloc_new w (.cells #[.int .i64 kd, .string sp, .string lo, .slice A al.length ca, .slice K ks.length ck, .string tx] 37)
    have hka : Keep (fun k => k = Cb) w (w.alloc (.cells #[.int .i64 kd, .string sp, .string lo, .slice A al.length ca, .slice K ks.length ck, .string tx] 37)) := Keep.of_below _ ((Below.refl _ w).alloc (Nat.le_refl _) _)
    have hb0 := hB0.alloc hB0.size (.cells #[.int .i64 kd, .string sp, .string lo, .slice A al.length ca, .slice K ks.length ck, .string tx] 37)
    have HCA := Lib.hid hca
    have HNB := Lib.hid hNb
    have HKA := Lib.hid hka
    have HBA := Lib.hid hb0
    have IH := Lib.hid ih
    have HV := Lib.hid hV
    have hcb : (0 : Int) ≤ (c : Int) := by omega
    have hcb2 : (c : Int) + 1 ≤ 2000 := by have := costN_pos (.mk kd (sp, lo) al ks tx); omega
    have hcb3 : ¬ (2000 : Int) < (c : Int) + 1 := by omega
    have hdb : (0 : Int) ≤ (d : Int) := by omega
    have hdb2 : (d : Int) ≤ 1000 := by omega
    clear hka hb0 hca hNb hC hB0 ih hV
    go_enter Tryz.func49, Tryz.ntmps49
    go_upto_region 1 with fail
    revert HBA; revert HKA; revert HNB; revert HCA
    generalize (w.alloc (.cells #[.int .i64 kd, .string sp, .string lo, .slice A al.length ca, .slice K ks.length ck, .string tx] 37)) = wa
    intro HCA HNB HKA HBA
    generalize hN : w.heap.size = N at *
    have hNC : N ≠ Cb := by omega
    have e0 : wa.cell? ⟨Cb, 0, none⟩ = some (.int .i64 (c : Int)) := blk_cell HCA.out 0
    have f0 : wa.frozen? ⟨Cb, 0, none⟩ = false := blk_free HCA.out 0
    go_upto_region 2 with fail
    have HC1 : Hid ((wa.setCell ⟨Cb, 0, none⟩ (.int .i64 ((c : Int) + 1))).heap[Cb]? = some (.cells #[.int .i64 ((c : Int) + 1)] 89 (0, 0))) := Lib.hid (blk_set HCA.out 0 _)
    have HN1 : Hid ((wa.setCell ⟨Cb, 0, none⟩ (.int .i64 ((c : Int) + 1))).heap[N]? = _) := Lib.hid ((Below.heap_setCell _ _ _ _ hNC).trans HNB.out)
    have HK1 : Hid (Keep (fun k => k = Cb) w (wa.setCell ⟨Cb, 0, none⟩ (.int .i64 ((c : Int) + 1)))) := Lib.hid (HKA.out.setCell (p := ⟨Cb, 0, none⟩) rfl _)
    have HB1 : Hid (Below W0.heap.size W0 (wa.setCell ⟨Cb, 0, none⟩ (.int .i64 ((c : Int) + 1)))) := Lib.hid (HBA.out.setCell (p := ⟨Cb, 0, none⟩) hCb _)
    clear e0 f0 HCA HNB HKA HBA
    revert HB1; revert HK1; revert HN1; revert HC1
    generalize (wa.setCell ⟨Cb, 0, none⟩ (.int .i64 ((c : Int) + 1))) = wb
    intro HC1 HN1 HK1 HB1
    have e0 : wb.cell? ⟨Cb, 0, none⟩ = some (.int .i64 ((c : Int) + 1)) := blk_cell HC1.out 0
    have t0 := blk_cell HN1.out 0
    have t1 := blk_cell HN1.out 1
    have t2 := blk_cell HN1.out 2
    have t3 := blk_cell HN1.out 3
    have t4 := blk_cell HN1.out 4
    have t5 := blk_cell HN1.out 5
    simp only [List.getElem?_toArray, List.getElem?_cons_zero, List.getElem?_cons_succ] at t0 t1 t2 t3 t4 t5
    by_cases hkd : kd = 1
    · subst hkd
      have hok2 : d ≤ 24 ∧ tx = sE ∧ nameOK (sp, lo) ∧ attrsOK al ∧ okKs (d + 1) 0 ks := by
        unfold okN at hok
        rcases hok with ⟨_, h⟩ | ⟨h, _⟩
        · exact h
        · exact absurd h (by decide)
      obtain ⟨hd24, rfl, hnm, hat, hkk⟩ := hok2
      obtain ⟨hsz1, hsz2, hsz3, _, hsz5⟩ := hsz
      have hszk := (szKs_iff ks).1 hsz5
      have hrn := rname_ok (sp, lo) wb hnm hsz1 hsz2
      have HRA := Lib.hid (fun (w2 : World) (h : Below W0.heap.size W0 w2) => rattrs_ok A al ca w2 hat hsz3 (HV.out.1.below h))
      have hd24' : ¬ (24 : Int) < (d : Int) := by omega
      have hse : sE.toList.isEmpty = true := by rw [ByteArray.toList_eq]; rfl
      have hksl : ks.length ≤ 2000 := by have := len_costs ks; omega
      have HKK := Lib.hid hkk
      have HSZ := Lib.hid hszk
      have HCO := Lib.hid hcost
      have HCN := Lib.hid hcn
      have HVK := Lib.hid HV.out.2
      clear hok hsz1 hsz2 hsz3 hsz5 hszk hnm hat hkk hcost hcn HV hd24
      go_wp2_with fail
      refine hrn.mono ?_
      rintro e w2 ⟨rfl, hb2⟩
      have hB2 := Lib.hid (HB1.out.trans (hb2.mono HB1.out.size))
      have hN2 := Lib.hid (still_block HN1.out hb2)
      have hC2 := Lib.hid (still_block HC1.out hb2)
      have hK2 := Lib.hid (HK1.out.trans (Keep.of_below _ hb2))
      have a3 := blk_cell hN2.out 3
      simp only [List.getElem?_toArray, List.getElem?_cons_zero, List.getElem?_cons_succ] at a3
      clear t0 t1 t2 t3 t4 t5 e0 hb2 hrn HN1 HC1 HK1 HB1
      go_wp2_with fail
      refine (HRA.out _ hB2.out).mono ?_
      rintro e w3 ⟨rfl, hb3⟩
      have hB3 := Lib.hid (hB2.out.trans (hb3.mono hB2.out.size))
      have hN3 := Lib.hid (still_block hN2.out hb3)
      have hC3 := Lib.hid (still_block hC2.out hb3)
      have hK3 := Lib.hid (hK2.out.trans (Keep.of_below _ hb3))
      have b4 := blk_cell hN3.out 4
      simp only [List.getElem?_toArray, List.getElem?_cons_zero, List.getElem?_cons_succ] at b4
      clear a3 hb3 hN2 hC2 hK2 hB2 HRA
      go_wp2
      go_loopw [7, 46] (fun va vi wr => ∃ i : Nat, i ≤ ks.length ∧ vi = .int .i64 i ∧ va = .int .i64 (lastK 0 (ks.take i)) ∧ Hid (wr.heap[Cb]? = some (.cells #[.int .i64 ((c + (1 + costNs (ks.take i)) : Nat) : Int)] 89 (0, 0))) ∧ Hid (Below W0.heap.size W0 wr) ∧ Hid (Keep (fun k => k = Cb) w wr)) (fun _ vi _ => ((ks.length : Int) - intOf vi).toNat)
      case atStart => exact ⟨0, by omega, rfl, rfl, Lib.hid (by rw [hC3.out]; simp [costNs]), hB3, hK3⟩
      case round =>
        obtain ⟨i, hi, rfl, rfl, HCr, HBr, HKr⟩ := hrel
        by_cases h0 : i < ks.length
        · obtain ⟨x, he⟩ : ∃ x, ks[i]? = some x := ⟨ks[i], List.getElem?_eq_getElem h0⟩
          obtain ⟨ad, A1, ca1, K1, ck1, rfl, had, d0, d1, d2, d3, d4, d5, hA1, hK1⟩ := HVK.out.at_ he
          have cell : ∀ j o, w.heap.size = w.heap.size → W0.cell? ⟨(ad.add (i * 6)).block, o, none⟩ = j → wr.cell? ⟨(ad.add (i * 6)).block, o, none⟩ = j := fun j o _ h => (HBr.out.cell (by rw [add_block]; exact had)).trans h
          have d0' : wr.cell? (ad.add (i * 6)) = _ := (HBr.out.cell (by rw [add_block]; exact had)).trans d0
          have d1' := cell _ _ rfl d1
          have d2' := cell _ _ rfl d2
          have d3' := cell _ _ rfl d3
          have d4' := cell _ _ rfl d4
          have d5' := cell _ _ rfl d5
          obtain ⟨o1, o2, o3⟩ := okKs_at HKK.out he
          obtain ⟨s1, s2⟩ := costs_take he
          obtain ⟨s3, s4⟩ := costs_le ks (i + 1)
          have hCrl : Cb < wr.heap.size := blk_in HCr.out
          have hIH := IH.out x (List.mem_of_getElem? he) (d + 1) (c + (1 + costNs (ks.take i))) A1 K1 ca1 ck1 (wr.alloc (.cells (ndCells x.kind x.name A1 x.attrs.length ca1 K1 x.kids.length ck1 x.text).toArray 37)) o2 (HSZ.out x (List.mem_of_getElem? he)) (by have := HCN.out; have := HCO.out; omega) (by omega) ⟨hA1, hK1⟩ (HBr.out.alloc HBr.out.size _) ((Below.heap_alloc wr _ _ hCrl).trans HCr.out)
          have HS1 : Hid (c + (1 + costNs (ks.take i)) + costN x = c + (1 + costNs (ks.take (i + 1)))) := Lib.hid (by rw [s1]; omega)
          have HO3 := Lib.hid o3
          have hkx : lastK 0 (ks.take i) = 2 → (x.kind == 2) = false := fun e => by
            have : ¬ x.kind = 2 := fun h => o1 ⟨e, h⟩
            simpa using this
          have HW := Lib.hid (heap_alloc_new wr (.cells (ndCells x.kind x.name A1 x.attrs.length ca1 K1 x.kids.length ck1 x.text).toArray 37))
          unfold ndV ndCells at hIH
          unfold ndCells at HW
          have hNk : wr.heap.size ≠ Cb := by omega
          clear d0 d1 d2 d3 d4 d5 cell o1 o2 o3 s1 s2 s3 s4 had hA1 hK1 he
          generalize hla : lastK 0 (ks.take i) = la at *
          by_cases hl2 : la = 2
          · have hkx2 := hkx hl2
            subst hl2
            go_wp2_with fail
            refine hIH.mono ?_
            rintro e w4 ⟨rfl, hc4, hb4, hk4⟩
            have hw4 := (hk4.block _ (blk_in HW.out) hNk).trans HW.out
            have g0 := blk_cell hw4 0
            simp only [List.getElem?_toArray, List.getElem?_cons_zero] at g0
            have HC4 := Lib.hid hc4
            have HB4 := Lib.hid hb4
            have HK4 : Hid (Keep (fun k => k = Cb) w w4) := Lib.hid ((HKr.out.trans (Keep.of_below _ ((Below.refl _ wr).alloc (Nat.le_refl _) _))).trans hk4)
            clear hc4 hb4 hk4 hw4 hIH d0' d1' d2' d3' d4' d5'
            go_wp2
            go_roundw
            case rel => exact ⟨i + 1, by omega, by go_num, by rw [HO3.out], Lib.hid (by rw [← HS1.out]; exact HC4.out), HB4, HK4⟩
            case measure => simp [intOf]; omega
          · have hlf : (la == 2) = false := by simpa using hl2
            go_wp2_with fail
            refine hIH.mono ?_
            rintro e w4 ⟨rfl, hc4, hb4, hk4⟩
            have hw4 := (hk4.block _ (blk_in HW.out) hNk).trans HW.out
            have g0 := blk_cell hw4 0
            simp only [List.getElem?_toArray, List.getElem?_cons_zero] at g0
            have HC4 := Lib.hid hc4
            have HB4 := Lib.hid hb4
            have HK4 : Hid (Keep (fun k => k = Cb) w w4) := Lib.hid ((HKr.out.trans (Keep.of_below _ ((Below.refl _ wr).alloc (Nat.le_refl _) _))).trans hk4)
            clear hc4 hb4 hk4 hw4 hIH d0' d1' d2' d3' d4' d5'
            go_wp2
            go_roundw
            case rel => exact ⟨i + 1, by omega, by go_num, by rw [HO3.out], Lib.hid (by rw [← HS1.out]; exact HC4.out), HB4, HK4⟩
            case measure => simp [intOf]; omega
        · have : i = ks.length := by omega
          subst this
          rw [List.take_length] at HCr
          have hfin : Hid (c + (1 + costNs ks) = c + costN (.mk 1 (sp, lo) al ks sE)) := Lib.hid (by rw [HCO.out])
          rw [hfin.out] at HCr
          go_wp2
          go_ret
          exact ⟨rfl, HCr.out, HBr.out, HKr.out⟩
    · have hkf : (kd == 1) = false := by simpa using hkd
      have htx := rtext_ok (.mk kd (sp, lo) al ks tx) A K ca ck wb hok hkd hsz.2.2.2.1
      have hks : ks = [] := by
        unfold okN at hok
        rcases hok with ⟨rfl, _⟩ | ⟨_, _, _, _, _, rfl⟩
        · exact absurd rfl hkd
        · rfl
      have hc2 : costN (.mk kd (sp, lo) al ks tx) = 1 := by rw [hcost, hks]; rfl
      have HC2 := Lib.hid hc2
      unfold ndV ndCells at htx
      simp only [Nd.kind, Nd.name, Nd.attrs, Nd.kids, Nd.text] at htx
      clear hok hsz hcost hks hc2 hkd hcn IH HV
      go_wp2_with fail
      refine htx.mono ?_
      rintro e w3 ⟨rfl, hb3⟩
      go_wp2
      go_ret
      have hwl : Cb < wb.heap.size := blk_in HC1.out
      refine ⟨rfl, ?_, HB1.out.trans (hb3.mono HB1.out.size), HK1.out.trans (Keep.of_below _ hb3)⟩
      rw [HC2.out, show ((c + 1 : Nat) : Int) = (c : Int) + 1 by omega]
      exact (hb3.block _ hwl).trans HC1.out
theorem Right_ok (n : Nd) (A K : Option Addr) (ca ck : Nat) (w : World) (hok : okN 1 n) (hk : n.kind = 1) (hsz : szN n) (hc : costN n ≤ 2000) (hV : NodeV w n A K) :
    Calls Tryz.prog 24 #[ndV n A ca K ck] w fun e w' => e = .returned (.bool true) ∧ Below w.heap.size w w' := by
  have hb2 : Below w.heap.size w ((w.alloc (.cells (ndCells n.kind n.name A n.attrs.length ca K n.kids.length ck n.text).toArray 37)).alloc (.cells #[.int .i64 0] 89)) := ((Below.refl _ w).alloc (Nat.le_refl _) _).alloc (by simp) _
  have hcb : ((w.alloc (.cells (ndCells n.kind n.name A n.attrs.length ca K n.kids.length ck n.text).toArray 37)).alloc (.cells #[.int .i64 0] 89)).heap[w.heap.size + 1]? = some (.cells #[.int .i64 ((0 : Nat) : Int)] 89 (0, 0)) := by
    have := heap_alloc_new (w.alloc (.cells (ndCells n.kind n.name A n.attrs.length ca K n.kids.length ck n.text).toArray 37)) (.cells #[.int .i64 0] 89)
    simpa using this
  have hr := right_ok w (w.heap.size + 1) (by omega) n 1 0 A K ca ck _ hok hsz (by omega) (by omega) hV hb2 hcb
  obtain ⟨kd, ⟨sp, lo⟩, al, ks, tx⟩ := n
  simp only [Nd.kind] at hk
  subst hk
  unfold ndV ndCells at hr ⊢
  simp only [Nd.kind, Nd.name, Nd.attrs, Nd.kids, Nd.text] at hr ⊢
  clear hb2 hcb hV hok hsz hc
  go_enter Tryz.func24, Tryz.ntmps24
  go_wp2_with fail
  refine hr.mono ?_
  rintro e w3 ⟨rfl, _, hb3, _⟩
  go_wp2
  go_ret
  exact ⟨rfl, hb3⟩
end Go.Proofs.YtjohfljkhlkjoaaGreatDoor

