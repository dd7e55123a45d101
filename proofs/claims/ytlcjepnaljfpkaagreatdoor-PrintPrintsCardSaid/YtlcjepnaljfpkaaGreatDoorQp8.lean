/- Mem3 LxC LxF TrM. -/
import Derived.Deep.AppendSrc
import Derived.Laws.Strings
import Derived.Test.YtlcjepnaljfpkaaGreatDoorQp6
import Derived.Test.YtlcjepnaljfpkaaGreatDoorQp7
namespace Wb
open Go Go.RowKit
def cellsB (l : List UInt8) : List Value := l.map fun b => Value.int .u8 b.toNat
theorem cellsB_length (l : List UInt8) : (cellsB l).length = l.length := by simp [cellsB]
theorem cellsB_append (a b : List UInt8) : cellsB (a ++ b) = cellsB a ++ cellsB b := by simp [cellsB]
theorem cellsB_one (l : List UInt8) : ∀ u ∈ cellsB l, u.oneCell' = true := by
  intro u hu
  obtain ⟨_, _, rfl⟩ := List.mem_map.1 hu
  rfl
section
variable {P : Program} (w : World)
theorem run_append_room_str (t tx ty e : TypeId) (i : TypeInfo) (ht : P.underlying t = some (.slice e)) (hu : P.underlying tx = some .string) (hi : P.info? e = some i) (hsz : i.size = 1)
    (g sLen sCap : Nat) (cur : Array Value) (hg : w.heap[g]? = some (.cells cur e (0, 0))) (s : ByteArray) (hroom : sLen + s.size ≤ sCap) (hfit : sLen + s.size ≤ cur.size) :
    (Builtin.append_ #[t, tx] ty #[.slice (some ⟨g, 0, none⟩) sLen sCap, .string s]).run P w =
      .ok (.slice (some ⟨g, 0, none⟩) (sLen + s.size) sCap) (w.setRow g (cur.toList.take sLen ++ byteCells s ++ cur.toList.drop (sLen + s.size)).toArray) := by
  have hl : (byteCells s).length = s.size := byteCells_length s
  have hst := run_storeCells_at P g sLen e (byteCells s) 0 cur w hg (by rw [hl]; exact hfit) (cellsB_one s.data.toList)
  simp only [Nat.add_zero] at hst
  have hf := firstCells_string (P := P) s w
  simp [Builtin.append_, run_underlying ht, run_underlying hu, Go.sizeOf, typeInfo, hi, hsz, Builtin.lenOf, hroom, hf, Addr.add_lit, hst, hl]
theorem run_append_str (base : Nat) (t tx ty e : TypeId) (i : TypeInfo) (z : Value) (bytes : Nat) (ht : P.underlying t = some (.slice e)) (hu : P.underlying tx = some .string) (hi : P.info? e = some i) (hz : i.zero = some z)
    (hsize : i.size = 1) (hby : i.bytes = bytes) (hzs : z.cells.size = 1)
    (v : Value) (n : Nat) (xs : List Value) (hown : w.ownsRow base e 1 v n xs) (s : ByteArray)
    (h63 : n + s.size ≤ maxLen) (hbytes : (n + s.size) * bytes ≤ 140737488355328) (hbase : base ≤ w.heap.size) :
    ∃ v' w', (Builtin.append_ #[t, tx] ty #[v, .string s]).run P w = .ok v' w' ∧ w'.ownsRow base e 1 v' (n + s.size) (xs ++ cellsB s.data.toList) ∧ w.grownBy w' v.ownBlock ∧
      (v'.ownBlock = v.ownBlock ∨ v'.ownBlock = some w.heap.size) := by
  subst hby
  have hsmall : n + s.size ≤ 9223372036854775807 := by simp only [maxLen] at h63; omega
  have hl : (byteCells s).length = s.size := byteCells_length s
  have hlen : (xs ++ byteCells s).length = (n + s.size) * 1 := by rw [List.length_append, hown.1, hl]; omega
  have hxs : xs.length = n := by have := hown.1; omega
  have grown : ∀ (old : Nat), old < n + s.size → ∀ (row : Option Nat),
      (w.drew.alloc (.cells ((xs ++ byteCells s).toArray ++ Builtin.zeroCells z.cells (grownCap w (n + s.size) old e - (n + s.size))) e)).ownsRow base e 1
        (.slice (some ⟨w.heap.size, 0, none⟩) (n + s.size) (grownCap w (n + s.size) old e)) (n + s.size) (xs ++ byteCells s) ∧
      w.grownBy (w.drew.alloc (.cells ((xs ++ byteCells s).toArray ++ Builtin.zeroCells z.cells (grownCap w (n + s.size) old e - (n + s.size))) e)) row := by
    intro old ho row
    have hge := grownCap_ge w (n + s.size) old e
    have hcm : grownCap w (n + s.size) old e ≤ maxLen := grownCap_le_maxLen w (n + s.size) old e h63
    refine ⟨⟨hlen, .inr ⟨w.heap.size, _, _, rfl, hbase, heap_alloc_new w.drew _, hge, hcm, ?_, ?_⟩⟩, ⟨rfl, rfl, rfl, by simp, fun k hk _ => Go.RowKit.Below.heap_alloc w.drew _ k hk⟩⟩
    · simp only [Array.size_append, List.size_toArray, size_zeroCells, hzs, hlen]
      omega
    · simp only [Array.toList_append]
      rw [← hlen]
      exact List.take_left
  rcases hown.2 with ⟨rfl, rfl⟩ | ⟨g, cap, cur, rfl, hbg, hg, hnc, hcm, hcs, htake⟩
  · have hx : xs = [] := List.eq_nil_of_length_eq_zero (by simpa using hown.1)
    subst hx
    by_cases hm : s.size = 0
    · refine ⟨.slice none 0 0, w, ?_, ?_, World.grownBy.refl w _, Or.inl rfl⟩
      · have hb : byteCells s = [] := List.eq_nil_of_length_eq_zero (by rw [hl, hm])
        have hf := firstCells_string (P := P) s w
        rw [hm, hb] at hf
        simp [Builtin.append_, run_underlying ht, run_underlying hu, Go.sizeOf, typeInfo, hi, hsize, Builtin.lenOf, hm, hf]
      · rw [hm]
        have hb : s.data.toList = [] := List.eq_nil_of_length_eq_zero (by simpa using hm)
        rw [hb]
        exact World.ownsRow_nil w base e 1
    · have hr := run_append_grow_src (P := P) w t tx ty e i z ht hi hz none 0 0 [] (by simp [Builtin.firstCells]) (.string s) s.size (byteCells s) (by rw [hsize]; exact Src.ofString w hu s) (by omega) (by omega)
        (growslice_fits (by omega) hbytes)
      have hgr := grown 0 (by omega) (Value.ownBlock (.slice none 0 0))
      exact ⟨_, _, hr, hgr.1, hgr.2, Or.inr rfl⟩
  · by_cases hroom : n + s.size ≤ cap
    · have hfit : n + s.size ≤ cur.size := by omega
      have hr := run_append_room_str (P := P) w t tx ty e i ht hu hi hsize g n cap cur hg s hroom hfit
      refine ⟨_, _, hr, ⟨hlen, .inr ⟨g, cap, _, rfl, hbg, setRow_heap w g cur _ e _ hg, hroom, hcm, ?_, ?_⟩⟩, ⟨rfl, rfl, rfl, by simp, fun k _ hk => setRow_other w g k _ (fun e => hk (by simp [Value.ownBlock, e]))⟩, Or.inl rfl⟩
      · simp only [List.size_toArray, List.length_append, List.length_take, List.length_drop, Array.length_toList, hl]
        omega
      · have ht' : cur.toList.take n = xs := by rw [← htake]; congr 1; omega
        rw [ht', show (n + s.size) * 1 = (xs ++ byteCells s).length from hlen.symm]
        exact List.take_left
    · have holds : ∀ j u, xs[j]? = some u → w.cell? ((⟨g, 0, none⟩ : Addr).add j) = some u := hown.cells (g := g) rfl
      have hf := run_firstCells_some (P := P) w.drew i.size n ⟨g, 0, none⟩ n cap xs (by rw [hsize]; exact hown.1) (by simpa using holds)
      have hr := run_append_grow_src (P := P) w t tx ty e i z ht hi hz (some ⟨g, 0, none⟩) n cap xs hf (.string s) s.size (byteCells s) (by rw [hsize]; exact Src.ofString w hu s) (by omega) (by omega) (growslice_fits (by omega) hbytes)
      have hgr := grown cap (by omega) (Value.ownBlock (.slice (some ⟨g, 0, none⟩) n cap))
      exact ⟨_, _, hr, hgr.1, hgr.2, Or.inr rfl⟩
theorem wpList_append_str {ops : Array Oper} {rest : List Oper} {o : Oper} {a : Act} {Q : Exit → Act → World → Prop} (hgd : o.guard = none) (s x : Operand) (t tx : TypeId)
    (ho : o.op = .call { callee := .builtin .append, args := #[s, x], argTypes := #[t, tx] })
    (base : Nat) (e : TypeId) (i : TypeInfo) (z : Value) (bytes : Nat) (ht : P.underlying t = some (.slice e)) (hu : P.underlying tx = some .string) (hi : P.info? e = some i) (hz : i.zero = some z)
    (hsize : i.size = 1) (hby : i.bytes = bytes) (hzs : z.cells.size = 1)
    (v : Value) (n : Nat) (xs : List Value) (hs : a.eval s = v) (hown : w.ownsRow base e 1 v n xs) (b : ByteArray) (hx : a.eval x = .string b)
    (h63 : n + b.size ≤ maxLen) (hbytes : (n + b.size) * bytes ≤ 140737488355328) (hbase : base ≤ w.heap.size)
    (h : ∀ v' w', w'.ownsRow base e 1 v' (n + b.size) (xs ++ cellsB b.data.toList) → w.grownBy w' v.ownBlock → (v'.ownBlock = v.ownBlock ∨ v'.ownBlock = some w.heap.size) → wpList P ops Q rest (a.put o.dst v') w') : wpList P ops Q (o :: rest) a w := by
  refine wpList_plain hgd fun K hK => ?_
  obtain ⟨v', w', hrun, h2, h3, h4⟩ := run_append_str (P := P) w base t tx o.type e i z bytes ht hu hi hz hsize hby hzs v n xs hown b h63 hbytes hbase
  unfold Oper.wp execOp
  simp only [ho, resolve, invoke, builtin, Sem.run_bind, Sem.run_pure, Result.andThen_ok, List.map_toArray, List.map_cons, List.map_nil, hs, hx, hrun]
  exact hK _ _ (h v' w' h2 h3 h4)
end
end Wb
namespace Go.Proofs.YtlcjepnaljfpkaaGreatDoor
open Go.RowKit Wb
theorem extract_L (s : ByteArray) (a b : Nat) : (s.extract a b).data.toList = (s.data.toList.drop a).take (b - a) := by
  simp only [ByteArray.data_extract, Array.toList_extract]
end Go.Proofs.YtlcjepnaljfpkaaGreatDoor
namespace Go.Proofs.YtlcjepnaljfpkaaGreatDoor
open Go.RowKit Wb
theorem byte_info : (Tryz.prog.info? 5).map (fun i => (i.zero, i.size, i.bytes)) = some (some (.int .u8 0), 1, 1) := by kernel_rfl
theorem b8_toNat (b : UInt8) : b8 (b.toNat : Int) = b := by unfold b8; simp
theorem run_text_own {w : World} {base n : Nat} {e : TypeId} {v : Value} (l : List UInt8) (h : w.ownsRow base e 1 v n (cellsB l)) (hl : l ≠ []) :
    (convert 69 9 v).run Tryz.prog w = .ok (.string ⟨l.toArray⟩) w := by
  have hn : n = l.length := by have := h.1; rw [cellsB_length] at this; omega
  obtain ⟨g, cap, rfl, _, _⟩ := h.form (by cases l with
    | nil => exact absurd rfl hl
    | cons a r => rw [hn]; simp)
  rw [run_text w g n cap (l.map fun b => (b.toNat : Int)) (by simp [hn]) (by
    intro j u hu
    have := h.cells (g := g) rfl j u (by simpa [cellsB] using hu)
    rw [Addr.add_lit, Nat.zero_add] at this
    exact this)]
  rw [List.map_map, show (b8 ∘ fun b : UInt8 => (b.toNat : Int)) = id from funext b8_toNat, List.map_id]
theorem map_nil (o : Except Nat (List UInt8)) : o = o.map ([] ++ ·) := by cases o <;> rfl
theorem run_text_none (w : World) : (convert 69 9 (.slice none 0 0)).run Tryz.prog w = .ok (.string ⟨#[]⟩) w := by
  rw [run_convert_bytes_string w _ _ _ _ 0 0 Tryz.underlying69 Tryz.underlying5 Tryz.underlying9]
  unfold Conv.bytesToString
  simp [Sem.run_pure]
  rfl
theorem run_text_empty (w : World) (g c : Nat) : (convert 69 9 (.slice (some ⟨g, 0, none⟩) 0 c)).run Tryz.prog w = .ok (.string ⟨#[]⟩) w := by
  rw [run_text w g 0 c [] rfl (by simp)]
  rfl
end Go.Proofs.YtlcjepnaljfpkaaGreatDoor
namespace Wb
open Go Go.RowKit
inductive Nd where
  | mk (kind : Int) (name : Pr) (attrs : List Tr) (kids : List Nd) (text : ByteArray)
namespace Nd
def kind : Nd → Int | mk k _ _ _ _ => k
def name : Nd → Pr | mk _ n _ _ _ => n
def attrs : Nd → List Tr | mk _ _ a _ _ => a
def kids : Nd → List Nd | mk _ _ _ k _ => k
def text : Nd → ByteArray | mk _ _ _ _ t => t
end Nd
theorem Nd.induct {P : Nd → Prop} (h : ∀ n : Nd, (∀ k ∈ n.kids, P k) → P n) (n : Nd) : P n :=
  Nd.rec (motive_1 := P) (motive_2 := fun ks => ∀ k ∈ ks, P k) (fun kind name attrs kids text ih => h (.mk kind name attrs kids text) ih)
    (fun k hk => by cases hk) (fun n ns h1 h2 k hk => by rcases List.mem_cons.1 hk with rfl | hk; · exact h1
                                                         · exact h2 k hk) n
def ndCells (k : Int) (n : Pr) (A : Option Addr) (la ca : Nat) (K : Option Addr) (lk ck : Nat) (t : ByteArray) : List Value :=
  [.int .i64 k, .string n.1, .string n.2, .slice A la ca, .slice K lk ck, .string t]
mutual
/-- These cells hold a node, with all that is in it. -/
def nodeC (w : World) : Nd → List Value → Prop
  | .mk k n asz ks t, cs => ∃ A ca K ck, cs = ndCells k n A asz.length ca K ks.length ck t ∧ Sl3 w A asz ∧ (ks = [] ∨ ∃ ad, K = some ad ∧ ad.block < w.heap.size ∧ kidsC w ad 0 ks)
/-- From the i-th place of a row of nodes on. -/
def kidsC (w : World) (ad : Addr) : Nat → List Nd → Prop
  | _, [] => True
  | i, n :: ns => (∃ cs, (∀ j u, cs[j]? = some u → w.cell? (ad.add (i * 6 + j)) = some u) ∧ nodeC w n cs) ∧ kidsC w ad (i + 1) ns
end
theorem nodeC_iff (w : World) (n : Nd) (cs : List Value) : nodeC w n cs ↔ ∃ A ca K ck, cs = ndCells n.kind n.name A n.attrs.length ca K n.kids.length ck n.text ∧ Sl3 w A n.attrs ∧ (n.kids = [] ∨ ∃ ad, K = some ad ∧ ad.block < w.heap.size ∧ kidsC w ad 0 n.kids) := by
  cases n with
  | mk k n asz ks t => simp only [nodeC, Nd.kind, Nd.name, Nd.attrs, Nd.kids, Nd.text]
theorem nodeC_len {w : World} {n : Nd} {cs : List Value} (h : nodeC w n cs) : cs.length = 6 := by
  obtain ⟨A, ca, K, ck, rfl, _⟩ := (nodeC_iff w n cs).1 h
  rfl
theorem kidsC_iff (w : World) (ad : Addr) : ∀ (ks : List Nd) (i : Nat), kidsC w ad i ks ↔ ∀ (k : Nat) (n : Nd), ks[k]? = some n → ∃ cs, (∀ j u, cs[j]? = some u → w.cell? (ad.add ((i + k) * 6 + j)) = some u) ∧ nodeC w n cs
  | [], i => by simp [kidsC]
  | n :: ns, i => by
    simp only [kidsC]
    rw [kidsC_iff w ad ns (i + 1)]
    constructor
    · rintro ⟨h1, h2⟩ k m hk
      cases k with
      | zero =>
        simp only [List.getElem?_cons_zero, Option.some.injEq] at hk
        subst hk
        exact h1
      | succ k =>
        have := h2 k m (by simpa using hk)
        rwa [show i + 1 + k = i + (k + 1) from by omega] at this
    · intro h
      refine ⟨h 0 n rfl, fun k m hk => ?_⟩
      have := h (k + 1) m (by simpa using hk)
      rwa [show i + (k + 1) = i + 1 + k from by omega] at this
theorem nodeC_keep {w w' : World} (hs : w.heap.size ≤ w'.heap.size) (hc : ∀ p : Addr, p.block < w.heap.size → w'.cell? p = w.cell? p) : ∀ (n : Nd) (cs : List Value), nodeC w n cs → nodeC w' n cs := by
  intro n
  induction n using Nd.induct with
  | h n ih =>
    intro cs h
    obtain ⟨A, ca, K, ck, e, h1, h2⟩ := (nodeC_iff w n cs).1 h
    refine (nodeC_iff w' n cs).2 ⟨A, ca, K, ck, e, h1.keep hs hc, ?_⟩
    rcases h2 with h2 | ⟨ad, rfl, hb, hk⟩
    · exact .inl h2
    · refine .inr ⟨ad, rfl, by omega, (kidsC_iff w' ad _ 0).2 fun k m hm => ?_⟩
      obtain ⟨cs', h3, h4⟩ := (kidsC_iff w ad _ 0).1 hk k m hm
      exact ⟨cs', fun j u hu => (hc _ (by rw [add_block]; exact hb)).trans (h3 j u hu), ih m (List.mem_of_getElem? hm) cs' h4⟩
theorem nodeC_below {w w' : World} {n : Nd} {cs : List Value} (h : nodeC w n cs) (hb : Below w.heap.size w w') : nodeC w' n cs :=
  nodeC_keep hb.size (fun _ hp => hb.cell hp) n cs h
def SlN (w : World) (K : Option Addr) (ks : List Nd) : Prop := ks = [] ∨ ∃ ad, K = some ad ∧ ad.block < w.heap.size ∧ kidsC w ad 0 ks
theorem SlN.below {w w' : World} {K : Option Addr} {ks : List Nd} (h : SlN w K ks) (hb : Below w.heap.size w w') : SlN w' K ks := by
  rcases h with h | ⟨ad, rfl, h1, h2⟩
  · exact .inl h
  · refine .inr ⟨ad, rfl, Nat.lt_of_lt_of_le h1 hb.size, (kidsC_iff w' ad _ 0).2 fun k m hm => ?_⟩
    obtain ⟨cs', h3, h4⟩ := (kidsC_iff w ad _ 0).1 h2 k m hm
    exact ⟨cs', fun j u hu => (hb.cell (by rw [add_block]; exact h1)).trans (h3 j u hu), nodeC_below h4 hb⟩
theorem SlN.at_ {w : World} {K : Option Addr} {ks : List Nd} (h : SlN w K ks) {k : Nat} {n : Nd} (hk : ks[k]? = some n) :
    ∃ ad A ca Q cq, K = some ad ∧ ad.block < w.heap.size ∧ w.cell? (ad.add (k * 6)) = some (.int .i64 n.kind) ∧ w.cell? ⟨(ad.add (k * 6)).block, (ad.add (k * 6)).off + 1, none⟩ = some (.string n.name.1) ∧
      w.cell? ⟨(ad.add (k * 6)).block, (ad.add (k * 6)).off + 2, none⟩ = some (.string n.name.2) ∧ w.cell? ⟨(ad.add (k * 6)).block, (ad.add (k * 6)).off + 3, none⟩ = some (.slice A n.attrs.length ca) ∧
      w.cell? ⟨(ad.add (k * 6)).block, (ad.add (k * 6)).off + 4, none⟩ = some (.slice Q n.kids.length cq) ∧ w.cell? ⟨(ad.add (k * 6)).block, (ad.add (k * 6)).off + 5, none⟩ = some (.string n.text) ∧ Sl3 w A n.attrs ∧ SlN w Q n.kids := by
  rcases h with h | ⟨ad, rfl, h1, h2⟩
  · subst h; cases hk
  · obtain ⟨cs, h3, h4⟩ := (kidsC_iff w ad _ 0).1 h2 k n hk
    rw [Nat.zero_add] at h3
    obtain ⟨A, ca, Q, cq, rfl, h5, h6⟩ := (nodeC_iff w n cs).1 h4
    refine ⟨ad, A, ca, Q, cq, rfl, h1, h3 0 _ rfl, ?_, ?_, ?_, ?_, ?_, h5, h6⟩
    · rw [← add_succ _ _ 1 (by omega)]; exact h3 1 _ rfl
    · rw [← add_succ _ _ 2 (by omega)]; exact h3 2 _ rfl
    · rw [← add_succ _ _ 3 (by omega)]; exact h3 3 _ rfl
    · rw [← add_succ _ _ 4 (by omega)]; exact h3 4 _ rfl
    · rw [← add_succ _ _ 5 (by omega)]; exact h3 5 _ rfl
def NodeV (w : World) (n : Nd) (A : Option Addr) (K : Option Addr) : Prop := Sl3 w A n.attrs ∧ SlN w K n.kids
def ndV (n : Nd) (A : Option Addr) (ca : Nat) (K : Option Addr) (ck : Nat) : Value := .agg (ndCells n.kind n.name A n.attrs.length ca K n.kids.length ck n.text).toArray
theorem NodeV.below {w w' : World} {n : Nd} {A K : Option Addr} (h : NodeV w n A K) (hb : Below w.heap.size w w') : NodeV w' n A K := ⟨h.1.below hb, h.2.below hb⟩
theorem nodeC_V (w : World) (n : Nd) (cs : List Value) : nodeC w n cs ↔ ∃ A ca K ck, cs = ndCells n.kind n.name A n.attrs.length ca K n.kids.length ck n.text ∧ NodeV w n A K := nodeC_iff w n cs
end Wb
