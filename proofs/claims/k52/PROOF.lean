import PyProof.Rows.All
import Wide.All
import OpenK.AllK
import Wide.FinOn
import PySem.Challenge.RW_slotmaps_k52_places_as_texts
import HandS.ForMost
import HandS.Codes
import HandS.IsInst
import KE.DataEq
import KE.DataCmp
import HandS.Iter
import HandS.Walk
import KE.KeyNested
import HandS.TupAny
import HandS.More
import HandS.Lambda
import HandS.Words
import HandS.Ends
import KE.GoesMore
import KE.GoesEnum
import PyProof.EqKinds
import HandS.Text
import HandS.DictComp
import HandS.Dict
import HandS.Style
import KE.SortData
import PyProof.ReprLen
import PyProof.Rows.IntBool
import KE.KStrOpen
import PyProof.Rows.ReprOcc
import HandS.TupMul
import PyProof.ReprRoads
import PyProof.RowDictHeap
import HandS.RaiseMore
import KE.KRevSl
import PyProof.NeKinds
import HandS.Exc
import HandS.ExcOwn
import HandS.WordsExc
import HandS.Small
import HandS.ExcIs
import HandS.ExcField
import HandS.ExcInit
import HandS.ExcValue
import HandS.TryMany
import HandS.FStr
import HandS.Wide
import HandS.Flow
import HandS.NoneIn
import PyProof.StrOps2
import HandS.EndTab
set_option Elab.async false
set_option linter.all false
set_option maxRecDepth 100000
set_option maxHeartbeats 4000000
namespace SM
open PySem PySem.Spec PyProof.Rows L2

/-! ### values as data: a second layer, in which no heap is seen -/
def kP : Key → PyData
  | .inl i => .int i
  | .inr x => .str x
/-- M: what may change (the dict that numbers are drawn from, lists that are being made); it is no part of any datum -/
abbrev Mu := List Addr
mutual
inductive DV (K : PySem.W.Frag) (H : Hp) (M : Mu) : V → PyData → Prop
  | non : DV K H M .non .none
  | bl (b : Bool) : DV K H M (.bl b) (.bool b)
  | int (i : Int) : DV K H M (.int i) (.int i)
  | str (x : Str) : x.length ≤ 16777216 → DV K H M (.str x) (.str x)
  | lst {a : Addr} {xs : List V} {ds : List PyData} : a ∉ M → H a = some (.lst xs) → DVs K H M xs ds → DV K H M (.ref a) (.list ds)
  | tup {a : Addr} {xs : List V} {ds : List PyData} : a ∉ M → H a = some (.tup xs) → DVs K H M xs ds → DV K H M (.ref a) (.tuple ds)
  | dct {a : Addr} {kvs : List (Key × V)} {ds : List (PyData × PyData)} : a ∉ M → H a = some (.dK kvs) → DKs K H M kvs ds → DV K H M (.ref a) (.dict ds)
inductive DVs (K : PySem.W.Frag) (H : Hp) (M : Mu) : List V → List PyData → Prop
  | nil : DVs K H M [] []
  | cons {v : V} {vs : List V} {d : PyData} {ds : List PyData} : DV K H M v d → DVs K H M vs ds → DVs K H M (v :: vs) (d :: ds)
inductive DKs (K : PySem.W.Frag) (H : Hp) (M : Mu) : List (Key × V) → List (PyData × PyData) → Prop
  | nil : DKs K H M [] []
  | cons {k : Key} {v : V} {kvs : List (Key × V)} {d : PyData} {ds : List (PyData × PyData)} : DV K H M v d → DKs K H M kvs ds → DKs K H M ((k, v) :: kvs) ((kP k, d) :: ds)
end
/-- all that is no part of M is as it was -/
def Out (M : Mu) (H H' : Hp) : Prop := ∀ b o, b ∉ M → H b = some o → H' b = some o
section
variable {K : PySem.W.Frag} {H H' H2 : Hp} {M : Mu}
theorem Out.refl : Out M H H := fun _ _ _ h => h
theorem Out.trans (a : Out M H H') (b : Out M H' H2) : Out M H H2 := fun x o n h => b x o n (a x o n h)
theorem Out.of_same (s : Same H H') : Out M H H' := fun b o _ h => s b o h
mutual
theorem DV.out (u : Out M H H') : ∀ (d : PyData) {v : V}, DV K H M v d → DV K H' M v d
  | .none, _, h => by cases h; exact .non
  | .bool _, _, h => by cases h; exact .bl _
  | .int _, _, h => by cases h; exact .int _
  | .str _, _, h => by
    cases h with
    | str _ b => exact .str _ b
  | .list ds, _, h => by
    cases h with
    | lst n e a => exact .lst n (u _ _ n e) (DVs.out u ds a)
  | .tuple ds, _, h => by
    cases h with
    | tup n e a => exact .tup n (u _ _ n e) (DVs.out u ds a)
  | .dict ds, _, h => by
    cases h with
    | dct n e a => exact .dct n (u _ _ n e) (DKs.out u ds a)
theorem DVs.out (u : Out M H H') : ∀ (ds : List PyData) {vs : List V}, DVs K H M vs ds → DVs K H' M vs ds
  | [], _, h => by cases h; exact .nil
  | d :: ds, _, h => by
    cases h with
    | cons a b => exact .cons (DV.out u d a) (DVs.out u ds b)
theorem DKs.out (u : Out M H H') : ∀ (ds : List (PyData × PyData)) {vs : List (Key × V)}, DKs K H M vs ds → DKs K H' M vs ds
  | [], _, h => by cases h; exact .nil
  | (_, d) :: ds, _, h => by
    cases h with
    | cons a b => exact .cons (DV.out u d a) (DKs.out u ds b)
end
mutual
/-- less may change -/
theorem DV.less {M2 : Mu} (u : ∀ b, b ∈ M2 → b ∈ M) : ∀ (d : PyData) {v : V}, DV K H M v d → DV K H M2 v d
  | .none, _, h => by cases h; exact .non
  | .bool _, _, h => by cases h; exact .bl _
  | .int _, _, h => by cases h; exact .int _
  | .str _, _, h => by
    cases h with
    | str _ b => exact .str _ b
  | .list ds, _, h => by
    cases h with
    | lst n e a => exact .lst (fun z => n (u _ z)) e (DVs.less u ds a)
  | .tuple ds, _, h => by
    cases h with
    | tup n e a => exact .tup (fun z => n (u _ z)) e (DVs.less u ds a)
  | .dict ds, _, h => by
    cases h with
    | dct n e a => exact .dct (fun z => n (u _ z)) e (DKs.less u ds a)
theorem DVs.less {M2 : Mu} (u : ∀ b, b ∈ M2 → b ∈ M) : ∀ (ds : List PyData) {vs : List V}, DVs K H M vs ds → DVs K H M2 vs ds
  | [], _, h => by cases h; exact .nil
  | d :: ds, _, h => by
    cases h with
    | cons a b => exact .cons (DV.less u d a) (DVs.less u ds b)
theorem DKs.less {M2 : Mu} (u : ∀ b, b ∈ M2 → b ∈ M) : ∀ (ds : List (PyData × PyData)) {vs : List (Key × V)}, DKs K H M vs ds → DKs K H M2 vs ds
  | [], _, h => by cases h; exact .nil
  | (_, d) :: ds, _, h => by
    cases h with
    | cons a b => exact .cons (DV.less u d a) (DKs.less u ds b)
end
/-- M2: besides what is of M only what is new -/
def Ext (M : Mu) (H : Hp) (M2 : Mu) : Prop := ∀ p, p ∈ M2 → p ∈ M ∨ H p = none
theorem Ext.refl : Ext M H M := fun _ h => .inl h
theorem Ext.cons {p : Addr} (h : H p = none) : Ext M H (p :: M) := fun q z => (List.mem_cons.mp z).elim (fun e => .inr (by rw [e]; exact h)) .inl
theorem Ext.no {M2 : Mu} (x : Ext M H M2) {a : Addr} {o : HO} (n : a ∉ M) (e : H a = some o) : a ∉ M2 := fun z => (x a z).elim n (fun q => by rw [q] at e; cases e)
mutual
/-- a new object may be one that changes -/
theorem DV.ext {M2 : Mu} (x : Ext M H M2) : ∀ (d : PyData) {v : V}, DV K H M v d → DV K H M2 v d
  | .none, _, h => by cases h; exact .non
  | .bool _, _, h => by cases h; exact .bl _
  | .int _, _, h => by cases h; exact .int _
  | .str _, _, h => by
    cases h with
    | str _ b => exact .str _ b
  | .list ds, _, h => by
    cases h with
    | lst n e a => exact .lst (x.no n e) e (DVs.ext x ds a)
  | .tuple ds, _, h => by
    cases h with
    | tup n e a => exact .tup (x.no n e) e (DVs.ext x ds a)
  | .dict ds, _, h => by
    cases h with
    | dct n e a => exact .dct (x.no n e) e (DKs.ext x ds a)
theorem DVs.ext {M2 : Mu} (x : Ext M H M2) : ∀ (ds : List PyData) {vs : List V}, DVs K H M vs ds → DVs K H M2 vs ds
  | [], _, h => by cases h; exact .nil
  | d :: ds, _, h => by
    cases h with
    | cons a b => exact .cons (DV.ext x d a) (DVs.ext x ds b)
theorem DKs.ext {M2 : Mu} (x : Ext M H M2) : ∀ (ds : List (PyData × PyData)) {vs : List (Key × V)}, DKs K H M vs ds → DKs K H M2 vs ds
  | [], _, h => by cases h; exact .nil
  | (_, d) :: ds, _, h => by
    cases h with
    | cons a b => exact .cons (DV.ext x d a) (DKs.ext x ds b)
end
theorem DV.more {p : Addr} (hp : H p = none) (d : PyData) {v : V} (h : DV K H M v d) : DV K H (p :: M) v d := DV.ext (Ext.cons hp) d h
theorem DVs.more {p : Addr} (hp : H p = none) (ds : List PyData) {vs : List V} (h : DVs K H M vs ds) : DVs K H (p :: M) vs ds := DVs.ext (Ext.cons hp) ds h
/-- no dict lies within -/
abbrev Pl (d : PyData) : Prop := d.plain = true
mutual
theorem DV.dp : ∀ (d : PyData) {v : V}, d.plain = true → DV K H M v d → Dp K H v d
  | .none, _, _, h => by cases h; exact .non
  | .bool _, _, _, h => by cases h; exact .bl _
  | .int _, _, _, h => by cases h; exact .int _
  | .str _, _, _, h => by cases h; exact .str _
  | .list ds, _, p, h => by
    cases h with
    | lst n e a => exact .lst (SqL.of e) (DVs.dp ds (by simpa only [PyData.plain] using p) a)
  | .tuple ds, _, p, h => by
    cases h with
    | tup n e a => exact .tup (SqT.of e) (DVs.dp ds (by simpa only [PyData.plain] using p) a)
  | .dict ds, _, p, h => by simp [PyData.plain] at p
theorem DVs.dp : ∀ (ds : List PyData) {vs : List V}, PyData.plainAll ds = true → DVs K H M vs ds → DpAll K H vs ds
  | [], _, _, h => by cases h; exact .nil
  | d :: ds, _, p, h => by
    cases h with
    | cons a b =>
      simp only [PyData.plainAll, Bool.and_eq_true] at p
      exact .cons (DV.dp d p.1 a) (DVs.dp ds p.2 b)
end
theorem DVs.length : ∀ {vs : List V} {ds : List PyData}, DVs K H M vs ds → vs.length = ds.length
  | _, _, .nil => rfl
  | _, _, .cons _ t => by rw [List.length_cons, List.length_cons, t.length]
theorem DVs.get : ∀ {vs : List V} {ds : List PyData} {i : Nat} {d : PyData}, DVs K H M vs ds → ds[i]? = some d → ∃ v, vs[i]? = some v ∧ DV K H M v d
  | _, _, _, _, .nil, e => by simp at e
  | _, _, 0, _, .cons a _, e => by
    cases (show some _ = some _ from e)
    exact ⟨_, rfl, a⟩
  | _, _, i + 1, d, .cons _ t, e => t.get (i := i) e
theorem DVs.get' : ∀ {vs : List V} {ds : List PyData} {i : Nat} {v : V}, DVs K H M vs ds → vs[i]? = some v → ∃ d, ds[i]? = some d ∧ DV K H M v d
  | _, _, _, _, .nil, e => by simp at e
  | _, _, 0, _, .cons a _, e => by
    cases (show some _ = some _ from e)
    exact ⟨_, rfl, a⟩
  | _, _, i + 1, d, .cons _ t, e => t.get' (i := i) e
theorem DVs.append : ∀ {vs ws : List V} {ds es : List PyData}, DVs K H M vs ds → DVs K H M ws es → DVs K H M (vs ++ ws) (ds ++ es)
  | _, _, _, _, .nil, h => h
  | _, _, _, _, .cons a t, h => .cons a (t.append h)
theorem DVs.take : ∀ {vs : List V} {ds : List PyData} (n : Nat), DVs K H M vs ds → DVs K H M (vs.take n) (ds.take n)
  | _, _, 0, _ => .nil
  | _, _, _ + 1, .nil => .nil
  | _, _, n + 1, .cons a t => .cons a (t.take n)
theorem DVs.drop : ∀ {vs : List V} {ds : List PyData} (n : Nat), DVs K H M vs ds → DVs K H M (vs.drop n) (ds.drop n)
  | _, _, 0, h => h
  | _, _, _ + 1, .nil => .nil
  | _, _, n + 1, .cons _ t => t.drop n
end
end SM

set_option Elab.async false
set_option linter.all false
set_option maxRecDepth 100000
set_option maxHeartbeats 4000000
namespace SM
open PySem PySem.Spec PyProof.Rows L2

/-! ### dicts whose keys are nested tuples: the machine's side -/
/-- key, where its tuple stands, value -/
abbrev NE := NestedKey × Addr × V
def NP : NE → NestedKey × Addr × Value → Prop := fun p q => p.1 = q.1 ∧ p.2.1 = q.2.1 ∧ RelV p.2.2 q.2.2
def dNphi (P : Program) (w : World) (a : Addr) (es : List NE) (h : Heap) : Prop := es.length ≤ sizeLine ∧ (a == sysModules) = false ∧ ∃ xs, Paired NP es xs ∧
  ∃ o ds ep, h.get? a = some o ∧ o.ExactDict ∧ o.data = .dict ds ep ∧ ds.toList = xs.map (entryOfKey (nestedKind P w)) ∧ (xs.map (·.1)).Nodup
def dN (P : Program) (w : World) (a : Addr) (es : List NE) : HO := .ext (dNphi P w a es)
mutual
inductive KeyV (H : Hp) : NestedKey → V → Prop
  | none : KeyV H .none .non
  | bl (b : Bool) : KeyV H (.num (if b = true then 1 else 0)) (.bl b)
  | int (i : Int) : KeyV H (.num i) (.int i)
  | str (x : Str) : KeyV H (.text x) (.str x)
  | tup {a : Addr} {xs : List V} {ks : List NestedKey} : H a = some (.tup xs) → KeyVs H ks xs → KeyV H (.tup ks) (.ref a)
inductive KeyVs (H : Hp) : List NestedKey → List V → Prop
  | nil : KeyVs H [] []
  | cons {k : NestedKey} {v : V} {ks : List NestedKey} {vs : List V} : KeyV H k v → KeyVs H ks vs → KeyVs H (k :: ks) (v :: vs)
end
section
variable {P : Program} {w : World} {H H' : Hp} {h h' : Heap}
mutual
theorem KeyV.is (ok : HOk P w H h) : ∀ (k : NestedKey) {v : V} {u : Value}, KeyV H k v → RelV v u → NestedIs h k u
  | .none, _, _, a, r => by
    cases a
    cases (show _ = Value.none from r)
    exact .none
  | .num i, _, _, a, r => by
    cases a with
    | bl b =>
      cases (show _ = Value.bool b from r)
      exact .bool rfl
    | int =>
      obtain ⟨t, rfl⟩ := (show ∃ t, _ = Value.int i t from r)
      exact .int _ _
  | .text x, _, _, a, r => by
    cases a
    obtain ⟨t, rfl⟩ := (show ∃ t, _ = Value.str x t from r)
    exact .text _ _
  | .tup ks, _, _, a, r => by
    cases a with
    | @tup a xs _ e b =>
      cases (show _ = Value.ref a from r)
      obtain ⟨_, its, rel, o, h1, h2, n, h3⟩ := (show ObjOk P w H h a (.tup xs) from ok a _ e)
      exact .tup h1 h2 h3 (KeyVs.is ok ks b (by simpa using rel))
theorem KeyVs.is (ok : HOk P w H h) : ∀ (ks : List NestedKey) {vs : List V} {us : List Value}, KeyVs H ks vs → Vals vs us → NestedAll h ks us
  | [], _, _, a, r => by
    cases a
    cases r
    exact .nil
  | k :: ks, _, _, a, r => by
    cases a with
    | cons a1 a2 =>
      cases r with
      | cons r1 r2 => exact .cons (KeyV.is ok k a1 r1) (KeyVs.is ok ks a2 r2)
end
mutual
theorem KeyV.keep (u : ∀ b xs, H b = some (.tup xs) → H' b = some (.tup xs)) : ∀ (k : NestedKey) {v : V}, KeyV H k v → KeyV H' k v
  | .none, _, a => by cases a; exact .none
  | .num _, _, a => by
    cases a with
    | bl b => exact .bl b
    | int => exact .int _
  | .text _, _, a => by cases a; exact .str _
  | .tup ks, _, a => by
    cases a with
    | tup e b => exact .tup (u _ _ e) (KeyVs.keep u ks b)
theorem KeyVs.keep (u : ∀ b xs, H b = some (.tup xs) → H' b = some (.tup xs)) : ∀ (ks : List NestedKey) {vs : List V}, KeyVs H ks vs → KeyVs H' ks vs
  | [], _, a => by cases a; exact .nil
  | k :: ks, _, a => by
    cases a with
    | cons a1 a2 => exact .cons (KeyV.keep u k a1) (KeyVs.keep u ks a2)
end
def Keys (H : Hp) (es : List NE) : Prop := ∀ x, x ∈ es → KeyV H x.1 (.ref x.2.1) ∧ x.1.depth ≤ 8
def valN (es : List NE) (k : NestedKey) : Option V := (es.find? fun x => decide (x.1 = k)).map (·.2.2)
def putN (es : List NE) (k : NestedKey) (b : Addr) (v : V) : List NE := if (valN es k).isSome = true then es.map (fun x => if x.1 = k then (x.1, x.2.1, v) else x) else es ++ [(k, b, v)]
theorem np_val (k : NestedKey) : ∀ {es : List NE} {xs : List (NestedKey × Addr × Value)}, Paired NP es xs → RelO (valN es k) ((atKey xs k).map (·.2)) := by
  intro es xs r
  induction r with
  | nil => exact True.intro
  | @cons p q ps qs h t ih =>
    obtain ⟨h1, h2, h3⟩ := h
    by_cases e : p.1 = k
    · have e' : q.1 = k := h1.symm.trans e
      have a : valN (p :: ps) k = some p.2.2 := by simp [valN, List.find?_cons, e]
      have b : atKey (q :: qs) k = some q.2 := by simp [atKey, List.find?_cons, e']
      rw [a, b]; exact h3
    · have e' : ¬ q.1 = k := fun z => e (h1.trans z)
      have a : valN (p :: ps) k = valN ps k := by simp [valN, List.find?_cons, e]
      have b : atKey (q :: qs) k = atKey qs k := by simp [atKey, List.find?_cons, e']
      rw [a, b]; exact ih
theorem np_repl {es : List NE} {xs : List (NestedKey × Addr × Value)} (r : Paired NP es xs) (k : NestedKey) {y : V} {u : Value} (ry : RelV y u) :
    Paired NP (es.map fun x => if x.1 = k then (x.1, x.2.1, y) else x) (xs.map (putAt k u)) := by
  induction r with
  | nil => exact .nil
  | @cons p q ps qs h t ih =>
    rw [List.map_cons, List.map_cons]
    refine .cons ?_ ih
    obtain ⟨h1, h2, h3⟩ := h
    unfold putAt
    by_cases e : p.1 = k
    · rw [if_pos e, if_pos (h1.symm.trans e)]; exact ⟨h1, h2, ry⟩
    · rw [if_neg e, if_neg (fun z => e (h1.trans z))]; exact ⟨h1, h2, h3⟩
theorem np_put {es : List NE} {xs : List (NestedKey × Addr × Value)} (r : Paired NP es xs) (k : NestedKey) {b : Addr} {y : V} {u : Value} (ry : RelV y u) : Paired NP (putN es k b y) (storedH xs k b u) := by
  have e : (valN es k).isSome = (atKey xs k).isSome := by
    rw [(np_val k r).isSome_eq, Option.isSome_map]
  unfold putN storedH
  rw [e]
  by_cases q : (atKey xs k).isSome = true
  · rw [if_pos q, if_pos q]; exact np_repl r k ry
  · rw [if_neg q, if_neg q]; exact Paired.snoc r ⟨rfl, rfl, ry⟩
theorem putN_length (es : List NE) (k : NestedKey) (b : Addr) (v : V) : (putN es k b v).length ≤ es.length + 1 := by
  unfold putN
  split
  · rw [List.length_map]; omega
  · rw [List.length_append]; exact Nat.le_refl _
theorem dN_rd {a : Addr} {es : List NE} (ok : HOk P w H h) (e : Rd H a (dN P w a es)) (ks : Keys H es) : es.length ≤ sizeLine ∧ (a == sysModules) = false ∧ ∃ xs, Paired NP es xs ∧ h.DictOfH (nestedKind P w) a xs := by
  obtain ⟨⟨z, y, xs, r, o, ds, ep, h1, h2, h3, h4, h5⟩, _⟩ := (show ObjOk P w H h a (.ext (dNphi P w a es)) from e.ok ok)
  refine ⟨z, y, xs, r, o, ds, ep, h1, h2, h3, h4, fun x hx => ?_, h5⟩
  have all : ∀ {l : List NE} {m : List (NestedKey × Addr × Value)}, Paired NP l m → Keys H l → ∀ x ∈ m, (nestedKind P w).is h x.1 x.2.1 := by
    intro l m q
    induction q with
    | nil => intro _ x hx; exact nomatch hx
    | @cons p q ps qs hq t ih =>
      intro kk x hx
      rcases List.mem_cons.mp hx with e | hx
      · subst e
        obtain ⟨k1, k2⟩ := kk p List.mem_cons_self
        rw [← hq.1, ← hq.2.1]
        exact ⟨KeyV.is ok _ k1 rfl, k2⟩
      · exact ih (fun y hy => kk y (List.mem_cons_of_mem _ hy)) x hx
  exact all r ks x hx
theorem dN_ok {H2 : Hp} {a : Addr} {es : List NE} (x : dNphi P w a es h) : ObjOk P w H2 h a (dN P w a es) := by
  refine ⟨x, ?_, fun h1 h2 y st => ?_⟩
  · obtain ⟨_, _, _, _, o, _, _, e, _⟩ := x
    exact ⟨o, e⟩
  · obtain ⟨z, y2, xs, r, o, ds, ep, e, q⟩ := y
    exact ⟨z, y2, xs, r, o, ds, ep, st _ e, q⟩
theorem Rd.keyv {H : Hp} {d : Addr} {o : Obj} {u : HO} (hd : H d = some u) (hu : ∀ xs, u ≠ .tup xs) : ∀ b xs, H b = some (.tup xs) → upd H d o' b = some (.tup xs) := fun b xs e => by
  rw [upd_ne (fun z => by rw [z, hd] at e; exact hu xs (Option.some.inj e))]; exact e
end
def DGetN (P : Program) (w : World) (H : Hp) (a : Addr) (y : V) (r : Option V) : Prop := ∃ es k b, Rd H a (dN P w a es) ∧ Keys H es ∧ y = .ref b ∧ KeyV H k (.ref b) ∧ k.depth ≤ 8 ∧ r = valN es k
def DPutN (P : Program) (w : World) (H : Hp) (a : Addr) (y v : V) (H' : Hp) : Prop :=
  ∃ es k b, H a = some (dN P w a es) ∧ Keys H es ∧ y = .ref b ∧ KeyV H k (.ref b) ∧ k.depth ≤ 8 ∧ es.length < sizeLine ∧ H' = upd H a (dN P w a (putN es k b v))
section
variable {X : Cx} {pins : List (Addr × Obj)} {σ : L2.St} {H : Hp} {s : Shared} {a : Addr} {y v : V} {u r : Value} {o : Option V} {A : Around} {E : Value → Shared → Prop}
theorem dN_getItem {Q : Value → Shared → Prop} (hu : A.units + 64 < cLine) (I : Inv X pins σ H s) (g : DGetN X.prog X.w H a y (some v)) (ry : RelV y u) (h : ∀ w' s', Inv X pins σ H s' → RelV v w' → Q w' s') :
    wpAny (model X.prog X.w) A (getItem (.ref a) u) Q E s := by
  obtain ⟨es, k, b, e, ks, ey, kb, kd, l⟩ := g
  subst ey
  cases (show u = Value.ref b from ry)
  obtain ⟨z, hd, xs, rel, dd⟩ := dN_rd I.hok e ks
  obtain ⟨w', hw, rw'⟩ := RelO.some_of (v := v) (o := (atKey xs k).map (·.2)) (by rw [l]; exact np_val k rel)
  obtain ⟨p, hp, hp2⟩ := Option.map_eq_some_iff.mp hw
  refine wpAny_getItem_heap (knd := nestedKind X.prog X.w) (show A.in1.units + 8 < cLine by rw [Around.in1_units]; omega) ⟨KeyV.is I.hok k kb rfl, kd⟩ dd hp ?_
  rw [hp2]
  exact h w' _ (I.tok _) rw'
theorem dN_in {Q : Value → Shared → Prop} (hu : A.units + 64 < cLine) (I : Inv X pins σ H s) (g : DGetN X.prog X.w H a y o) (ry : RelV y u) (h : ∀ s', Inv X pins σ H s' → Q (.bool o.isSome) s') :
    wpAny (model X.prog X.w) A (compareOp .In u (.ref a)) Q E s := by
  obtain ⟨es, k, b, e, ks, ey, kb, kd, l⟩ := g
  subst ey
  cases (show u = Value.ref b from ry)
  obtain ⟨z, hd, xs, rel, dd⟩ := dN_rd I.hok e ks
  refine wpAny_in_heap (knd := nestedKind X.prog X.w) (show A.in1.units + 8 < cLine by rw [Around.in1_units]; omega) ⟨KeyV.is I.hok k kb rfl, kd⟩ hd dd ?_
  have q := (np_val k rel).isSome_eq
  rw [Option.isSome_map] at q
  rw [← q, ← l]
  exact h _ (I.tok _)
theorem dN_setItem {H' : Hp} {Q : Unit → Shared → Prop} (hu : A.units + 64 < cLine) (I : Inv X pins σ H s) (g : DPutN X.prog X.w H a y v H') (ry : RelV y u) (rv : RelV v r) (h : ∀ s', Inv X pins σ H' s' → Q () s') :
    wpAny (model X.prog X.w) A (setItem (.ref a) u r) Q E s := by
  obtain ⟨es, k, b, e, ks, ey, kb, kd, l, eH⟩ := g
  subst ey eH
  cases (show u = Value.ref b from ry)
  obtain ⟨z, hd, xs, rel, dd⟩ := dN_rd I.hok (.inl e) ks
  have hz : xs.length ≤ sizeLine := by rw [← Paired.length rel]; exact z
  have hl : (putN es k b v).length ≤ sizeLine := by have := putN_length es k b v; omega
  refine wpAny_setItem_heap (knd := nestedKind X.prog X.w) (hsz := hz) (show A.in1.units + 8 < cLine by rw [Around.in1_units]; omega) ⟨KeyV.is I.hok k kb rfl, kd⟩ dd fun h' dd' hs => h _ ?_
  obtain ⟨q, es', ep, hq, h2, h3, h4, _, h5⟩ := dd'
  exact d_write I (by rw [e]; exact True.intro) hs ⟨q, hq⟩ (dN_ok ⟨hl, hd, _, np_put rel k rv, q, es', ep, hq, h2, h3, h4, h5⟩)
end
def tDGetN (P : Program) (w : World) (td ty : TE) : TE := fun σ H Q => td σ H fun x H1 => ty σ H1 fun y H2 => ∃ a v, x = .ref a ∧ DGetN P w H2 a y (some v) ∧ Q v H2
def tDInN (P : Program) (w : World) (ty td : TE) : TE := fun σ H Q => ty σ H fun y H1 => td σ H1 fun x H2 => ∃ a o, x = .ref a ∧ DGetN P w H2 a y o ∧ Q (.bl o.isSome) H2
def sDPutN (P : Program) (w : World) (td ty tv : TE) : TS := fun D σ H => tv σ H fun v H1 => td σ H1 fun x H2 => ty σ H2 fun y H3 => ∃ a H4, x = .ref a ∧ DPutN P w H3 a y v H4 ∧ D.nx σ H4
def tDNewN (P : Program) (w : World) : TE := fun _ H Q => ∀ p, H p = none → Q (.ref p) (upd H p (dN P w p []))
theorem dN_typeIs {X : Cx} {pins : List (Addr × Obj)} {σ : L2.St} {H : Hp} {s : Shared} {a : Addr} {y : V} {o : Option V} (I : Inv X pins σ H s) (g : DGetN X.prog X.w H a y o) : s.TypeIs (.ref a) "dict" := by
  obtain ⟨es, k, b, e, ks, _⟩ := g
  obtain ⟨_, _, xs, _, dd⟩ := dN_rd I.hok e ks
  exact dd.typeIs
section
variable {X : Cx} {o i e value : Expr} {pos pos' tpos : Pos} {td ty tv : TE}
theorem pe_dgetN (hu : X.A.units + 64 < cLine) (ho : PE X o td) (hi : PE X i ty) (hs : NoSl i) : PE X (.Subscript o i pos) (tDGetN X.prog X.w td ty) := by
  refine ⟨fun pins s σ H Q I h => ?_⟩
  refine subD_of PySem.F.slot_dict_getitem.lookup hs (thn (ho.run pins s σ H _ I h) fun u s1 ⟨x, H1, I1, rx, q1⟩ => thn (hi.run pins s1 σ H1 _ I1 q1) fun iv s2 ⟨y, H2, I2, ry, a, v, ex, g, q2⟩ => ?_)
  subst ex
  obtain rfl : u = Value.ref a := rx
  exact ⟨dN_typeIs I2 g, dN_getItem hu I2 g ry fun w' s3 I3 rw' => ⟨v, H2, I3, rw', q2⟩⟩
theorem pc_dinN (hu : X.A.units + 64 < cLine) (hi : PE X i ty) (ho : PE X o td) : PC X .In i o (tDInN X.prog X.w ty td) := by
  refine ⟨fun pins s σ H Q I h => ?_⟩
  refine thn (hi.run pins s σ H _ I h) fun iv s1 ⟨y, H1, I1, ry, q1⟩ => thn (ho.run pins s1 σ H1 _ I1 q1) fun u s2 ⟨x, H2, I2, rx, a, ov, ex, g, q2⟩ => ?_
  subst ex
  obtain rfl : u = Value.ref a := rx
  exact dN_in hu I2 g ry fun s3 I3 => ⟨.bl ov.isSome, H2, I3, rfl, q2⟩
theorem ps_dputN (hu : X.A.units + 64 < cLine) (ho : PE X o td) (hi : PE X i ty) (hv : PE X value tv) (hs : swapsWith value (some (.Subscript o i pos')) pos.line X.env = pure false) :
    PS X (.Assign [.Subscript o i pos'] value pos) (sDPutN X.prog X.w td ty tv) := by
  refine ⟨fun pins s σ H D I h => ?_⟩
  refine wpAny_Assign_Subscript (thn (hv.run pins s σ H _ I h) fun r s1 ⟨v, H1, I1, rv, q1⟩ => thn (ho.run pins s1 σ H1 _ I1 q1) fun u s2 ⟨x, H2, I2, rx, q2⟩ => thn (hi.run pins s2 σ H2 _ I2 q2) fun iv s3 ⟨y, H3, I3, ry, a, H4, ex, g, q3⟩ => ?_) hs
  subst ex
  obtain rfl : u = Value.ref a := rx
  exact dN_setItem hu I3 g ry rv fun s4 I4 => ⟨σ, H4, I4, q3⟩
theorem dN_empty {P : Program} {w : World} {H : Hp} (h : Heap) (hb : sysModules < h.objs.size) : ObjOk P w H (h.push { cls := .type "dict", data := .dict #[] }) h.objs.size (dN P w h.objs.size []) :=
  dN_ok ⟨Nat.zero_le _, beq_eq_false_iff_ne.mpr (Ne.symm (Nat.ne_of_lt hb)), [], .nil, _, #[], 0, Heap.get?_push_size _ rfl, ⟨rfl, rfl, rfl⟩, rfl, rfl, List.nodup_nil⟩
theorem pe_dnewN : PE X (.Dict [] [] pos) (tDNewN X.prog X.w) := ⟨fun pins s σ H Q I h =>
  wpAny_Dict_empty ⟨.ref s.heap.objs.size, _, I.laid (a := s.heap.objs.size) (o := dN X.prog X.w s.heap.objs.size []) (t' := s.toks) (fun _ _ q => Heap.get?_push_of_some _ q) (Nat.le_refl _) (dN_empty s.heap I.big), rfl, h _ (I.hok.fresh (Nat.le_refl _))⟩⟩
end
/-! the keys of a locked dict -/
section
variable {X : Cx} {pins : List (Addr × Obj)} {σ : L2.St} {H : Hp} {s : Shared} {d : Addr} {o : Obj} {P : Program} {w : World}
theorem Inv.frzN {es : List NE} (I : Inv X pins σ H s) (h : H d = some (.frz o (dN P w d es))) :
    (d == sysModules) = false ∧ s.heap.get? d = some o ∧ o.ExactDict ∧ ∃ (ds : Array DictEntry) (ep : Nat), o.data = .dict ds ep ∧ ds.size = es.length ∧
      ∀ (i : Nat) (k : NestedKey) (q : Addr) (v : V), es[i]? = some (k, q, v) → ∃ en : DictEntry, ds[i]? = some en ∧ en.key = .ref q := by
  obtain ⟨hd, ⟨z, hs, xs, pr, o', ds, ep, ho, hx, hdt, he, _⟩, _⟩ := I.hok d _ h
  rw [hd] at ho
  cases ho
  refine ⟨hs, hd, hx, ds, ep, hdt, ?_, fun i k q v e => ?_⟩
  · have l1 : ds.size = xs.length := size_of_entries he
    have l2 : es.length = xs.length := Paired.length pr
    omega
  · obtain ⟨b, hb, e1, e2, _⟩ := paired_get pr e
    have qe := entry_at he i
    rw [hb] at qe
    refine ⟨_, qe, ?_⟩
    show Value.ref b.2.1 = .ref q
    rw [← e2]
end
def Itkn (P : Program) (w : World) (d : Addr) (o : Obj) (es : List NE) : It :=
  ⟨fun i H => H d = some (.frz o (dN P w d es)) ∧ i < es.length, fun i H x H' => H' = H ∧ ∃ (k : NestedKey) (q : Addr) (v : V), es[i]? = some (k, q, v) ∧ x = .ref q, fun i H => H d = some (.frz o (dN P w d es)) ∧ es.length ≤ i⟩
theorem turn_keysN {P : Program} {w : World} {K : PySem.W.Frag} {tg : Expr} {d : Addr} {o : Obj} {ds : Array DictEntry} {ep : Nat} {P' : Program} {w' : World} {es : List NE} (it : Addr) (hod : o.data = .dict ds ep) : Turn P w K tg (Itkn P' w' d o es) [it] it (fun i h => h.IsKeyIter it d i es.length ep) where
  mem := by simp
  obj := fun i h st b hb => by
    have e : b = it := by simpa using hb
    subst e
    obtain ⟨oi, e, c, dd⟩ := st
    exact ⟨oi, e, fun v z => by rw [dd] at z; cases z⟩
  keep := fun i h h' st k => st.at fun oi e => k it (by simp) oi e
  item := by
    intro X hP hw hK hc i pins s σ H E I hf st hg
    subst hP hw hK
    obtain ⟨hd, hi⟩ := hg
    obtain ⟨f0, f1, f2, f3, f4, f5⟩ := hf it (by simp)
    obtain ⟨hs, hgd, hx, es', ep', hdt, hsz, ent⟩ := Inv.frzN I hd
    obtain ⟨rfl, rfl⟩ := dict_ep hod hdt
    obtain ⟨⟨k, q, v⟩, hkv⟩ : ∃ p, es[i]? = some p := ⟨es[i], List.getElem?_eq_getElem hi⟩
    obtain ⟨en, hen, hkey⟩ := ent i k q v hkv
    refine next_key_item st hgd hdt hsz hen fun h' st' sb => ?_
    have I1 : Inv X pins σ H { s with heap := h' } := I.turned (t' := s.toks) (fun b ob hb e => (sb.2 b hb).trans e) f0 f1 f3 f4 f5
    obtain ⟨oi, e, c, dd⟩ := id st'
    exact ⟨en.key, rfl, go_of (s := { s with heap := h' }) e c dd (by decide) ⟨.ref q, H, I1, hkey, ⟨rfl, k, q, v, hkv, rfl⟩, st', fun b hb => (hf b hb).1⟩⟩
  done := by
    intro X hP hw hK hc i pins s σ H E I hf st hg
    subst hP hw hK
    obtain ⟨hd, hi⟩ := hg
    obtain ⟨f0, f1, f2, f3, f4, f5⟩ := hf it (by simp)
    obtain ⟨hs, hgd, hx, es', ep', hdt, hsz, ent⟩ := Inv.frzN I hd
    obtain ⟨rfl, rfl⟩ := dict_ep hod hdt
    exact next_key_end (I.ok.hd hc) st hgd hdt hsz hi fun h' eb => ⟨rfl, I.turned (t' := s.toks) (fun b ob hb e => eb b ob hb e) f0 f1 f3 f4 f5⟩
  self := fun A i s Q E st h => by
    refine wpAny_pyIter_slot st.typeIs F.slot_dict_keyiterator_iter (wpAny_call_entry F.slot_dict_keyiterator_iter st.typeIs F.entry_dict_keyiterator_iter ?_ (F.args_dict_keyiterator_iter_1 _))
    show wpAny _ _ (ret (.ref it)) _ _ s
    exact wpAny_pure ⟨_, rfl, "dict_keyiterator", _, st.typeIs, F.slot_dict_keyiterator_next.lookup, h⟩
def iKeysN (P : Program) (w : World) (td : TE) : TI := fun σ H R => td σ H fun x H1 => ∃ d o es, x = .ref d ∧ H1 d = some (.frz o (dN P w d es)) ∧ R (Itkn P w d o es) H1
theorem pi_keysN {X : Cx} {tg e : Expr} {td : TE} (he : PE X e td) : PI X tg e (iKeysN X.prog X.w td) := by
  refine ⟨fun pins s σ H R I h => ?_⟩
  refine thn (he.run pins s σ H _ I h) fun u s1 ⟨x, H1, I1, rx, d, o, es, ex, hd, q⟩ => ?_
  subst ex
  obtain rfl : u = Value.ref d := rx
  obtain ⟨hs, hgd, hx, ds, ep, hdt, hsz, ent⟩ := Inv.frzN I1 hd
  refine iter_keys hs hgd hx hdt (pi_one (tk := s1.toks) I1 _ (turn_keysN _ hdt) ⟨_, Heap.get?_push_size _ rfl, rfl, ?_⟩ q)
  rw [hsz] <;> rfl
theorem walk_keysN {P : Program} {w : World} {d : Addr} {o : Obj} {es : List NE} : Walk (Itkn P w d o es) es.length (fun H => H d = some (.frz o (dN P w d es)))
    (fun i H x H' => H' = H ∧ ∃ (k : NestedKey) (q : Addr) (v : V), es[i]? = some (k, q, v) ∧ x = .ref q) :=
  ⟨fun _ _ hi q => ⟨q, hi⟩, fun _ q => ⟨q, Nat.le_refl _⟩, fun _ _ _ _ _ _ y => y⟩
end SM

set_option Elab.async false
set_option linter.all false
set_option maxRecDepth 100000
set_option maxHeartbeats 4000000
namespace SM
open PySem PySem.Spec PyProof.Rows L2
/-- the program and its world -/
class PW where
  prog : Program
  world : World
  /-- the tables of code objects, with the name of what they tell -/
  tabs : List (Addr × Str)
variable [PW]
/-- where they are -/
abbrev tbs : Mu := PW.tabs.map (·.1)
/-! ### the tables stay -/
/-- neither a table nor a code object -/
def Plain (u : HO) : Prop := (∀ ps, u ≠ .tbl ps) ∧ ∀ c q, u ≠ LamX.CodeO c q
theorem plain_lst {xs : List V} : Plain (.lst xs) := ⟨fun _ z => (by cases z), fun _ _ z => by unfold LamX.CodeO at z; cases z⟩
theorem plain_dK {xs : List (Key × V)} : Plain (.dK xs) := ⟨fun _ z => (by cases z), fun _ _ z => by unfold LamX.CodeO at z; cases z⟩
theorem plain_xd {xs : List (Str × V)} : Plain (.xd xs) := ⟨fun _ z => (by cases z), fun _ _ z => by unfold LamX.CodeO at z; cases z⟩
theorem plain_frz {o : Obj} {u : HO} : Plain (.frz o u) := ⟨fun _ z => (by cases z), fun _ _ z => by unfold LamX.CodeO at z; cases z⟩
def phiO : HO → Heap → Prop
  | .ext φ => φ
  | _ => fun _ => False
theorem code_has (c : Addr) (q : Str) : ∃ h : Heap, phiO (LamX.CodeO c q) h ∧ ∀ b o, h.get? b = some o → ∃ vs, o.data = .fields vs := by
  let oc : Obj := { cls := .none, data := .fields #[Value.none, .str q default] }
  have e : (⟨Array.replicate (c + 1) oc, {}⟩ : Heap).get? c = some oc := by simp [Heap.get?, oc]
  refine ⟨⟨Array.replicate (c + 1) oc, {}⟩, ⟨oc, _, default, e, rfl, rfl⟩, fun b o hb => ?_⟩
  have hm : o ∈ Array.replicate (c + 1) oc := by
    unfold Heap.get? at hb
    split at hb
    · cases hb
    · exact Array.mem_of_getElem? hb
  rw [(Array.mem_replicate.mp hm).2]
  exact ⟨_, rfl⟩
theorem plain_dN {P : Program} {w : World} {L : Addr} {es : List NE} : Plain (dN P w L es) := ⟨fun _ z => (by unfold dN at z; cases z), fun c q z => by
  obtain ⟨h, hh, hn⟩ := code_has c q
  rw [← z] at hh
  obtain ⟨_, _, _, _, o, ds, ep, h1, _, h2, _⟩ := (show dNphi P w L es h from hh)
  obtain ⟨vs, e⟩ := hn L o h1
  rw [e] at h2
  cases h2⟩
theorem TabS.upd {H : Hp} {P p : Addr} {q : Str} {u o : HO} (hp : H p = some u) (hu : Plain u) (t : LamX.TabS H P q) : LamX.TabS (upd H p o) P q := by
  obtain ⟨ps, h1, h2, h3⟩ := t
  refine ⟨ps, by rw [upd_ne (fun z => hu.1 ps (by rw [z, hp] at h1; exact Option.some.inj h1))]; exact h1, h2, fun pos cv hc => ?_⟩
  obtain ⟨c, e1, e2⟩ := h3 pos cv hc
  exact ⟨c, e1, by rw [upd_ne (fun z => hu.2 _ _ (by rw [z, hp] at e2; exact Option.some.inj e2))]; exact e2⟩
theorem Tabs.upd {H : Hp} {T : List (Addr × Str)} {p : Addr} {u o : HO} (hp : H p = some u) (hu : Plain u) (t : LamX.Tabs T H) : LamX.Tabs T (upd H p o) := fun x hx => TabS.upd hp hu (t x hx)
/-- all but what is in M is as it was, and the tables are there -/
structure OutT (M : Mu) (H H' : Hp) : Prop where
  out : Out M H H'
  lv : LamX.Tabs PW.tabs H'
/-- what may change is there, the tables among it -/
structure Tr (M : Mu) (H : Hp) : Prop where
  at_ : ∀ p, p ∈ M → H p ≠ none
  ts : ∀ p, p ∈ tbs → p ∈ M
  lv : LamX.Tabs PW.tabs H
/-! ### keys that are nested tuples -/
mutual
def toNK : PyData → Option NestedKey
  | .none => some .none
  | .bool b => some (.num (if b = true then 1 else 0))
  | .int i => some (.num i)
  | .str x => some (.text x)
  | .tuple ds => (toNKs ds).map .tup
  | .list _ => none
  | .dict _ => none
def toNKs : List PyData → Option (List NestedKey)
  | [] => some []
  | d :: r => (toNK d).bind fun k => (toNKs r).map (k :: ·)
end
mutual
theorem DV.keyv {K : PySem.W.Frag} {H : Hp} {M : Mu} : ∀ (d : PyData) {v : V} {k : NestedKey}, DV K H M v d → toNK d = some k → KeyV H k v
  | .none, _, _, h, e => by cases h; cases e; exact .none
  | .bool b, _, _, h, e => by cases h; cases e; exact .bl b
  | .int _, _, _, h, e => by cases h; cases e; exact .int _
  | .str _, _, _, h, e => by cases h; cases e; exact .str _
  | .tuple ds, _, _, h, e => by
    obtain ⟨ks, e2, rfl⟩ := Option.map_eq_some_iff.mp (show (toNKs ds).map NestedKey.tup = some _ from e)
    cases h with
    | tup n ea a => exact .tup ea (DVs.keyvs ds a e2)
  | .list _, _, _, _, e => nomatch (show none = some _ from e)
  | .dict _, _, _, _, e => nomatch (show none = some _ from e)
theorem DVs.keyvs {K : PySem.W.Frag} {H : Hp} {M : Mu} : ∀ (ds : List PyData) {vs : List V} {ks : List NestedKey}, DVs K H M vs ds → toNKs ds = some ks → KeyVs H ks vs
  | [], _, _, h, e => by cases h; cases e; exact .nil
  | d :: r, _, _, h, e => by
    obtain ⟨k, e1, e2⟩ := Option.bind_eq_some_iff.mp (show (toNK d).bind _ = some _ from e)
    obtain ⟨ks, e3, rfl⟩ := Option.map_eq_some_iff.mp e2
    cases h with
    | cons a b => exact .cons (DV.keyv d a e1) (DVs.keyvs r b e3)
end
inductive DNs (K : PySem.W.Frag) (H : Hp) (M : Mu) : List NE → List (PyData × PyData) → Prop
  | nil : DNs K H M [] []
  | cons {k : NestedKey} {b : Addr} {v : V} {kd d : PyData} {es : List NE} {ds : List (PyData × PyData)} : toNK kd = some k → k.depth ≤ 8 → DV K H M (.ref b) kd → DV K H M v d → DNs K H M es ds → DNs K H M ((k, b, v) :: es) ((kd, d) :: ds)
section
variable {K : PySem.W.Frag} {H H' : Hp} {M M2 : Mu}
theorem DNs.out (u : Out M H H') : ∀ {es : List NE} {ds : List (PyData × PyData)}, DNs K H M es ds → DNs K H' M es ds
  | _, _, .nil => .nil
  | _, _, .cons a b c d t => .cons a b (DV.out u _ c) (DV.out u _ d) (t.out u)
theorem DNs.ext (x : Ext M H M2) : ∀ {es : List NE} {ds : List (PyData × PyData)}, DNs K H M es ds → DNs K H M2 es ds
  | _, _, .nil => .nil
  | _, _, .cons a b c d t => .cons a b (DV.ext x _ c) (DV.ext x _ d) (t.ext x)
theorem DNs.less (u : ∀ b, b ∈ M2 → b ∈ M) : ∀ {es : List NE} {ds : List (PyData × PyData)}, DNs K H M es ds → DNs K H M2 es ds
  | _, _, .nil => .nil
  | _, _, .cons a b c d t => .cons a b (DV.less u _ c) (DV.less u _ d) (t.less u)
theorem DNs.length : ∀ {es : List NE} {ds : List (PyData × PyData)}, DNs K H M es ds → es.length = ds.length
  | _, _, .nil => rfl
  | _, _, .cons _ _ _ _ t => congrArg (· + 1) t.length
theorem DNs.keys : ∀ {es : List NE} {ds : List (PyData × PyData)}, DNs K H M es ds → Keys H es
  | _, _, .nil => fun x hx => nomatch hx
  | _, _, .cons a b c d t => fun x hx => by
    rcases List.mem_cons.mp hx with e | hx
    · subst e
      exact ⟨DV.keyv _ c a, b⟩
    · exact t.keys x hx
end
/-- a dict with such keys is no datum here -/
def tabS : PyData → Bool
  | .tuple _ => true
  | _ => false

/-! ### the dict that numbers are drawn from -/
def kC : Key := Sum.inr "cells"
def kR : Key := Sum.inr "rest"
def PenG (kt : Str) (H : Hp) (q : Addr × Addr) (n : Nat) : Prop := ∃ (ns : List Int) (t r : Int), H q.1 = some (.dK [(kC, .ref q.2), (Sum.inr kt, .int t), (kR, .int r)]) ∧ H q.2 = some (.lst (ns.map V.int)) ∧ ns.length ≤ 63 ∧ 0 ≤ t ∧ t ≤ n ∧ 0 ≤ r
/-- at least k more numbers may be drawn -/
def Fuel (kt : Str) (H : Hp) (q : Addr × Addr) (k : Nat) : Prop := ∃ n, PenG kt H q n ∧ n + k ≤ 100000000000
section
variable {kt : Str} {H H' : Hp} {a : Addr × Addr} {k k' : Nat}
theorem Fuel.same (h : Fuel kt H a k) (s : Same H H') : Fuel kt H' a k := by
  obtain ⟨n, ⟨ns, t, r, h1, h2, h3⟩, hn⟩ := h
  exact ⟨n, ⟨ns, t, r, s _ _ h1, s _ _ h2, h3⟩, hn⟩
/-- what is neither the dict nor its cells may change -/
theorem Fuel.but (h : Fuel kt H a k) {p : Addr} {o : HO} (h1 : a.1 ≠ p) (h2 : a.2 ≠ p) : Fuel kt (upd H p o) a k := by
  obtain ⟨n, ⟨ns, t, r, e1, e2, h3⟩, hn⟩ := h
  exact ⟨n, ⟨ns, t, r, by rw [upd_ne h1]; exact e1, by rw [upd_ne h2]; exact e2, h3⟩, hn⟩
theorem Fuel.le (h : Fuel kt H a k) (z : k' ≤ k) : Fuel kt H a k' := by
  obtain ⟨n, h, hn⟩ := h
  exact ⟨n, h, by omega⟩
theorem Fuel.ne (h : Fuel kt H a k) : H a.1 ≠ none := by
  obtain ⟨n, ⟨ns, t, r, h1, _⟩, _⟩ := h
  rw [h1]
  exact fun z => by cases z
end

/-! ### what a slot holds, as data -/
inductive Sl where
  | no
  | dat (d : PyData)
  | pen
  /-- a list or a dict that nothing else holds -/
  | own (d : PyData)
  /-- a dict with nested keys that stays as it is -/
  | tab (ds : List (PyData × PyData))
/-- all but the dict of the numbers is as it was -/
abbrev Pen := Option (Addr × Addr)
structure Gr (pen : Pen) (H H' : Hp) : Prop where
  st : ∀ b o, some b ≠ pen.map (·.1) → b ∉ tbs → H b = some o → H' b = some o
  lv : LamX.Tabs PW.tabs H → LamX.Tabs PW.tabs H'
/-- L stands for d; what is in it is no part of M -/
def OwnR (K : PySem.W.Frag) (H : Hp) (M : Mu) (L : Addr) : PyData → Prop
  | .list ds => ∃ xs, H L = some (.lst xs) ∧ DVs K H M xs ds
  | .dict ds => ∃ kvs, H L = some (.dK kvs) ∧ DKs K H M kvs ds
  | .tuple ts => ∃ es ds, ts = [.dict ds] ∧ H L = some (dN PW.prog PW.world L es) ∧ DNs K H M es ds
  | _ => False
/-- a dict with nested keys in slot i, locked -/
def TabR (K : PySem.W.Frag) (H : Hp) (M : Mu) (σ : L2.St) (i : Nat) (ds : List (PyData × PyData)) : Prop := ∃ L es od, σ[i]? = some (some (.ref L)) ∧ L ∉ M ∧ H L = some (.frz od (dN PW.prog PW.world L es)) ∧ DNs K H M es ds
theorem TabR.out {K : PySem.W.Frag} {H H' : Hp} {M : Mu} {σ : L2.St} {i : Nat} {ds : List (PyData × PyData)} (u : Out M H H') : TabR K H M σ i ds → TabR K H' M σ i ds := fun ⟨L, es, o, a, n, r, q⟩ => ⟨L, es, o, a, n, u _ _ n r, q.out u⟩
theorem TabR.less {K : PySem.W.Frag} {H : Hp} {M M2 : Mu} {σ : L2.St} {i : Nat} {ds : List (PyData × PyData)} (u : ∀ b, b ∈ M2 → b ∈ M) : TabR K H M σ i ds → TabR K H M2 σ i ds := fun ⟨L, es, o, a, n, r, q⟩ => ⟨L, es, o, a, fun z => n (u _ z), r, q.less u⟩
theorem TabR.ext {K : PySem.W.Frag} {H : Hp} {M M2 : Mu} {σ : L2.St} {i : Nat} {ds : List (PyData × PyData)} (x : Ext M H M2) : TabR K H M σ i ds → TabR K H M2 σ i ds := fun ⟨L, es, o, a, n, r, q⟩ => ⟨L, es, o, a, x.no n r, r, q.ext x⟩
theorem TabR.at {K : PySem.W.Frag} {H : Hp} {M : Mu} {σ σ' : L2.St} {i j : Nat} {ds : List (PyData × PyData)} (e : σ'[j]? = σ[i]?) : TabR K H M σ i ds → TabR K H M σ' j ds := fun ⟨L, es, o, a, n, r, q⟩ => ⟨L, es, o, by rw [e]; exact a, n, r, q⟩
/-- a frame: M0 what was tracked as changing at its start elsewhere, Mx what of H0 may change in it, Ms what was tracked as changing at its start -/
structure Fr where
  M0 : Mu
  Mx : Mu
  Ms : Mu
  H0 : Hp
  pen : Pen
  tm : ∀ p, p ∈ tbs → p ∈ M0 ∧ p ∈ Mx
structure Dat (K : PySem.W.Frag) (kt : Str) (F : Fr) (M : Mu) (σ : L2.St) (H : Hp) (env : List Sl) (k : Nat) : Prop where
  len : σ.length = env.length
  sl : ∀ (i : Nat) (d : PyData), env[i]? = some (Sl.dat d) → ∃ v, σ[i]? = some (some v) ∧ DV K H M v d
  pi : ∀ (i : Nat), env[i]? = some Sl.pen → ∃ a, F.pen = some a ∧ σ[i]? = some (some (.ref a.1))
  ow : ∀ (i : Nat) (d : PyData), env[i]? = some (Sl.own d) → ∃ L, σ[i]? = some (some (.ref L)) ∧ L ∈ M ∧ L ∉ F.M0 ∧ OwnR K H M L d
  dj : ∀ (i j : Nat) (d e : PyData), env[i]? = some (Sl.own d) → env[j]? = some (Sl.own e) → i ≠ j → σ[i]? ≠ σ[j]?
  sub : ∀ p, p ∈ F.M0 → p ∈ M
  tr : ∀ p, p ∈ M → H p ≠ none
  tx : ∀ p, p ∈ F.Mx → H p ≠ none
  ex : Ext F.Ms F.H0 M
  sx : ∀ p, p ∈ F.Ms → p ∈ F.M0 ∨ p ∈ F.Mx
  pn : ∀ a, F.pen = some a → a.1 ∈ F.M0 ∧ a.2 ∈ F.M0 ∧ a.1 ∈ F.Mx ∧ Fuel kt H a k
  gr : OutT F.Mx F.H0 H
  tb : ∀ (i : Nat) (ds : List (PyData × PyData)), env[i]? = some (Sl.tab ds) → TabR K H M σ i ds
structure Post (K : PySem.W.Frag) (kt : Str) (M : Mu) (pen : Pen) (H H' : Hp) (v : V) (d : PyData) (k : Nat) : Prop where
  dv : DV K H' M v d
  gr : Gr pen H H'
  fu : ∀ a, pen = some a → Fuel kt H' a k
section
variable {K : PySem.W.Frag} {kt : Str} {F : Fr} {M M2 : Mu} {pen : Pen} {σ : L2.St} {H H' H2 : Hp} {env : List Sl} {k k' : Nat} {v : V} {d : PyData} {L : Addr}
theorem Gr.refl : Gr pen H H := ⟨fun _ _ _ _ h => h, id⟩
theorem Gr.trans (a : Gr pen H H') (b : Gr pen H' H2) : Gr pen H H2 := ⟨fun x o n m h => b.st x o n m (a.st x o n m h), fun h => b.lv (a.lv h)⟩
theorem Gr.of_same (s : Same H H') : Gr pen H H' := ⟨fun b o _ _ h => s b o h, fun t => t.ext s⟩
theorem OwnR.out (u : Out M H H') (e : H' L = H L) : ∀ {d : PyData}, OwnR K H M L d → OwnR K H' M L d
  | .list ds, ⟨xs, h1, h2⟩ => ⟨xs, by rw [e]; exact h1, DVs.out u ds h2⟩
  | .dict ds, ⟨xs, h1, h2⟩ => ⟨xs, by rw [e]; exact h1, DKs.out u ds h2⟩
  | .tuple ts, ⟨es, ds, q, h1, h2⟩ => ⟨es, ds, q, by rw [e]; exact h1, h2.out u⟩
theorem OwnR.ext (x : Ext M H M2) : ∀ {d : PyData}, OwnR K H M L d → OwnR K H M2 L d
  | .list ds, ⟨xs, h1, h2⟩ => ⟨xs, h1, DVs.ext x ds h2⟩
  | .dict ds, ⟨xs, h1, h2⟩ => ⟨xs, h1, DKs.ext x ds h2⟩
  | .tuple ts, ⟨es, ds, q, h1, h2⟩ => ⟨es, ds, q, h1, h2.ext x⟩
theorem OwnR.less (u : ∀ b, b ∈ M2 → b ∈ M) : ∀ {d : PyData}, OwnR K H M L d → OwnR K H M2 L d
  | .list ds, ⟨xs, h1, h2⟩ => ⟨xs, h1, DVs.less u ds h2⟩
  | .dict ds, ⟨xs, h1, h2⟩ => ⟨xs, h1, DKs.less u ds h2⟩
  | .tuple ts, ⟨es, ds, q, h1, h2⟩ => ⟨es, ds, q, h1, h2.less u⟩
theorem OwnR.dv (n : L ∉ M) : ∀ {d : PyData}, tabS d = false → OwnR K H M L d → DV K H M (.ref L) d
  | .list _, _, ⟨_, h1, h2⟩ => .lst n h1 h2
  | .dict _, _, ⟨_, h1, h2⟩ => .dct n h1 h2
  | .tuple _, e, _ => nomatch e
theorem OwnR.ne : ∀ {d : PyData}, OwnR K H M L d → ∃ o, H L = some o
  | .list _, ⟨_, h1, _⟩ => ⟨_, h1⟩
  | .dict _, ⟨_, h1, _⟩ => ⟨_, h1⟩
  | .tuple _, ⟨_, _, _, h1, _⟩ => ⟨_, h1⟩
theorem OwnR.plain : ∀ {d : PyData}, OwnR K H M L d → ∃ o, H L = some o ∧ Plain o
  | .list _, ⟨_, h1, _⟩ => ⟨_, h1, plain_lst⟩
  | .dict _, ⟨_, h1, _⟩ => ⟨_, h1, plain_dK⟩
  | .tuple _, ⟨_, _, _, h1, _⟩ => ⟨_, h1, plain_dN⟩
theorem Dat.penM (D : Dat K kt F M σ H env k) {b : Addr} (h : some b = F.pen.map (·.1)) : b ∈ F.M0 ∧ b ∈ M ∧ b ∈ F.Mx := by
  obtain ⟨q, e, hq⟩ := Option.map_eq_some_iff.mp h.symm
  subst hq
  exact ⟨(D.pn q e).1, D.sub _ (D.pn q e).1, (D.pn q e).2.2.1⟩
theorem Dat.out (D : Dat K kt F M σ H env k) (g : Gr F.pen H H') : Out M H H' := fun b o n h => g.st b o (fun z => n (D.penM z).2.1) (fun z => n (D.sub _ (F.tm b z).1)) h
theorem Dat.keep (D : Dat K kt F M σ H env k) (g : Gr F.pen H H') {L : Addr} (n : L ∉ F.M0) {o : HO} (h : H L = some o) : H' L = H L := by
  rw [h]
  exact g.st L o (fun z => n (D.penM z).1) (fun z => n (F.tm L z).1) h
theorem Dat.stay (D : Dat K kt F M σ H env k) (g : Gr F.pen H H') (f : ∀ a, F.pen = some a → Fuel kt H' a k') {p : Addr} (hp : H p ≠ none) : H' p ≠ none := by
  by_cases hq : some p = F.pen.map (·.1)
  · obtain ⟨q, e, h⟩ := Option.map_eq_some_iff.mp hq.symm
    subst h
    exact (f q e).ne
  · cases e : H p with
    | none => exact absurd e hp
    | some o =>
      by_cases ht : p ∈ tbs
      · obtain ⟨x, hx, ex⟩ := List.mem_map.mp ht
        obtain ⟨ps, h1, _⟩ := g.lv D.gr.lv x hx
        rw [← ex, h1]
        exact fun z => by cases z
      · rw [g.st p o hq ht e]
        exact fun z => by cases z
theorem Dat.tabs (D : Dat K kt F M σ H env k) : LamX.Tabs PW.tabs H := D.gr.lv
theorem Dat.trr (D : Dat K kt F M σ H env k) : Tr M H := ⟨D.tr, fun p hp => D.sub p (F.tm p hp).1, D.gr.lv⟩
theorem stay_upd {p q : Addr} {o : HO} (h : H q ≠ none) : upd H p o q ≠ none := by
  by_cases z : q = p
  · rw [z, upd_same]
    exact fun y => by cases y
  · rw [upd_ne z]
    exact h
theorem Dat.grow (D : Dat K kt F M σ H env k) (g : Gr F.pen H H') (f : ∀ a, F.pen = some a → Fuel kt H' a k') : Dat K kt F M σ H' env k' where
  len := D.len
  sl := fun i d e => by
    obtain ⟨v, h1, h2⟩ := D.sl i d e
    exact ⟨v, h1, h2.out (D.out g)⟩
  pi := D.pi
  ow := fun i d e => by
    obtain ⟨L, h1, h2, h3, h4⟩ := D.ow i d e
    obtain ⟨o, ho⟩ := h4.ne
    exact ⟨L, h1, h2, h3, h4.out (D.out g) (D.keep g h3 ho)⟩
  dj := D.dj
  sub := D.sub
  tr := fun p hp => D.stay g f (D.tr p hp)
  tx := fun p hp => D.stay g f (D.tx p hp)
  ex := D.ex
  sx := D.sx
  pn := fun a e => ⟨(D.pn a e).1, (D.pn a e).2.1, (D.pn a e).2.2.1, f a e⟩
  gr := ⟨fun b o n h => g.st b o (fun z => n (D.penM z).2.2) (fun z => n (F.tm b z).2) (D.gr.out b o n h), g.lv D.gr.lv⟩
  tb := fun i ds e => (D.tb i ds e).out (D.out g)
theorem Dat.fu (D : Dat K kt F M σ H env k) : ∀ a, F.pen = some a → Fuel kt H a k := fun a e => (D.pn a e).2.2.2
theorem Dat.post (D : Dat K kt F M σ H env k) (h : DV K H M v d) : Post K kt M F.pen H H v d k := ⟨h, Gr.refl, D.fu⟩
theorem Dat.same (D : Dat K kt F M σ H env k) (s : Same H H') : Dat K kt F M σ H' env k := D.grow (Gr.of_same s) fun a e => (D.fu a e).same s
theorem Dat.new (D : Dat K kt F M σ H env k) {p : Addr} (hp : H p = none) : p ∉ M := fun z => D.tr p z hp
/-- slot i stored to, with what is no own list -/
theorem get_set {σ : L2.St} {env : List Sl} {i j : Nat} {x : Sl} {y : Option V} (hl : σ.length = env.length) {e : Sl} (h : (env.set i x)[j]? = some e) : (j = i ∧ e = x ∧ (σ.set i y)[j]? = some y) ∨ (j ≠ i ∧ env[j]? = some e ∧ (σ.set i y)[j]? = σ[j]?) := by
  by_cases hj : j = i
  · subst hj
    by_cases hi : j < env.length
    · rw [List.getElem?_set_self hi] at h
      cases h
      exact .inl ⟨rfl, rfl, List.getElem?_set_self (by rw [hl]; exact hi)⟩
    · rw [List.getElem?_eq_none (by rw [List.length_set]; omega)] at h
      cases h
  · rw [List.getElem?_set_ne (Ne.symm hj)] at h
    exact .inr ⟨hj, h, List.getElem?_set_ne (Ne.symm hj)⟩
theorem Dat.put (D : Dat K kt F M σ H env k) (i : Nat) {x : Sl} {y : Option V} (hd : ∀ d, x = .dat d → ∃ v, y = some v ∧ DV K H M v d) (hp : x ≠ .pen) (ho : ∀ d, x ≠ .own d) (hq : ∀ ds, x ≠ .tab ds) : Dat K kt F M (σ.set i y) H (env.set i x) k where
  len := by rw [List.length_set, List.length_set, D.len]
  sl := fun j c e => by
    rcases get_set (y := y) D.len e with ⟨_, h2, h3⟩ | ⟨_, h2, h3⟩
    · obtain ⟨v, h4, h5⟩ := hd c h2.symm
      exact ⟨v, by rw [h3, h4], h5⟩
    · rw [h3]
      exact D.sl j c h2
  pi := fun j e => by
    rcases get_set (y := y) D.len e with ⟨_, h2, h3⟩ | ⟨_, h2, h3⟩
    · exact absurd h2.symm hp
    · rw [h3]
      exact D.pi j h2
  ow := fun j c e => by
    rcases get_set (y := y) D.len e with ⟨_, h2, h3⟩ | ⟨_, h2, h3⟩
    · exact absurd h2.symm (ho c)
    · rw [h3]
      exact D.ow j c h2
  dj := fun j j2 c c2 e e2 hn => by
    rcases get_set (y := y) D.len e with ⟨_, h2, h3⟩ | ⟨_, h2, h3⟩
    · exact absurd h2.symm (ho c)
    · rcases get_set (y := y) D.len e2 with ⟨_, h4, h5⟩ | ⟨_, h4, h5⟩
      · exact absurd h4.symm (ho c2)
      · rw [h3, h5]
        exact D.dj j j2 c c2 h2 h4 hn
  sub := D.sub
  tr := D.tr
  tx := D.tx
  ex := D.ex
  sx := D.sx
  pn := D.pn
  gr := D.gr
  tb := fun j ds e => by
    rcases get_set (y := y) D.len e with ⟨_, h2, h3⟩ | ⟨_, h2, h3⟩
    · exact absurd h2.symm (hq ds)
    · exact (D.tb j ds h2).at h3
theorem Dat.set (D : Dat K kt F M σ H env k) (i : Nat) (h : DV K H M v d) : Dat K kt F M (σ.set i (some v)) H (env.set i (.dat d)) k :=
  D.put i (fun c e => by cases e; exact ⟨v, rfl, h⟩) (fun z => by cases z) (fun c z => by cases z) (fun c z => by cases z)
theorem Dat.forget (D : Dat K kt F M σ H env k) (i : Nat) : Dat K kt F M (σ.set i none) H (env.set i .no) k :=
  D.put i (fun c e => by cases e) (fun z => by cases z) (fun c z => by cases z) (fun c z => by cases z)
/-- a new object that may change, for a while -/
theorem Dat.more (D : Dat K kt F M σ H env k) {p : Addr} {o : HO} (hp : H p = none) : Dat K kt ⟨p :: F.M0, p :: M, p :: M, fun _ => none, F.pen, fun q hq => ⟨List.mem_cons_of_mem _ (F.tm q hq).1, List.mem_cons_of_mem _ (D.sub _ (F.tm q hq).1)⟩⟩ (p :: M) σ (upd H p o) env k := by
  have s : Same H (upd H p o) := fun b x e => by rw [upd_ne (ne_of_none e hp)]; exact e
  have D1 := D.same s
  refine ⟨D.len, fun i d e => ?_, D.pi, fun i d e => ?_, D.dj, fun q hq => ?_, fun q hq => ?_, fun q hq => ?_, fun q hq => .inl hq, fun q hq => .inr hq, fun a e => ⟨List.mem_cons_of_mem _ (D.pn a e).1, List.mem_cons_of_mem _ (D.pn a e).2.1, List.mem_cons_of_mem _ (D.sub _ (D.pn a e).1), (D.fu a e).same s⟩, ⟨fun b x _ h => (nomatch h), D1.gr.lv⟩, fun i ds e => ((D.tb i ds e).ext (Ext.cons hp)).out (Out.of_same s)⟩
  · obtain ⟨v, h1, h2⟩ := D.sl i d e
    exact ⟨v, h1, DV.out (Out.of_same s) d (DV.more hp d h2)⟩
  · obtain ⟨L, h1, h2, h3, h4⟩ := D.ow i d e
    obtain ⟨u, hu⟩ := h4.ne
    have hne : L ≠ p := ne_of_none hu hp
    exact ⟨L, h1, List.mem_cons_of_mem _ h2, fun z => (List.mem_cons.mp z).elim hne h3, (h4.ext (Ext.cons hp)).out (Out.of_same s) (by rw [upd_ne hne])⟩
  · exact (List.mem_cons.mp hq).elim (fun z => by rw [z]; exact List.mem_cons_self) fun z => List.mem_cons_of_mem _ (D.sub q z)
  all_goals
    rcases List.mem_cons.mp hq with z | z
    · rw [z, upd_same]
      exact fun y => by cases y
    · exact D1.tr q z
/-- it changes -/
theorem Dat.mut {p : Addr} {o : HO} (D : Dat K kt F M σ H env k) (hp : p ∈ F.M0) (h0 : F.H0 p = none) (hn : ∀ a, F.pen = some a → a.1 ≠ p ∧ a.2 ≠ p) {u0 : HO} (hk : H p = some u0) (hu : Plain u0) : Dat K kt F M σ (upd H p o) env k := by
  have u : Out M H (upd H p o) := fun b x n e => by rw [upd_ne (fun z => n (by rw [z]; exact D.sub p hp))]; exact e
  refine ⟨D.len, fun i d e => ?_, D.pi, fun i d e => ?_, D.dj, D.sub, fun q hq => stay_upd (D.tr q hq), fun q hq => stay_upd (D.tx q hq), D.ex, D.sx, fun a e => ⟨(D.pn a e).1, (D.pn a e).2.1, (D.pn a e).2.2.1, (D.fu a e).but (hn a e).1 (hn a e).2⟩, ⟨fun b x nb e => ?_, Tabs.upd hk hu D.gr.lv⟩, fun i ds e => (D.tb i ds e).out u⟩
  · obtain ⟨v, h1, h2⟩ := D.sl i d e
    exact ⟨v, h1, DV.out u d h2⟩
  · obtain ⟨L, h1, h2, h3, h4⟩ := D.ow i d e
    exact ⟨L, h1, h2, h3, h4.out u (by rw [upd_ne (fun z => h3 (by rw [z]; exact hp))])⟩
  · rw [upd_ne (fun z => by rw [z, h0] at e; cases e)]
    exact D.gr.out b x nb e
/-- an own list or dict changes -/
theorem Dat.own {o : HO} {i : Nat} {d e : PyData} {L : Addr} (D : Dat K kt F M σ H env k) (hi : env[i]? = some (Sl.own d)) (hL : σ[i]? = some (some (.ref L))) (hr : ∀ {H' : Hp}, Out M H H' → H' L = some o → OwnR K H' M L e) :
    Dat K kt F M σ (upd H L o) (env.set i (.own e)) k := by
  obtain ⟨L', h1, h2, h3, h4⟩ := D.ow i d hi
  obtain rfl : L = L' := by
    rw [hL] at h1
    cases h1
    rfl
  have u : Out M H (upd H L o) := fun b x n e => by rw [upd_ne (fun z => n (by rw [z]; exact h2))]; exact e
  have hs : σ.set i (some (.ref L)) = σ := by
    refine List.ext_getElem? fun j => ?_
    by_cases hj : i = j
    · subst hj
      rw [hL]
      obtain ⟨hlt, _⟩ := List.getElem?_eq_some_iff.mp hL
      exact List.getElem?_set_self hlt
    · rw [List.getElem?_set_ne hj]
  have gs : ∀ {j : Nat} {x : Sl}, (env.set i (.own e))[j]? = some x → (j = i ∧ x = .own e) ∨ (j ≠ i ∧ env[j]? = some x) := fun {j x} h => by
    rcases get_set (σ := σ) (y := none) D.len h with ⟨a, b, _⟩ | ⟨a, b, _⟩
    · exact .inl ⟨a, b⟩
    · exact .inr ⟨a, b⟩
  have old : ∀ {j : Nat} {x : PyData}, (env.set i (.own e))[j]? = some (Sl.own x) → ∃ y, env[j]? = some (Sl.own y) := fun {j x} h => by
    rcases gs h with ⟨rfl, _⟩ | ⟨_, h2⟩
    · exact ⟨d, hi⟩
    · exact ⟨x, h2⟩
  refine ⟨by rw [List.length_set, D.len], fun j c h => ?_, fun j h => ?_, fun j c h => ?_, fun j j2 c c2 a b hn => ?_, D.sub, fun q hq => stay_upd (D.tr q hq), fun q hq => stay_upd (D.tx q hq), D.ex, D.sx, fun a ea => ⟨(D.pn a ea).1, (D.pn a ea).2.1, (D.pn a ea).2.2.1, (D.fu a ea).but (fun z => h3 (by rw [← z]; exact (D.pn a ea).1)) (fun z => h3 (by rw [← z]; exact (D.pn a ea).2.1))⟩, ⟨fun b x nb eb => ?_, by
    obtain ⟨u0, hu0, hp0⟩ := h4.plain
    exact Tabs.upd hu0 hp0 D.gr.lv⟩, fun j ds h => ?_⟩
  · rcases gs h with ⟨_, z⟩ | ⟨_, z⟩
    · cases z
    · obtain ⟨v, q1, q2⟩ := D.sl j c z
      exact ⟨v, q1, DV.out u c q2⟩
  · rcases gs h with ⟨_, z⟩ | ⟨_, z⟩
    · cases z
    · exact D.pi j z
  · rcases gs h with ⟨rfl, z⟩ | ⟨hj, z⟩
    · cases z
      exact ⟨L, hL, h2, h3, hr u upd_same⟩
    · obtain ⟨L2, q1, q2, q3, q4⟩ := D.ow j c z
      refine ⟨L2, q1, q2, q3, q4.out u (upd_ne fun y => ?_)⟩
      subst y
      exact D.dj j i c d z hi hj (by rw [q1, hL])
  · obtain ⟨y, hy⟩ := old a
    obtain ⟨y2, hy2⟩ := old b
    exact D.dj j j2 y y2 hy hy2 hn
  · by_cases z : b = L
    · subst z
      rcases D.ex b h2 with y | y
      · rcases D.sx b y with w | w
        · exact absurd w h3
        · exact absurd w nb
      · rw [y] at eb
        cases eb
    · rw [upd_ne z]
      exact D.gr.out b x nb eb
  · rcases gs h with ⟨_, z⟩ | ⟨_, z⟩
    · cases z
    · exact (D.tb j ds z).out u
/-- a new list or dict is stored, which nothing else holds -/
theorem Dat.take (D : Dat K kt F M σ H env k) {i : Nat} {L : Addr} {d : PyData} (hL : H L = none) (g : Gr F.pen H H') (f : ∀ a, F.pen = some a → Fuel kt H' a k') (r : OwnR K H' (L :: M) L d) : Dat K kt F (L :: M) (σ.set i (some (.ref L))) H' (env.set i (.own d)) k' := by
  have D1 := D.grow g f
  have u := D.out g
  have hLM : L ∉ M := D.new hL
  have u1 : Out (L :: M) H H' := fun b o n e => u b o (fun z => n (List.mem_cons_of_mem _ z)) e
  have h0 : F.H0 L = none := by
    cases e : F.H0 L with
    | none => rfl
    | some o =>
      by_cases hx : L ∈ F.Mx
      · exact absurd hL (D.tx L hx)
      · rw [D.gr.out L o hx e] at hL
        cases hL
  have old : ∀ {j : Nat} {x : PyData}, env[j]? = some (Sl.own x) → σ[j]? ≠ some (some (.ref L)) := fun {j x} h z => by
    obtain ⟨L2, q1, q2, _⟩ := D.ow j x h
    rw [q1] at z
    cases z
    exact hLM q2
  refine ⟨by rw [List.length_set, List.length_set, D.len], fun j c h => ?_, fun j h => ?_, fun j c h => ?_, fun j j2 c c2 a b hn => ?_, fun q hq => List.mem_cons_of_mem _ (D.sub q hq), fun q hq => ?_, D1.tx, fun q hq => ?_, D.sx, D1.pn, D1.gr, fun j ds h => ?_⟩
  · rcases get_set (y := some (V.ref L)) D.len h with ⟨_, z, _⟩ | ⟨_, z, w⟩
    · cases z
    · obtain ⟨v, q1, q2⟩ := D.sl j c z
      exact ⟨v, by rw [w]; exact q1, DV.out u1 c (DV.more hL c q2)⟩
  · rcases get_set (y := some (V.ref L)) D.len h with ⟨_, z, _⟩ | ⟨_, z, w⟩
    · cases z
    · rw [w]
      exact D.pi j z
  · rcases get_set (y := some (V.ref L)) D.len h with ⟨_, z, w⟩ | ⟨_, z, w⟩
    · cases z
      exact ⟨L, w, List.mem_cons_self, fun z => hLM (D.sub L z), r⟩
    · obtain ⟨L2, q1, q2, q3, q4⟩ := D.ow j c z
      obtain ⟨o, ho⟩ := q4.ne
      exact ⟨L2, by rw [w]; exact q1, List.mem_cons_of_mem _ q2, q3, (q4.ext (Ext.cons hL)).out u1 (D.keep g q3 ho)⟩
  · rcases get_set (y := some (V.ref L)) D.len a with ⟨e1, z, w⟩ | ⟨e1, z, w⟩
    · rcases get_set (y := some (V.ref L)) D.len b with ⟨e2, z2, w2⟩ | ⟨e2, z2, w2⟩
      · exact absurd (e1.trans e2.symm) hn
      · rw [w, w2]
        exact fun y => old z2 y.symm
    · rcases get_set (y := some (V.ref L)) D.len b with ⟨e2, z2, w2⟩ | ⟨e2, z2, w2⟩
      · rw [w, w2]
        exact old z
      · rw [w, w2]
        exact D.dj j j2 c c2 z z2 hn
  · rcases List.mem_cons.mp hq with z | z
    · obtain ⟨o, ho⟩ := r.ne
      rw [z, ho]
      exact fun y => by cases y
    · exact D1.tr q z
  · rcases List.mem_cons.mp hq with z | z
    · rw [z]
      exact .inr h0
    · exact D.ex q z
  · rcases get_set (y := some (V.ref L)) D.len h with ⟨_, z, _⟩ | ⟨_, z, w⟩
    · cases z
    · exact (((D.tb j ds z).ext (Ext.cons hL)).out u1).at w
/-- an own list or dict is a datum from now on -/
theorem Dat.frz (D : Dat K kt F M σ H env k) {i : Nat} {d : PyData} (ht : tabS d = false) (hi : env[i]? = some (Sl.own d)) : ∃ M', Dat K kt F M' σ H (env.set i (.dat d)) k := by
  obtain ⟨L, h1, h2, h3, h4⟩ := D.ow i d hi
  have le : ∀ b, b ∈ M.filter (fun p => decide (p ≠ L)) → b ∈ M := fun b hb => (List.mem_filter.mp hb).1
  have nL : L ∉ M.filter (fun p => decide (p ≠ L)) := fun z => by
    have := (List.mem_filter.mp z).2
    simp at this
  have inn : ∀ {b : Addr}, b ∈ M → b ≠ L → b ∈ M.filter (fun p => decide (p ≠ L)) := fun hb hn => List.mem_filter.mpr ⟨hb, by simpa using hn⟩
  have gs : ∀ {j : Nat} {x : Sl}, (env.set i (.dat d))[j]? = some x → (j = i ∧ x = .dat d) ∨ (j ≠ i ∧ env[j]? = some x) := fun {j x} h => by
    rcases get_set (σ := σ) (y := none) D.len h with ⟨a, b, _⟩ | ⟨a, b, _⟩
    · exact .inl ⟨a, b⟩
    · exact .inr ⟨a, b⟩
  refine ⟨M.filter (fun p => decide (p ≠ L)), by rw [List.length_set, D.len], fun j c h => ?_, fun j h => ?_, fun j c h => ?_, fun j j2 c c2 a b hn => ?_, fun p hp => inn (D.sub p hp) (fun z => h3 (by rw [← z]; exact hp)), fun p hp => D.tr p (le p hp), D.tx, fun p hp => D.ex p (le p hp), D.sx, D.pn, D.gr, fun j ds h => ?_⟩
  · rcases gs h with ⟨rfl, z⟩ | ⟨_, z⟩
    · cases z
      exact ⟨_, h1, (h4.less le).dv nL ht⟩
    · obtain ⟨v, q1, q2⟩ := D.sl j c z
      exact ⟨v, q1, DV.less le c q2⟩
  · rcases gs h with ⟨_, z⟩ | ⟨_, z⟩
    · cases z
    · exact D.pi j z
  · rcases gs h with ⟨_, z⟩ | ⟨hj, z⟩
    · cases z
    · obtain ⟨L2, q1, q2, q3, q4⟩ := D.ow j c z
      refine ⟨L2, q1, inn q2 (fun y => ?_), q3, q4.less le⟩
      subst y
      exact D.dj j i c d z hi hj (by rw [q1, h1])
  · rcases gs a with ⟨_, z⟩ | ⟨_, z⟩
    · cases z
    · rcases gs b with ⟨_, z2⟩ | ⟨_, z2⟩
      · cases z2
      · exact D.dj j j2 c c2 z z2 hn
  · rcases gs h with ⟨_, z⟩ | ⟨_, z⟩
    · cases z
    · exact (D.tb j ds z).less le
/-- all that is own, as data, at the end -/
def frzS : Sl → Sl
  | .own d => if tabS d = true then .no else .dat d
  | s => s
theorem frz_list (ds : List PyData) : frzS (.own (.list ds)) = .dat (.list ds) := rfl
theorem frz_dict (ds : List (PyData × PyData)) : frzS (.own (.dict ds)) = .dat (.dict ds) := rfl
theorem frz_tup (ds : List PyData) : frzS (.own (.tuple ds)) = .no := rfl
theorem frz_dat (d : PyData) : frzS (.dat d) = .dat d := rfl
theorem frz_no : frzS .no = .no := rfl
theorem frz_pen : frzS .pen = .pen := rfl
theorem frz_own {d : PyData} {s : Sl} (h : frzS (.own d) = s) : (tabS d = true ∧ s = .no) ∨ (tabS d = false ∧ s = .dat d) := by
  subst h
  by_cases e : tabS d = true
  · exact .inl ⟨e, if_pos e⟩
  · exact .inr ⟨by simpa using e, if_neg e⟩
theorem tab_list (ds : List PyData) : tabS (.list ds) = false := rfl
theorem tab_dict (ds : List (PyData × PyData)) : tabS (.dict ds) = false := rfl
theorem Dat.frzAll (D : Dat K kt F M σ H env k) : Dat K kt F F.M0 σ H (env.map frzS) k := by
  have gs : ∀ {j : Nat} {x : Sl}, (env.map frzS)[j]? = some x → ∃ y, env[j]? = some y ∧ frzS y = x := fun {j x} h => by
    rw [List.getElem?_map] at h
    exact Option.map_eq_some_iff.mp h
  refine ⟨by rw [List.length_map, D.len], fun j c h => ?_, fun j h => ?_, fun j c h => ?_, fun j j2 c c2 a b hn => ?_, fun p hp => hp, fun p hp => D.tr p (D.sub p hp), D.tx, fun p hp => D.ex p (D.sub p hp), D.sx, D.pn, D.gr, fun j ds h => ?_⟩
  · obtain ⟨y, h1, h2⟩ := gs h
    cases y with
    | no => cases h2
    | pen => cases h2
    | dat x =>
      cases h2
      obtain ⟨v, q1, q2⟩ := D.sl j c h1
      exact ⟨v, q1, DV.less D.sub c q2⟩
    | own x =>
      rcases frz_own h2 with ⟨_, z⟩ | ⟨ht, z⟩
      · cases z
      · cases z
        obtain ⟨L, q1, q2, q3, q4⟩ := D.ow j c h1
        exact ⟨_, q1, (q4.less D.sub).dv q3 ht⟩
    | tab x => cases h2
  · obtain ⟨y, h1, h2⟩ := gs h
    cases y with
    | no => cases h2
    | pen => exact D.pi j h1
    | dat x => cases h2
    | own x => rcases frz_own h2 with ⟨_, z⟩ | ⟨_, z⟩ <;> cases z
    | tab x => cases h2
  · obtain ⟨y, h1, h2⟩ := gs h
    cases y with
    | own x => rcases frz_own h2 with ⟨_, z⟩ | ⟨_, z⟩ <;> cases z
    | _ => cases h2
  · obtain ⟨y, h1, h2⟩ := gs a
    cases y with
    | own x => rcases frz_own h2 with ⟨_, z⟩ | ⟨_, z⟩ <;> cases z
    | _ => cases h2
  · obtain ⟨y, h1, h2⟩ := gs h
    cases y with
    | own x => rcases frz_own h2 with ⟨_, z⟩ | ⟨_, z⟩ <;> cases z
    | tab x =>
      cases h2
      exact (D.tb j _ h1).less D.sub
    | _ => cases h2
end
end SM

set_option Elab.async false
set_option linter.all false
set_option maxRecDepth 100000
set_option maxHeartbeats 4000000
namespace SM
open PySem PySem.Spec PyProof.Rows L2
variable [PW]

/-! ### expressions -/
abbrev DT := List Sl → Nat → (PyData → Nat → Prop) → Prop
abbrev DTA := List Sl → Nat → (List PyData → Nat → Prop) → Prop
def Abs (K : PySem.W.Frag) (kt : Str) (te : TE) (f : DT) : Prop := ∀ (F : Fr) (M : Mu) (σ : L2.St) (H : Hp) (env : List Sl) (k : Nat) (R : PyData → Nat → Prop) (Q : VK),
  Dat K kt F M σ H env k → f env k R → (∀ v H' d k', Post K kt M F.pen H H' v d k' → R d k' → Q v H') → te σ H Q
def AbsA (K : PySem.W.Frag) (kt : Str) (ta : TA) (f : DTA) : Prop := ∀ (F : Fr) (M : Mu) (σ : L2.St) (H : Hp) (env : List Sl) (k : Nat) (R : List PyData → Nat → Prop) (Q : List V → Hp → Prop),
  Dat K kt F M σ H env k → f env k R → (∀ vs H' ds k', DVs K H' M vs ds → Gr F.pen H H' → (∀ a, F.pen = some a → Fuel kt H' a k') → R ds k' → Q vs H') → ta σ H Q
abbrev DTT := List Sl → Nat → (Bool → Nat → Prop) → Prop
def AbsT (K : PySem.W.Frag) (kt : Str) (tt : TT) (f : DTT) : Prop := ∀ (F : Fr) (M : Mu) (σ : L2.St) (H : Hp) (env : List Sl) (k : Nat) (R : Bool → Nat → Prop) (Q : Bool → Hp → Prop),
  Dat K kt F M σ H env k → f env k R → (∀ b H' k', Gr F.pen H H' → (∀ a, F.pen = some a → Fuel kt H' a k') → R b k' → Q b H') → tt σ H Q
/-- an operation on two values, by data -/
def OpA (K : PySem.W.Frag) (r : R2) (G : PyData → PyData → Option PyData) : Prop := ∀ (M : Mu) (H : Hp) (x y : V) (d e c : PyData) (Q : VK), (∀ p, p ∈ M → H p ≠ none) → DV K H M x d → DV K H M y e → G d e = some c → (∀ z H', DV K H' M z c → Same H H' → Q z H') → r x y H Q
section
variable {K : PySem.W.Frag} {kt : Str} {ta tb tc te : TE} {fa fb fc f : DT} {r : R2} {G : PyData → PyData → Option PyData}
theorem ab_var (i : Nat) : Abs K kt (tVar i) fun env k R => ∃ d, env[i]? = some (Sl.dat d) ∧ R d k := fun F M σ H env k R Q D h q => by
  obtain ⟨d, e, h⟩ := h
  obtain ⟨v, h1, h2⟩ := D.sl i d e
  exact ⟨v, h1, q v H d k (D.post h2) h⟩
theorem ab_non : Abs K kt (tC .non) fun _ k R => R .none k := fun F M σ H env k R Q D h q => q _ H _ k (D.post .non) h
theorem ab_bl (b : Bool) : Abs K kt (tC (.bl b)) fun _ k R => R (.bool b) k := fun F M σ H env k R Q D h q => q _ H _ k (D.post (.bl b)) h
theorem ab_int (i : Int) : Abs K kt (tC (.int i)) fun _ k R => R (.int i) k := fun F M σ H env k R Q D h q => q _ H _ k (D.post (.int i)) h
theorem ab_str (x : Str) (z : x.length ≤ 16777216) : Abs K kt (tC (.str x)) fun _ k R => R (.str x) k := fun F M σ H env k R Q D h q => q _ H _ k (D.post (.str x z)) h
theorem ab_op (ho : OpA K r G) (ha : Abs K kt ta fa) (hb : Abs K kt tb fb) : Abs K kt (tOp r ta tb) fun env k R => fa env k fun d k1 => fb env k1 fun e k2 => ∃ c, G d e = some c ∧ R c k2 := fun F M σ H env k R Q D h q =>
  ha F M σ H env k _ _ D h fun v1 H1 d k1 p1 h1 => hb F M σ H1 env k1 _ _ (D.grow p1.gr p1.fu) h1 fun v2 H2 e k2 p2 ⟨c, hc, h2⟩ =>
    ho M H2 v1 v2 d e c Q ((D.grow p1.gr p1.fu).grow p2.gr p2.fu).tr (p1.dv.out ((D.grow p1.gr p1.fu).out p2.gr)) p2.dv hc fun z H3 hz s => q z H3 c k2 ⟨hz, (p1.gr.trans p2.gr).trans (Gr.of_same s), fun a e => (p2.fu a e).same s⟩ h2
theorem ab_anil : AbsA K kt tNil fun _ k R => R [] k := fun F M σ H env k R Q D h q => q [] H [] k .nil Gr.refl D.fu h
theorem ab_acons {tr : TA} {fr : DTA} (ha : Abs K kt ta fa) (hr : AbsA K kt tr fr) : AbsA K kt (tCons ta tr) fun env k R => fa env k fun d k1 => fr env k1 fun ds k2 => R (d :: ds) k2 := fun F M σ H env k R Q D h q =>
  ha F M σ H env k _ _ D h fun v1 H1 d k1 p1 h1 => hr F M σ H1 env k1 _ _ (D.grow p1.gr p1.fu) h1 fun vs H2 ds k2 a2 g2 f2 h2 => q _ H2 _ k2 (.cons (p1.dv.out ((D.grow p1.gr p1.fu).out g2)) a2) (p1.gr.trans g2) f2 h2
theorem ab_tup {tx : TA} {fx : DTA} (hx : AbsA K kt tx fx) : Abs K kt (tTup tx) fun env k R => fx env k fun ds k1 => ds.length ≤ 100000 ∧ R (.tuple ds) k1 := fun F M σ H env k R Q D h q =>
  hx F M σ H env k _ _ D h fun vs H1 ds k1 a1 g1 f1 ⟨hz, h1⟩ => ⟨by rw [a1.length]; exact Nat.le_trans hz (by decide), fun p hp => by
    have s : Same H1 (upd H1 p (.tup vs)) := fun b o e => by rw [upd_ne (ne_of_none e hp)]; exact e
    have D1 := D.grow g1 f1
    exact q _ _ _ k1 ⟨.tup (D1.new hp) upd_same (DVs.out (Out.of_same s) _ a1), g1.trans (Gr.of_same s), fun a e => (f1 a e).same s⟩ h1⟩
theorem ab_lst {tx : TA} {fx : DTA} (hx : AbsA K kt tx fx) : Abs K kt (tLst tx) fun env k R => fx env k fun ds k1 => ds.length ≤ 100000 ∧ R (.list ds) k1 := fun F M σ H env k R Q D h q =>
  hx F M σ H env k _ _ D h fun vs H1 ds k1 a1 g1 f1 ⟨hz, h1⟩ => ⟨by rw [a1.length]; exact Nat.le_trans hz (by decide), fun p hp => by
    have s : Same H1 (upd H1 p (.lst vs)) := fun b o e => by rw [upd_ne (ne_of_none e hp)]; exact e
    have D1 := D.grow g1 f1
    exact q _ _ _ k1 ⟨.lst (D1.new hp) upd_same (DVs.out (Out.of_same s) _ a1), g1.trans (Gr.of_same s), fun a e => (f1 a e).same s⟩ h1⟩
theorem bool_of {M : Mu} {H : Hp} {v : V} {b : Bool} (h : DV K H M v (.bool b)) : v = .bl b := by cases h; rfl
theorem int_of {M : Mu} {H : Hp} {v : V} {b : Int} (h : DV K H M v (.int b)) : v = .int b := by cases h; rfl
theorem str_of {M : Mu} {H : Hp} {v : V} {b : Str} (h : DV K H M v (.str b)) : v = .str b := by cases h; rfl
theorem ab_and (ha : Abs K kt ta fa) (hb : Abs K kt tb fb) : Abs K kt (tAndV ta tb) fun env k R => fa env k fun d k1 => ∃ b, d = .bool b ∧ ((b = true → fb env k1 R) ∧ (b = false → R (.bool false) k1)) := fun F M σ H env k R Q D h q =>
  ha F M σ H env k _ _ D h fun v1 H1 d k1 p1 ⟨b, e, h1, h2⟩ => by
    subst e
    refine ⟨b, bool_of p1.dv, ?_⟩
    cases b with
    | true => exact hb F M σ H1 env k1 _ _ (D.grow p1.gr p1.fu) (h1 rfl) fun v2 H2 e k2 p2 h2 => q v2 H2 e k2 ⟨p2.dv, p1.gr.trans p2.gr, p2.fu⟩ h2
    | false => exact q _ H1 _ k1 ⟨.bl false, p1.gr, p1.fu⟩ (h2 rfl)
theorem ab_or (ha : Abs K kt ta fa) (hb : Abs K kt tb fb) : Abs K kt (tOrV ta tb) fun env k R => fa env k fun d k1 => ∃ b, d = .bool b ∧ ((b = true → R (.bool true) k1) ∧ (b = false → fb env k1 R)) := fun F M σ H env k R Q D h q =>
  ha F M σ H env k _ _ D h fun v1 H1 d k1 p1 ⟨b, e, h1, h2⟩ => by
    subst e
    refine ⟨b, bool_of p1.dv, ?_⟩
    cases b with
    | true => exact q _ H1 _ k1 ⟨.bl true, p1.gr, p1.fu⟩ (h1 rfl)
    | false => exact hb F M σ H1 env k1 _ _ (D.grow p1.gr p1.fu) (h2 rfl) fun v2 H2 e k2 p2 h2 => q v2 H2 e k2 ⟨p2.dv, p1.gr.trans p2.gr, p2.fu⟩ h2
theorem ab_not (ha : Abs K kt ta fa) : Abs K kt (tNotV ta) fun env k R => fa env k fun d k1 => ∃ b, d = .bool b ∧ R (.bool (!b)) k1 := fun F M σ H env k R Q D h q =>
  ha F M σ H env k _ _ D h fun v1 H1 d k1 p1 ⟨b, e, h1⟩ => by
    subst e
    exact ⟨b, bool_of p1.dv, q _ H1 _ k1 ⟨.bl _, p1.gr, p1.fu⟩ h1⟩
/-- a < b < c -/
theorem ab_chain {r r' : R2} {G G' : PyData → PyData → Option PyData} (ho : OpA K r G) (ho' : OpA K r' G') (ha : Abs K kt ta fa) (hb : Abs K kt tb fb) (hc : Abs K kt tc fc) :
    Abs K kt (tChain r r' ta tb tc) fun env k R => fa env k fun d k1 => fb env k1 fun e k2 => ∃ b, G d e = some (.bool b) ∧ ((b = true → fc env k2 fun g k3 => ∃ c, G' e g = some c ∧ R c k3) ∧ (b = false → R (.bool false) k2)) := fun F M σ H env k R Q D h q =>
  ha F M σ H env k _ _ D h fun v1 H1 d k1 p1 h1 => hb F M σ H1 env k1 _ _ (D.grow p1.gr p1.fu) h1 fun v2 H2 e k2 p2 ⟨b, hF, h2, h3⟩ => by
    have D1 := D.grow p1.gr p1.fu
    have D2 := D1.grow p2.gr p2.fu
    refine ho M H2 v1 v2 d e _ _ D2.tr (p1.dv.out (D1.out p2.gr)) p2.dv hF fun z H3 hz s => ⟨b, bool_of hz, ?_⟩
    have D3 := D2.same s
    have g3 : Gr F.pen H H3 := (p1.gr.trans p2.gr).trans (Gr.of_same s)
    cases b with
    | true =>
      refine hc F M σ H3 env k2 _ _ D3 (h2 rfl) fun v4 H4 g k4 p4 ⟨c, hc', h4⟩ => ?_
      refine ho' M H4 v2 v4 e g c Q (D3.grow p4.gr p4.fu).tr ((p2.dv.out (Out.of_same s)).out (D3.out p4.gr)) p4.dv hc' fun z H5 hz s5 => q z H5 c k4 ⟨hz, (g3.trans p4.gr).trans (Gr.of_same s5), fun a e => (p4.fu a e).same s5⟩ h4
    | false => exact q _ H3 _ k2 ⟨.bl false, g3, D3.fu⟩ (h3 rfl)
/-! ### tests -/
theorem at_test (h : Abs K kt te f) : AbsT K kt (tTest te) fun env k R => f env k fun d k1 => ∃ b, d = .bool b ∧ R b k1 := fun F M σ H env k R Q D hf q =>
  h F M σ H env k _ _ D hf fun v1 H1 d k1 p1 ⟨b, e, h1⟩ => by
    subst e
    exact ⟨b, bool_of p1.dv, q b H1 k1 p1.gr p1.fu h1⟩
theorem at_B (h : Abs K kt te f) : AbsT K kt (tB te) fun env k R => f env k fun d k1 => ∃ b, d = .bool b ∧ R b k1 := fun F M σ H env k R Q D hf q =>
  h F M σ H env k _ _ D hf fun v1 H1 d k1 p1 ⟨b, e, h1⟩ => by
    subst e
    exact ⟨b, bool_of p1.dv, q b H1 k1 p1.gr p1.fu h1⟩
variable {tt tu : TT} {ft fu : DTT}
theorem at_not (h : AbsT K kt tt ft) : AbsT K kt (tNot tt) fun env k R => ft env k fun b k1 => R (!b) k1 := fun F M σ H env k R Q D hf q =>
  h F M σ H env k _ _ D hf fun b H1 k1 g1 f1 h1 => q (!b) H1 k1 g1 f1 h1
theorem at_and (h1 : AbsT K kt tt ft) (h2 : AbsT K kt tu fu) : AbsT K kt (tAnd tt tu) fun env k R => ft env k fun b k1 => (b = true → fu env k1 R) ∧ (b = false → R false k1) := fun F M σ H env k R Q D hf q =>
  h1 F M σ H env k _ _ D hf fun b H1 k1 g1 f1 ⟨q1, q2⟩ => by
    cases b with
    | true => exact h2 F M σ H1 env k1 _ _ (D.grow g1 f1) (q1 rfl) fun b2 H2 k2 g2 f2 h => q b2 H2 k2 (g1.trans g2) f2 h
    | false => exact q false H1 k1 g1 f1 (q2 rfl)
theorem at_or (h1 : AbsT K kt tt ft) (h2 : AbsT K kt tu fu) : AbsT K kt (tOr tt tu) fun env k R => ft env k fun b k1 => (b = true → R true k1) ∧ (b = false → fu env k1 R) := fun F M σ H env k R Q D hf q =>
  h1 F M σ H env k _ _ D hf fun b H1 k1 g1 f1 ⟨q1, q2⟩ => by
    cases b with
    | true => exact q true H1 k1 g1 f1 (q1 rfl)
    | false => exact h2 F M σ H1 env k1 _ _ (D.grow g1 f1) (q2 rfl) fun b2 H2 k2 g2 f2 h => q b2 H2 k2 (g1.trans g2) f2 h
theorem ab_if (ht : AbsT K kt tt ft) (ha : Abs K kt ta fa) (hb : Abs K kt tb fb) : Abs K kt (tIf tt ta tb) fun env k R => ft env k fun b k1 => (b = true → fa env k1 R) ∧ (b = false → fb env k1 R) := fun F M σ H env k R Q D hf q =>
  ht F M σ H env k _ _ D hf fun b H1 k1 g1 f1 ⟨q1, q2⟩ => by
    cases b with
    | true => exact ha F M σ H1 env k1 _ _ (D.grow g1 f1) (q1 rfl) fun v2 H2 e k2 p2 h => q v2 H2 e k2 ⟨p2.dv, g1.trans p2.gr, p2.fu⟩ h
    | false => exact hb F M σ H1 env k1 _ _ (D.grow g1 f1) (q2 rfl) fun v2 H2 e k2 p2 h => q v2 H2 e k2 ⟨p2.dv, g1.trans p2.gr, p2.fu⟩ h
end
end SM

set_option Elab.async false
set_option linter.all false
set_option maxRecDepth 100000
set_option maxHeartbeats 4000000
namespace SM
open PySem PySem.Spec PyProof.Rows L2
variable [PW]

/-! ### operations by data -/
def fI (g : Int → Int → PyData) : PyData → PyData → Option PyData
  | .int i, .int j => some (g i j)
  | _, _ => none
def fIC (C : Int → Int → Bool) (g : Int → Int → PyData) : PyData → PyData → Option PyData
  | .int i, .int j => if C i j = true then some (g i j) else none
  | _, _ => none
def isNone : PyData → Bool
  | .none => true
  | _ => false
abbrev shal (d e : PyData) : Bool := d.plain && e.plain && (decide (d.depth ≤ 64) || decide (e.depth ≤ 64))
def eqF (d e : PyData) : Option PyData := if shal d e = true then some (.bool (PyData.eqv d e)) else none
def neF (d e : PyData) : Option PyData := if shal d e = true then some (.bool (!PyData.eqv d e)) else none
def ltF (d e : PyData) : Option PyData := if (shal d e && PySem.W.alike d e && !isNone d) = true then some (.bool (PySem.W.dataLt d e)) else none
def leF (d e : PyData) : Option PyData := if (shal d e && PySem.W.alike d e && !isNone d) = true then some (.bool (!PySem.W.dataLt e d)) else none
def isF (d e : PyData) : Option PyData := if isNone e = true then some (.bool (isNone d)) else none
def isnF (d e : PyData) : Option PyData := if isNone e = true then some (.bool (!isNone d)) else none
/-- x in xs -/
def inF (d e : PyData) : Option PyData := match e with
  | .list xs | .tuple xs => if (d.plain && PyData.plainAll xs && (decide (d.depth ≤ 60) || decide (PyData.depthAll xs ≤ 60))) = true then some (.bool (xs.any fun y => PyData.eqv y d)) else none
  | _ => none
def ninF (d e : PyData) : Option PyData := match e with
  | .list xs | .tuple xs => if (d.plain && PyData.plainAll xs && (decide (d.depth ≤ 60) || decide (PyData.depthAll xs ≤ 60))) = true then some (.bool (!xs.any fun y => PyData.eqv y d)) else none
  | _ => none
section
variable {K : PySem.W.Frag}
theorem oa_I0 {f : Int → Int → Int} : OpA K (rI0 fun i j => .int (f i j)) (fI fun i j => .int (f i j)) := fun M H x y d e c Q tr hx hy h q => by
  cases hx <;> first | (cases h; done) | skip
  cases hy <;> first | (cases h; done) | skip
  cases h
  exact ⟨_, _, rfl, rfl, q _ H (.int _) (Same.refl H)⟩
theorem oa_B0 {f : Int → Int → Bool} : OpA K (rI0 fun i j => .bl (f i j)) (fI fun i j => .bool (f i j)) := fun M H x y d e c Q tr hx hy h q => by
  cases hx <;> first | (cases h; done) | skip
  cases hy <;> first | (cases h; done) | skip
  cases h
  exact ⟨_, _, rfl, rfl, q _ H (.bl _) (Same.refl H)⟩
theorem oa_IC {C : Int → Int → Prop} {B : Int → Int → Bool} {f : Int → Int → Int} (hB : ∀ i j, B i j = true → C i j) : OpA K (rI C fun i j => .int (f i j)) (fIC B fun i j => .int (f i j)) := fun M H x y d e c Q tr hx hy h q => by
  cases hx <;> first | (cases h; done) | skip
  cases hy <;> first | (cases h; done) | skip
  rename_i i j
  by_cases hb : B i j = true
  · rw [fIC, if_pos hb] at h
    cases h
    exact ⟨_, _, rfl, rfl, hB _ _ hb, q _ H (.int _) (Same.refl H)⟩
  · rw [fIC, if_neg hb] at h
    cases h
theorem oa_isN : OpA K (fun x y H Q => y = .non ∧ Q (.bl (decide (x = .non))) H) isF := fun M H x y d e c Q tr hx hy h q => by
  unfold isF at h
  cases hy <;> first | (simp [isNone] at h; done) | skip
  rw [if_pos (show isNone PyData.none = true from rfl)] at h
  cases h
  refine ⟨rfl, ?_⟩
  have e : decide (x = V.non) = isNone d := by cases hx <;> rfl
  rw [e]
  exact q _ H (.bl _) (Same.refl H)
theorem oa_notN : OpA K (fun x y H Q => y = .non ∧ Q (.bl (!decide (x = .non))) H) isnF := fun M H x y d e c Q tr hx hy h q => by
  unfold isnF at h
  cases hy <;> first | (simp [isNone] at h; done) | skip
  rw [if_pos (show isNone PyData.none = true from rfl)] at h
  cases h
  refine ⟨rfl, ?_⟩
  have e : decide (x = V.non) = isNone d := by cases hx <;> rfl
  rw [e]
  exact q _ H (.bl _) (Same.refl H)
/-! comparisons of data at any depth -/
def rEqP (K : PySem.W.Frag) : R2 := fun x y H Q => ∃ d e, Dp K H x d ∧ Dp K H y e ∧ shal d e = true ∧ Q (.bl (PyData.eqv d e)) H
def rNeP (K : PySem.W.Frag) : R2 := fun x y H Q => ∃ d e, Dp K H x d ∧ Dp K H y e ∧ shal d e = true ∧ Q (.bl (!PyData.eqv d e)) H
def rLtP (K : PySem.W.Frag) : R2 := fun x y H Q => ∃ d e, Dp K H x d ∧ Dp K H y e ∧ shal d e = true ∧ PySem.W.alike d e = true ∧ isNone d = false ∧ Q (.bl (PySem.W.dataLt d e)) H
def rLeP (K : PySem.W.Frag) : R2 := fun x y H Q => ∃ d e, Dp K H x d ∧ Dp K H y e ∧ shal d e = true ∧ PySem.W.alike d e = true ∧ isNone d = false ∧ Q (.bl (!PySem.W.dataLt e d)) H
def rInP (K : PySem.W.Frag) (neg : Bool) : R2 := fun x y H Q => ∃ d xs, Dp K H x d ∧ (Dp K H y (.list xs) ∨ Dp K H y (.tuple xs)) ∧ d.plain = true ∧ PyData.plainAll xs = true ∧ (d.depth ≤ 60 ∨ PyData.depthAll xs ≤ 60) ∧
  Q (.bl (if neg = true then !xs.any fun y => PyData.eqv y d else xs.any fun y => PyData.eqv y d)) H
theorem shal_of {d e : PyData} (h : shal d e = true) : d.plain = true ∧ e.plain = true ∧ min d.depth e.depth ≤ 64 := by
  simp only [shal, Bool.and_eq_true, Bool.or_eq_true, decide_eq_true_eq] at h
  exact ⟨h.1.1, h.1.2, by omega⟩
section
variable {X : Cx}
theorem op_eqP (hu : X.A.units + 64 < cLine) : OpR X (compareOp .Eq) (rEqP X.K) := by
  intro pins s σ H x y v u Q I rx ry h
  obtain ⟨d, e, hd, he, sh, q⟩ := h
  obtain ⟨as, r1⟩ := Dp.reads I d x v hd rx
  obtain ⟨bs, r2⟩ := Dp.reads I e y u he ry
  obtain ⟨h1, h2, h3⟩ := shal_of sh
  exact SeqAt.eq_plain r1 r2 h1 h2 (by omega) ⟨.bl _, H, I, rfl, q⟩
theorem op_neP (hu : X.A.units + 64 < cLine) : OpR X (compareOp .NotEq) (rNeP X.K) := by
  intro pins s σ H x y v u Q I rx ry h
  obtain ⟨d, e, hd, he, sh, q⟩ := h
  obtain ⟨as, r1⟩ := Dp.reads I d x v hd rx
  obtain ⟨bs, r2⟩ := Dp.reads I e y u he ry
  obtain ⟨h1, h2, h3⟩ := shal_of sh
  exact SeqAt.ne_plain r1 r2 h1 h2 (by omega) ⟨.bl _, H, I, rfl, q⟩
theorem op_ltP (hu : X.A.units + 64 < cLine) : OpR X (compareOp .Lt) (rLtP X.K) := by
  intro pins s σ H x y v u Q I rx ry h
  obtain ⟨d, e, hd, he, sh, al, nn, q⟩ := h
  obtain ⟨as, r1⟩ := Dp.reads I d x v hd rx
  obtain ⟨bs, r2⟩ := Dp.reads I e y u he ry
  obtain ⟨h1, h2, h3⟩ := shal_of sh
  exact PySem.W.lt_data r1 r2 al (fun z => by rw [z] at nn; cases nn) (by omega) ⟨.bl _, H, I, rfl, q⟩
theorem op_leP (hu : X.A.units + 64 < cLine) : OpR X (compareOp .LtE) (rLeP X.K) := by
  intro pins s σ H x y v u Q I rx ry h
  obtain ⟨d, e, hd, he, sh, al, nn, q⟩ := h
  obtain ⟨as, r1⟩ := Dp.reads I d x v hd rx
  obtain ⟨bs, r2⟩ := Dp.reads I e y u he ry
  obtain ⟨h1, h2, h3⟩ := shal_of sh
  exact PySem.W.le_data r1 r2 al (fun z => by rw [z] at nn; cases nn) (by omega) ⟨.bl _, H, I, rfl, q⟩
theorem op_inP (hu : X.A.units + 64 < cLine) : OpR X (compareOp .In) (rInP X.K false) := by
  intro pins s σ H x y v u Q I rx ry h
  obtain ⟨d, xs, hd, he, h1, h2, h3, q⟩ := h
  obtain ⟨as, r1⟩ := Dp.reads I d x v hd rx
  rcases he with he | he
  · obtain ⟨bs, r2⟩ := Dp.reads I _ y u he ry
    exact SeqAt.in_list_data r2 r1 h2 h1 (by omega) ⟨.bl _, H, I, rfl, q⟩
  · obtain ⟨bs, r2⟩ := Dp.reads I _ y u he ry
    exact SeqAt.in_tuple_data r2 r1 h2 h1 (by omega) ⟨.bl _, H, I, rfl, q⟩
theorem op_ninP (hu : X.A.units + 64 < cLine) : OpR X (compareOp .NotIn) (rInP X.K true) := by
  intro pins s σ H x y v u Q I rx ry h
  obtain ⟨d, xs, hd, he, h1, h2, h3, q⟩ := h
  obtain ⟨as, r1⟩ := Dp.reads I d x v hd rx
  rcases he with he | he
  · obtain ⟨bs, r2⟩ := Dp.reads I _ y u he ry
    exact SeqAt.notIn_list_data r2 r1 h2 h1 (by omega) ⟨.bl _, H, I, rfl, q⟩
  · obtain ⟨bs, r2⟩ := Dp.reads I _ y u he ry
    exact SeqAt.notIn_tuple_data r2 r1 h2 h1 (by omega) ⟨.bl _, H, I, rfl, q⟩
end
theorem oa_eqP : OpA K (rEqP K) eqF := fun M H x y d e c Q tr hx hy h q => by
  unfold eqF at h
  by_cases sh : shal d e = true
  · rw [if_pos sh] at h
    cases h
    obtain ⟨h1, h2, _⟩ := shal_of sh
    exact ⟨d, e, hx.dp d h1, hy.dp e h2, sh, q _ H (.bl _) (Same.refl H)⟩
  · rw [if_neg sh] at h
    cases h
theorem oa_neP : OpA K (rNeP K) neF := fun M H x y d e c Q tr hx hy h q => by
  unfold neF at h
  by_cases sh : shal d e = true
  · rw [if_pos sh] at h
    cases h
    obtain ⟨h1, h2, _⟩ := shal_of sh
    exact ⟨d, e, hx.dp d h1, hy.dp e h2, sh, q _ H (.bl _) (Same.refl H)⟩
  · rw [if_neg sh] at h
    cases h
theorem oa_ltP : OpA K (rLtP K) ltF := fun M H x y d e c Q tr hx hy h q => by
  unfold ltF at h
  by_cases sh : (shal d e && PySem.W.alike d e && !isNone d) = true
  · rw [if_pos sh] at h
    cases h
    simp only [Bool.and_eq_true, Bool.not_eq_true'] at sh
    obtain ⟨⟨s1, s2⟩, s3⟩ := sh
    have s1' : shal d e = true := by simpa only [shal, Bool.and_eq_true] using s1
    obtain ⟨h1, h2, _⟩ := shal_of s1'
    exact ⟨d, e, hx.dp d h1, hy.dp e h2, s1', s2, s3, q _ H (.bl _) (Same.refl H)⟩
  · rw [if_neg sh] at h
    cases h
theorem oa_leP : OpA K (rLeP K) leF := fun M H x y d e c Q tr hx hy h q => by
  unfold leF at h
  by_cases sh : (shal d e && PySem.W.alike d e && !isNone d) = true
  · rw [if_pos sh] at h
    cases h
    simp only [Bool.and_eq_true, Bool.not_eq_true'] at sh
    obtain ⟨⟨s1, s2⟩, s3⟩ := sh
    have s1' : shal d e = true := by simpa only [shal, Bool.and_eq_true] using s1
    obtain ⟨h1, h2, _⟩ := shal_of s1'
    exact ⟨d, e, hx.dp d h1, hy.dp e h2, s1', s2, s3, q _ H (.bl _) (Same.refl H)⟩
  · rw [if_neg sh] at h
    cases h
theorem oa_inP : OpA K (rInP K false) inF := fun M H x y d e c Q tr hx hy h q => by
  unfold inF at h
  split at h
  all_goals first | (cases h; done) | skip
  all_goals
    rename_i xs
    by_cases sh : (d.plain && PyData.plainAll xs && (decide (d.depth ≤ 60) || decide (PyData.depthAll xs ≤ 60))) = true
    · rw [if_pos sh] at h
      cases h
      simp only [Bool.and_eq_true, Bool.or_eq_true, decide_eq_true_eq] at sh
      obtain ⟨⟨s1, s2⟩, s3⟩ := sh
      first
        | exact ⟨d, xs, hx.dp d s1, .inl (hy.dp _ (by simpa only [PyData.plain] using s2)), s1, s2, s3, q _ H (.bl _) (Same.refl H)⟩
        | exact ⟨d, xs, hx.dp d s1, .inr (hy.dp _ (by simpa only [PyData.plain] using s2)), s1, s2, s3, q _ H (.bl _) (Same.refl H)⟩
    · rw [if_neg sh] at h
      cases h
theorem oa_ninP : OpA K (rInP K true) ninF := fun M H x y d e c Q tr hx hy h q => by
  unfold ninF at h
  split at h
  all_goals first | (cases h; done) | skip
  all_goals
    rename_i xs
    by_cases sh : (d.plain && PyData.plainAll xs && (decide (d.depth ≤ 60) || decide (PyData.depthAll xs ≤ 60))) = true
    · rw [if_pos sh] at h
      cases h
      simp only [Bool.and_eq_true, Bool.or_eq_true, decide_eq_true_eq] at sh
      obtain ⟨⟨s1, s2⟩, s3⟩ := sh
      first
        | exact ⟨d, xs, hx.dp d s1, .inl (hy.dp _ (by simpa only [PyData.plain] using s2)), s1, s2, s3, q _ H (.bl _) (Same.refl H)⟩
        | exact ⟨d, xs, hx.dp d s1, .inr (hy.dp _ (by simpa only [PyData.plain] using s2)), s1, s2, s3, q _ H (.bl _) (Same.refl H)⟩
    · rw [if_neg sh] at h
      cases h
end
/-! ### built-in calls, indexes, slices -/
def CallA (r : List V → Hp → VK → Prop) (K : PySem.W.Frag) (G : List PyData → Option PyData) : Prop := ∀ (M : Mu) (H : Hp) (vs : List V) (ds : List PyData) (c : PyData) (Q : VK), (∀ p, p ∈ M → H p ≠ none) → DVs K H M vs ds → G ds = some c → (∀ z H', DV K H' M z c → Same H H' → Q z H') → r vs H Q
def lenD : PyData → Option PyData
  | .list xs | .tuple xs => some (.int xs.length)
  | .str x => some (.int x.length)
  | _ => none
def lenF : List PyData → Option PyData
  | [d] => lenD d
  | _ => none
def isInt : PyData → Bool
  | .int _ | .bool _ => true
  | _ => false
def isBool : PyData → Bool
  | .bool _ => true
  | _ => false
def isStr : PyData → Bool
  | .str _ => true
  | _ => false
def isTup : PyData → Bool
  | .tuple _ => true
  | _ => false
def isLst : PyData → Bool
  | .list _ => true
  | _ => false
def tyN : PyData → String
  | .none => "NoneType"
  | .bool _ => "bool"
  | .int _ => "int"
  | .str _ => "str"
  | .list _ => "list"
  | .tuple _ => "tuple"
  | .dict _ => "dict"
def atD : PyData → PyData → Option PyData
  | .list xs, .int i | .tuple xs, .int i => atI xs i
  | .str z, .int i => (atI z.cps.toList i).map fun c => .str ⟨#[c]⟩
  | _, _ => none
def isKey (d : PyData) : PyData × PyData → Bool
  | (.str x, _) => match d with | .str y => decide (x = y) | _ => false
  | (.int x, _) => match d with | .int y => decide (x = y) | _ => false
  | _ => false
def getD' : PyData → PyData → Option PyData
  | .dict ds, e => match e with
    | .str _ | .int _ => (ds.find? (isKey e)).map (·.2)
    | _ => none
  | _, _ => none
section
variable {K : PySem.W.Frag} {kt : Str} {ta tb te : TE} {fa fb f : DT} {tx : TA} {fx : DTA} {r : List V → Hp → VK → Prop} {G : List PyData → Option PyData}
theorem ab_callB (ho : CallA r K G) (hx : AbsA K kt tx fx) : Abs K kt (tCB r tx) fun env k R => fx env k fun ds k1 => ∃ c, G ds = some c ∧ R c k1 := fun F M σ H env k R Q D h q =>
  hx F M σ H env k _ _ D h fun vs H1 ds k1 a1 g1 f1 ⟨c, hc, h1⟩ => ho M H1 vs ds c Q (D.grow g1 f1).tr a1 hc fun z H2 hz s => q z H2 c k1 ⟨hz, g1.trans (Gr.of_same s), fun a e => (f1 a e).same s⟩ h1
theorem ca_len : CallA (fun xs H Q => ∃ x n, xs = [x] ∧ LenV K x H n ∧ Q (.int n) H) K lenF := fun M H vs ds c Q tr hv h q => by
  cases hv with
  | nil => cases h
  | cons hd ht =>
    cases ht with
    | cons _ _ => cases h
    | nil =>
      have h' : lenD _ = some c := h
      cases hd with
      | non => cases h'
      | bl b => cases h'
      | int i => cases h'
      | dct _ _ _ => cases h'
      | str x bd =>
        cases h'
        exact ⟨_, x.length, rfl, ⟨by rw [sizeLine_eq]; exact bd, rfl⟩, q _ H (.int _) (Same.refl H)⟩
      | lst n e a =>
        cases h'
        exact ⟨_, _, rfl, .inl ⟨_, SqL.of e, a.length.symm⟩, q _ H (.int _) (Same.refl H)⟩
      | tup n e a =>
        cases h'
        exact ⟨_, _, rfl, .inr ⟨_, SqT.of e, a.length.symm⟩, q _ H (.int _) (Same.refl H)⟩
theorem ty_of {M : Mu} {H : Hp} {v : V} : ∀ {d : PyData}, DV K H M v d → TyX K H v (.type (tyN d))
  | _, .non => .base .non
  | _, .bl b => .base (.bl b)
  | _, .int i => .base (.int i)
  | _, .str x _ => .base (.str x)
  | _, .lst _ e _ => .base (.lst e)
  | _, .tup _ e _ => .base (.tup e)
  | _, .dct _ e _ => .base (.dK e)
/-- isinstance(e, T) -/
theorem ab_isi {T : String} {p : PyData → Bool} (hp : ∀ d, kitB (tyN d) T = some (p d)) (ha : Abs K kt te f) : Abs K kt (tCB (rIsi K) (tCons te (tCons (tC (.ty T)) tNil))) fun env k R => f env k fun d k1 => R (.bool (p d)) k1 := fun F M σ H env k R Q D h q =>
  ha F M σ H env k _ _ D h fun v1 H1 d k1 p1 h1 => ⟨v1, .ty T, _, _, p d, rfl, .ty T, ty_of p1.dv, kit_ty (hp d), q _ H1 _ k1 ⟨.bl _, p1.gr, p1.fu⟩ h1⟩
theorem is_int : ∀ d : PyData, kitB (tyN d) "int" = some (isInt d)
  | .none => (show kitB "NoneType" "int" = some false by decide +kernel)
  | .bool _ => (show kitB "bool" "int" = some true by decide +kernel)
  | .int _ => (show kitB "int" "int" = some true by decide +kernel)
  | .str _ => (show kitB "str" "int" = some false by decide +kernel)
  | .list _ => (show kitB "list" "int" = some false by decide +kernel)
  | .tuple _ => (show kitB "tuple" "int" = some false by decide +kernel)
  | .dict _ => (show kitB "dict" "int" = some false by decide +kernel)
theorem is_bool : ∀ d : PyData, kitB (tyN d) "bool" = some (isBool d)
  | .none => (show kitB "NoneType" "bool" = some false by decide +kernel)
  | .bool _ => (show kitB "bool" "bool" = some true by decide +kernel)
  | .int _ => (show kitB "int" "bool" = some false by decide +kernel)
  | .str _ => (show kitB "str" "bool" = some false by decide +kernel)
  | .list _ => (show kitB "list" "bool" = some false by decide +kernel)
  | .tuple _ => (show kitB "tuple" "bool" = some false by decide +kernel)
  | .dict _ => (show kitB "dict" "bool" = some false by decide +kernel)
theorem is_str : ∀ d : PyData, kitB (tyN d) "str" = some (isStr d)
  | .none => (show kitB "NoneType" "str" = some false by decide +kernel)
  | .bool _ => (show kitB "bool" "str" = some false by decide +kernel)
  | .int _ => (show kitB "int" "str" = some false by decide +kernel)
  | .str _ => (show kitB "str" "str" = some true by decide +kernel)
  | .list _ => (show kitB "list" "str" = some false by decide +kernel)
  | .tuple _ => (show kitB "tuple" "str" = some false by decide +kernel)
  | .dict _ => (show kitB "dict" "str" = some false by decide +kernel)
theorem is_tup : ∀ d : PyData, kitB (tyN d) "tuple" = some (isTup d)
  | .none => (show kitB "NoneType" "tuple" = some false by decide +kernel)
  | .bool _ => (show kitB "bool" "tuple" = some false by decide +kernel)
  | .int _ => (show kitB "int" "tuple" = some false by decide +kernel)
  | .str _ => (show kitB "str" "tuple" = some false by decide +kernel)
  | .list _ => (show kitB "list" "tuple" = some false by decide +kernel)
  | .tuple _ => (show kitB "tuple" "tuple" = some true by decide +kernel)
  | .dict _ => (show kitB "dict" "tuple" = some false by decide +kernel)
theorem is_lst : ∀ d : PyData, kitB (tyN d) "list" = some (isLst d)
  | .none => (show kitB "NoneType" "list" = some false by decide +kernel)
  | .bool _ => (show kitB "bool" "list" = some false by decide +kernel)
  | .int _ => (show kitB "int" "list" = some false by decide +kernel)
  | .str _ => (show kitB "str" "list" = some false by decide +kernel)
  | .list _ => (show kitB "list" "list" = some true by decide +kernel)
  | .tuple _ => (show kitB "tuple" "list" = some false by decide +kernel)
  | .dict _ => (show kitB "dict" "list" = some false by decide +kernel)
theorem oa_ix : OpA K (rIx K) atD := fun M H x y d e c Q tr hx hy h q => by
  cases hy <;> first | (cases hx <;> cases h; done) | skip
  cases hx with
  | non => cases h
  | bl _ => cases h
  | int _ => cases h
  | dct _ _ _ => cases h
  | str z hz =>
    rename_i i0
    have h2 : ((atI z.cps.toList i0).map fun c => PyData.str ⟨#[c]⟩) = some c := h
    obtain ⟨c0, e, rfl⟩ := Option.map_eq_some_iff.mp h2
    exact .inr (.inr ⟨z, _, c0, rfl, rfl, by rw [sizeLine_eq]; exact hz, e, q _ H (.str _ (show 1 ≤ 16777216 by decide)) (Same.refl H)⟩)
  | lst n e a =>
    have h' : (ixN _ _).bind (fun j => _) = some c := h
    obtain ⟨j, hj, hg⟩ := Option.bind_eq_some_iff.mp h'
    obtain ⟨v, hv, dv⟩ := a.get hg
    exact .inl ⟨_, _, _, v, rfl, rfl, SqL.of e, Option.bind_eq_some_iff.mpr ⟨j, by rw [a.length]; exact hj, hv⟩, q _ H dv (Same.refl H)⟩
  | tup n e a =>
    have h' : (ixN _ _).bind (fun j => _) = some c := h
    obtain ⟨j, hj, hg⟩ := Option.bind_eq_some_iff.mp h'
    obtain ⟨v, hv, dv⟩ := a.get hg
    exact .inr (.inl ⟨_, _, _, v, rfl, rfl, SqT.of e, Option.bind_eq_some_iff.mpr ⟨j, by rw [a.length]; exact hj, hv⟩, q _ H dv (Same.refl H)⟩)
end
end SM

set_option Elab.async false
set_option linter.all false
set_option maxRecDepth 100000
set_option maxHeartbeats 4000000
namespace SM
open PySem PySem.Spec PyProof.Rows L2
variable [PW]
variable {xw : XK}

/-! ### what is new and held by nothing else -/
def AbsF (K : PySem.W.Frag) (kt : Str) (te : TE) (f : DT) : Prop := ∀ (F : Fr) (M : Mu) (σ : L2.St) (H : Hp) (env : List Sl) (k : Nat) (R : PyData → Nat → Prop) (Q : VK),
  Dat K kt F M σ H env k → f env k R → (∀ L H' d k', H L = none → OwnR K H' (L :: M) L d → tabS d = false → Gr F.pen H H' → (∀ a, F.pen = some a → Fuel kt H' a k') → R d k' → Q (.ref L) H') → te σ H Q
section
variable {K : PySem.W.Frag} {kt : Str} {F : Fr} {M M2 : Mu} {pen : Pen} {σ : L2.St} {H H' H2 : Hp} {env : List Sl} {k k' : Nat} {v : V} {d : PyData} {L : Addr} {te : TE} {f : DT} {tx : TA} {fx : DTA}
theorem own_lst {xs : List V} {ds : List PyData} (h : H L = some (.lst xs)) (a : DVs K H M xs ds) : OwnR K H M L (.list ds) := ⟨xs, h, a⟩
theorem own_dct {xs : List (Key × V)} {ds : List (PyData × PyData)} (h : H L = some (.dK xs)) (a : DKs K H M xs ds) : OwnR K H M L (.dict ds) := ⟨xs, h, a⟩
theorem Dat.fresh (D : Dat K kt F M σ H env k) (g : Gr F.pen H H') (fu : ∀ a, F.pen = some a → Fuel kt H' a k') {p : Addr} (h : H' p = none) : H p = none := by
  cases e : H p with
  | none => rfl
  | some o => exact absurd h (D.stay g fu (by rw [e]; exact fun z => by cases z))
theorem AbsF.ab (h : AbsF K kt te f) : Abs K kt te f := fun F M σ H env k R Q D hf q => h F M σ H env k R Q D hf fun L H' d k' hL r ht g fu hr =>
  q _ H' d k' ⟨(r.less fun b hb => List.mem_cons_of_mem _ hb).dv (D.new hL) ht, g, fu⟩ hr
theorem af_lst (hx : AbsA K kt tx fx) : AbsF K kt (tLst tx) fun env k R => fx env k fun ds k1 => ds.length ≤ 100000 ∧ R (.list ds) k1 := fun F M σ H env k R Q D h q =>
  hx F M σ H env k _ _ D h fun vs H1 ds k1 a1 g1 f1 ⟨hz, h1⟩ => ⟨by rw [a1.length]; exact Nat.le_trans hz (by decide), fun p hp => by
    have s : Same H1 (upd H1 p (.lst vs)) := fun b o e => by rw [upd_ne (ne_of_none e hp)]; exact e
    exact q p _ _ k1 (D.fresh g1 f1 hp) (own_lst upd_same (DVs.out (Out.of_same s) _ (DVs.more hp _ a1))) rfl (g1.trans (Gr.of_same s)) (fun a e => (f1 a e).same s) h1⟩
end

/-! ### statements -/
/-- an error of a class, with a field or without -/
structure Exn where
  cls : Addr
  val : Option (Str × PyData)
/-- an error that is under way: what its dict holds -/
def ExnR (K : PySem.W.Frag) (H : Hp) (M : Mu) (cls : Value) (dd : Option Addr) (x : Exn) : Prop := cls = .ref x.cls ∧ match x.val with
  | none => dd = none
  | some (f, c) => ∃ p v, dd = some p ∧ H p = some (.xd [(f, v)]) ∧ p ∉ M ∧ DV K H M v c
abbrev XNo : XK := fun _ _ _ => False
structure BE where
  nx : List Sl → Nat → Prop
  rt : PyData → Nat → Prop
  bk : List Sl → Nat → Prop := fun _ _ => False
  ct : List Sl → Nat → Prop := fun _ _ => False
  /-- something new is returned -/
  rn : PyData → Nat → Prop := fun _ _ => False
  /-- an error goes out -/
  xk : Exn → Nat → Prop := fun _ _ => False
structure EndsOk (xw : XK) (K : PySem.W.Frag) (kt : Str) (F : Fr) (B : BE) (D : Ends) : Prop where
  nx : ∀ M' σ' H' env' k', Dat K kt F M' σ' H' env' k' → B.nx env' k' → D.nx σ' H'
  rt : ∀ v H' d k', DV K H' F.M0 v d → OutT F.Mx F.H0 H' → (∀ a, F.pen = some a → Fuel kt H' a k') → B.rt d k' → D.rt v H'
  bk : ∀ M' σ' H' env' k', Dat K kt F M' σ' H' env' k' → B.bk env' k' → D.bk σ' H'
  ct : ∀ M' σ' H' env' k', Dat K kt F M' σ' H' env' k' → B.ct env' k' → D.ct σ' H'
  rn : ∀ M' L H' d k', L ∈ M' → L ∉ F.M0 → Ext F.Ms F.H0 M' → OwnR K H' (L :: F.M0) L d → tabS d = false → OutT F.Mx F.H0 H' → (∀ a, F.pen = some a → Fuel kt H' a k') → B.rn d k' → D.rt (.ref L) H'
  xk : ∀ cls dd H' x k', ExnR K H' F.M0 cls dd x → OutT F.Mx F.H0 H' → (∀ a, F.pen = some a → Fuel kt H' a k') → B.xk x k' → xw cls dd H'
abbrev DTS := BE → List Sl → Nat → Prop
def AbsS (xw : XK) (K : PySem.W.Frag) (kt : Str) (ts : TS) (g : DTS) : Prop := ∀ (F : Fr) (M : Mu) (σ : L2.St) (H : Hp) (env : List Sl) (k : Nat) (B : BE) (D : Ends), Dat K kt F M σ H env k → g B env k → EndsOk xw K kt F B D → ts D σ H
abbrev DTG := PyData → List Sl → Nat → (List Sl → Nat → Prop) → Prop
abbrev DTGs := List PyData → List Sl → Nat → (List Sl → Nat → Prop) → Prop
/-- a target that stores to slots of ws alone -/
def AbsG (K : PySem.W.Frag) (kt : Str) (ws : List Nat) (g : TG) (f : DTG) : Prop := ∀ (F : Fr) (M : Mu) (v : V) (d : PyData) (σ : L2.St) (H : Hp) (env : List Sl) (k : Nat) (R : List Sl → Nat → Prop) (Q : L2.St → Hp → Prop),
  Dat K kt F M σ H env k → DV K H M v d → f d env k R → (∀ σ' H' env' k', Dat K kt F M σ' H' env' k' → Same H H' → wipe σ' ws = wipe σ ws → R env' k' → Q σ' H') → g v σ H Q
def AbsGs (K : PySem.W.Frag) (kt : Str) (ws : List Nat) (g : TGs) (f : DTGs) : Prop := ∀ (F : Fr) (M : Mu) (vs : List V) (ds : List PyData) (σ : L2.St) (H : Hp) (env : List Sl) (k : Nat) (R : List Sl → Nat → Prop) (Q : L2.St → Hp → Prop),
  Dat K kt F M σ H env k → DVs K H M vs ds → f ds env k R → (∀ σ' H' env' k', Dat K kt F M σ' H' env' k' → Same H H' → wipe σ' ws = wipe σ ws → R env' k' → Q σ' H') → g vs σ H Q
theorem wipe_set {σ : L2.St} {x : Option V} {i : Nat} : ∀ {ws : List Nat}, i ∈ ws → wipe (σ.set i x) ws = wipe σ ws
  | [], h => by cases h
  | w :: ws, h => by
    unfold wipe
    by_cases hi : i ∈ ws
    · rw [wipe_set hi]
    · have e : i = w := (List.mem_cons.mp h).elim id fun z => absurd z hi
      subst e
      have key : ∀ (l : List Nat) (s : L2.St), i ∉ l → (wipe (s.set i x) l) = (wipe s l).set i x := by
        intro l
        induction l with
        | nil => intro s _; rfl
        | cons y l ih =>
          intro s hl
          unfold wipe
          rw [ih s (fun z => hl (List.mem_cons_of_mem _ z)), List.set_comm _ _ (fun z => hl (by rw [z]; exact List.mem_cons_self))]
      rw [key ws σ hi, List.set_set]
section
variable {K : PySem.W.Frag} {kt : Str} {te : TE} {f : DT} {t u : TS} {g1 g2 : DTS} {tt : TT} {ft : DTT} {ws : List Nat}
theorem as_nil : AbsS xw K kt tNext fun B env k => B.nx env k := fun F M σ H env k B D h g e => e.nx M σ H env k h g
theorem as_brk : AbsS xw K kt tBreak fun B env k => B.bk env k := fun F M σ H env k B D h g e => e.bk M σ H env k h g
theorem as_cnt : AbsS xw K kt tCont fun B env k => B.ct env k := fun F M σ H env k B D h g e => e.ct M σ H env k h g
theorem as_seq (h1 : AbsS xw K kt t g1) (h2 : AbsS xw K kt u g2) : AbsS xw K kt (tSeq t u) fun B env k => g1 { B with nx := fun e' k' => g2 B e' k' } env k := fun F M σ H env k B D h g e =>
  h1 F M σ H env k _ _ h g ⟨fun M' σ' H' env' k' d b => h2 F M' σ' H' env' k' B D d b e, e.rt, e.bk, e.ct, e.rn, e.xk⟩
/-- if that falls through: what holds behind it is named -/
theorem as_cut (h1 : AbsS xw K kt t g1) (h2 : AbsS xw K kt u g2) : AbsS xw K kt (C8.tCut t u) fun B env k => ∃ Mid : List Sl → Nat → Prop, g1 { B with nx := Mid } env k ∧ ∀ e' k', Mid e' k' → g2 B e' k' := fun F M σ H env k B D h ⟨Mid, g, gm⟩ e =>
  ⟨fun σ' H' => ∃ M' env' k', Dat K kt F M' σ' H' env' k' ∧ Mid env' k', h1 F M σ H env k _ _ h g ⟨fun M' σ' H' env' k' d b => ⟨M', env', k', d, b⟩, e.rt, e.bk, e.ct, e.rn, e.xk⟩, fun σ' H' ⟨M', env', k', d, b⟩ => h2 F M' σ' H' env' k' B D d (gm _ _ b) e⟩
/-- all that is own is data at a return -/
theorem as_ret (h : Abs K kt te f) : AbsS xw K kt (tRet te) fun B env k => f (env.map frzS) k fun d k1 => B.rt d k1 := fun F M σ H env k B D h1 g e => by
  have D1 := h1.frzAll
  exact h F F.M0 σ H _ k _ _ D1 g fun v H' d k' p r => e.rt v H' d k' p.dv (D1.grow p.gr p.fu).gr p.fu r
theorem Dat.none0 {F : Fr} {M : Mu} {σ : L2.St} {H : Hp} {env : List Sl} {k : Nat} (D : Dat K kt F M σ H env k) {L : Addr} (h : H L = none) : F.H0 L = none := by
  cases e : F.H0 L with
  | none => rfl
  | some o =>
    by_cases hx : L ∈ F.Mx
    · exact absurd h (D.tx L hx)
    · rw [D.gr.out L o hx e] at h
      cases h
/-- what is new is returned -/
theorem as_retF (h : AbsF K kt te f) : AbsS xw K kt (tRet te) fun B env k => f env k fun d k1 => B.rn d k1 := fun F M σ H env k B D h1 g e =>
  h F M σ H env k _ _ h1 g fun L H' d k' hL r ht gr fu hr => by
    have D1 := h1.grow gr fu
    have h0 := h1.none0 hL
    refine e.rn (L :: M) L H' d k' List.mem_cons_self (fun z => h1.tr L (h1.sub L z) hL) (fun p hp => ?_) (r.less fun b hb => ?_) ht D1.gr fu hr
    · rcases List.mem_cons.mp hp with z | z
      · exact .inr (by rw [z]; exact h0)
      · exact h1.ex p z
    · rcases List.mem_cons.mp hb with z | z
      · rw [z]; exact List.mem_cons_self
      · exact List.mem_cons_of_mem _ (h1.sub b z)
/-- an own list or dict is returned -/
theorem as_retOwn (i : Nat) : AbsS xw K kt (tRet (tVar i)) fun B env k => ∃ d, env[i]? = some (Sl.own d) ∧ tabS d = false ∧ B.rn d k := fun F M σ H env k B D h1 ⟨d, hi, ht, g⟩ e => by
  obtain ⟨L, hL, hM, h0, r⟩ := h1.ow i _ hi
  refine ⟨_, hL, e.rn M L H d k hM h0 h1.ex (r.less fun b hb => ?_) ht h1.gr h1.fu g⟩
  rcases List.mem_cons.mp hb with z | z
  · rw [z]; exact hM
  · exact h1.sub b z
theorem as_retN : AbsS xw K kt tRetN fun B env k => B.rt .none k := fun F M σ H env k B D h1 g e => e.rt .non H .none k .non h1.gr h1.fu g
theorem as_drop (h : Abs K kt te f) : AbsS xw K kt (tDrop te) fun B env k => f env k fun _ k1 => B.nx env k1 := fun F M σ H env k B D h1 g e => h F M σ H env k _ _ h1 g fun v H' d k' p r => e.nx M σ H' env k' (h1.grow p.gr p.fu) r
theorem as_if (ht : AbsT K kt tt ft) (h1 : AbsS xw K kt t g1) (h2 : AbsS xw K kt u g2) : AbsS xw K kt (tIfS tt t u) fun B env k => ft env k fun b k1 => (b = true → g1 B env k1) ∧ (b = false → g2 B env k1) := fun F M σ H env k B D h g e =>
  ht F M σ H env k _ _ h g fun b H1 k1 gr f1 ⟨q1, q2⟩ => by
    cases b with
    | true => exact h1 F M σ H1 env k1 B D (h.grow gr f1) (q1 rfl) e
    | false => exact h2 F M σ H1 env k1 B D (h.grow gr f1) (q2 rfl) e
/-- an own list or dict in slot i is a datum from here on -/
theorem as_frz (i : Nat) (h : AbsS xw K kt t g1) : AbsS xw K kt t fun B env k => ∃ d, env[i]? = some (Sl.own d) ∧ tabS d = false ∧ g1 B (env.set i (.dat d)) k := fun F M σ H env k B D h1 ⟨d, hi, ht, g⟩ e => by
  obtain ⟨M', D'⟩ := h1.frz ht hi
  exact h F M' σ H _ k B D D' g e
variable {tg : TG} {fg : DTG} {tgs : TGs} {fgs : DTGs}
theorem ag_name (i : Nat) (hi : i ∈ ws) : AbsG K kt ws (gName i) fun d env k R => R (env.set i (.dat d)) k := fun F M v d σ H env k R Q D dv h2 q =>
  q _ H _ k (D.set i dv) (Same.refl H) (wipe_set hi) h2
theorem ag_nil : AbsGs K kt ws gNil fun ds env k R => ds = [] ∧ R env k := fun F M vs ds σ H env k R Q D dv ⟨h1, h2⟩ q => by
  subst h1
  cases dv
  exact ⟨rfl, q σ H env k D (Same.refl H) rfl h2⟩
theorem ag_cons (h1 : AbsG K kt ws tg fg) (h2 : AbsGs K kt ws tgs fgs) : AbsGs K kt ws (gCons tg tgs) fun ds env k R => match ds with
    | d :: r => fg d env k fun env' k' => fgs r env' k' R
    | [] => False := fun F M vs ds σ H env k R Q D dv hf q => by
  cases ds with
  | nil => exact hf.elim
  | cons d r =>
    cases dv with
    | cons a b =>
      exact ⟨_, _, rfl, h1 F M _ d σ H env k _ _ D a hf fun σ' H' env' k' D' s w hr => h2 F M _ r σ' H' env' k' _ _ D' (DVs.out (Out.of_same s) _ b) hr fun σ2 H2 env2 k2 D2 s2 w2 hr2 => q σ2 H2 env2 k2 D2 (s.trans s2) (w2.trans w) hr2⟩
theorem ag_tup {n : Nat} (h : AbsGs K kt ws tgs fgs) : AbsG K kt ws (gTup K n tgs) fun d env k R => match d with
    | .tuple ds => ds.length = n ∧ fgs ds env k R
    | _ => False := fun F M v d σ H env k R Q D dv hf q => by
  cases dv <;> first | (exact hf.elim) | skip
  rename_i nm ea a
  obtain ⟨hn, hf⟩ := hf
  exact ⟨_, _, rfl, SqT.of ea, by rw [a.length, hn], h F M _ _ σ H env k R Q D a hf q⟩
theorem as_asg (h : Abs K kt te f) (hg : AbsG K kt ws tg fg) : AbsS xw K kt (tAsg te tg) fun B env k => f env k fun d k1 => fg d env k1 B.nx := fun F M σ H env k B D h1 g e =>
  h F M σ H env k _ _ h1 g fun v H' d k' p r => hg F M v d σ H' env k' _ _ (h1.grow p.gr p.fu) p.dv r fun σ2 H2 env2 k2 D2 s w hr => e.nx M σ2 H2 env2 k2 D2 hr
theorem as_set (i : Nat) (h : Abs K kt te f) : AbsS xw K kt (tAsg te (gName i)) fun B env k => f env k fun d k1 => B.nx (env.set i (.dat d)) k1 := as_asg h (ag_name (ws := [i]) i List.mem_cons_self)
/-- a new list or dict, that may change -/
theorem as_own (i : Nat) (h : AbsF K kt te f) : AbsS xw K kt (tAsg te (gName i)) fun B env k => f env k fun d k1 => B.nx (env.set i (.own d)) k1 := fun F M σ H env k B D h1 g e =>
  h F M σ H env k _ _ h1 g fun L H' d k' hL r _ gr fu hr => e.nx (L :: M) _ H' _ k' (h1.take hL gr fu r) hr
/-- a, b = x, y -/
theorem as_par {i j : Nat} {ta : TA} {fa : DTA} (h : AbsA K kt ta fa) : AbsS xw K kt (tPar i j ta) fun B env k => fa env k fun ds k1 => ∃ d e, ds = [d, e] ∧ B.nx ((env.set i (.dat d)).set j (.dat e)) k1 := fun F M σ H env k B D h1 g e =>
  h F M σ H env k _ _ h1 g fun vs H' ds k' a gr fu ⟨d, c, eq, r⟩ => by
    subst eq
    cases a with
    | cons a1 a2 =>
      cases a2 with
      | cons a2 a3 =>
        cases a3
        exact ⟨_, _, rfl, e.nx M _ H' _ k' (((h1.grow gr fu).set i a1).set j a2) r⟩
/-- x.append(e) -/
theorem as_app (i : Nat) (h : AbsA K kt (tCons te tNil) fx) : AbsS xw K kt (tDrop (tBM K "list" rAppend (tVar i) (tCons te tNil))) fun B env k => ∃ ds, env[i]? = some (Sl.own (.list ds)) ∧ fx env k fun es k1 => ∃ d, es = [d] ∧ ds.length < 100000 ∧ B.nx (env.set i (.own (.list (ds ++ [d])))) k1 := fun F M σ H env k B D h1 ⟨ds, hi, g⟩ e => by
  obtain ⟨L, hL, hM, h0, xs, hx, dx⟩ := h1.ow i _ hi
  refine ⟨.ref L, hL, .inl ⟨rfl, _, SqL.of hx⟩, ?_⟩
  refine h F M σ H env k _ _ h1 g fun vs H' es k' a gr fu ⟨d, eq, hz, r⟩ => ?_
  subst eq
  cases a with
  | cons a1 a2 =>
    cases a2
    have D1 := h1.grow gr fu
    have hx' : H' L = some (.lst xs) := by rw [h1.keep gr h0 hx, hx]
    have dx' := DVs.out (h1.out gr) _ dx
    refine ⟨L, xs, _, rfl, rfl, hx', ?_, ?_⟩
    · rw [dx.length]
      exact Nat.lt_of_lt_of_le hz (by decide)
    · refine e.nx M σ _ _ k' (D1.own hi hL fun u eL => own_lst eL (DVs.out u _ (dx'.append (.cons a1 .nil)))) r
end
end SM

set_option Elab.async false
set_option linter.all false
set_option maxRecDepth 100000
set_option maxHeartbeats 4000000
namespace SM
open PySem PySem.Spec PyProof.Rows L2
variable [PW]
variable {xw : XK}

/-! ### what is walked -/
structure Src (K : PySem.W.Frag) (M : Mu) (H : Hp) (J : It) (ds : List PyData) : Prop where
  ex : ∃ (n : Nat) (G : Hp → Prop) (Y : Nat → Hp → V → Hp → Prop), Walk J n G Y ∧ n = ds.length ∧ ∀ Mc M2, Ext M H Mc → Ext M H M2 → (∀ H', Out Mc H H' → G H') ∧
    ∀ i H2 x H3, i < n → Out Mc H H2 → (∀ p, p ∈ M2 → H2 p ≠ none) → Y i H2 x H3 → ∃ d, ds[i]? = some d ∧ DV K H3 M2 x d ∧ Same H2 H3
def AbsI (K : PySem.W.Frag) (kt : Str) (wi : TI) (f : DTA) : Prop := ∀ (F : Fr) (M : Mu) (σ : L2.St) (H : Hp) (env : List Sl) (k : Nat) (R : List PyData → Nat → Prop) (Q : It → Hp → Prop),
  Dat K kt F M σ H env k → f env k R → (∀ J H' ds k', Src K M H' J ds → Gr F.pen H H' → (∀ a, F.pen = some a → Fuel kt H' a k') → R ds k' → Q J H') → wi σ H Q
section
variable {K : PySem.W.Frag} {kt : Str} {te : TE} {f : DT} {t u : TS} {g1 g2 : DTS} {tt : TT} {ft : DTT} {ws : List Nat}
theorem Ext.app {M Mc M2 : Mu} {H : Hp} (a : Ext M H Mc) (b : Ext M H M2) : Ext M H (Mc ++ M2) := fun p h => (List.mem_append.mp h).elim (a p) (b p)
theorem DV.move {H H' : Hp} {M Mc M2 : Mu} (a : Ext M H Mc) (b : Ext M H M2) (o : Out Mc H H') {d : PyData} {v : V} (h : DV K H M v d) : DV K H' M2 v d :=
  DV.less (fun _ hb => List.mem_append_right _ hb) d (DV.out (M := Mc ++ M2) (fun b o' n e => o b o' (fun z => n (List.mem_append_left _ z)) e) d (DV.ext (a.app b) d h))
theorem ai_list (h : Abs K kt te f) : AbsI K kt (iList K te) fun env k R => f env k fun d k1 => ∃ ds, d = .list ds ∧ R ds k1 := fun F M σ H env k R Q D hf q =>
  h F M σ H env k _ _ D hf fun v H' d k' p ⟨ds, e, r⟩ => by
    subst e
    obtain ⟨dv, gr, fu⟩ := p
    cases dv with
    | @lst a xs _ nm ea al =>
      refine ⟨a, rfl, ⟨_, SqL.of ea⟩, q _ H' ds k' ⟨⟨xs.length, _, _, walk_list (K := K) (a := a) (xs := xs), al.length, fun Mc M2 xc x2 => ⟨fun H2 o => SqL.of (o _ _ (xc.no nm ea) ea), fun i H2 x H3 hi o tr y => ?_⟩⟩⟩ gr fu r⟩
      obtain ⟨rfl, hx⟩ := y
      obtain ⟨d, hd, dv⟩ := al.get' hx
      exact ⟨d, hd, DV.move xc x2 o dv, Same.refl _⟩
theorem ai_tup (h : Abs K kt te f) : AbsI K kt (iTup K te) fun env k R => f env k fun d k1 => ∃ ds, d = .tuple ds ∧ R ds k1 := fun F M σ H env k R Q D hf q =>
  h F M σ H env k _ _ D hf fun v H' d k' p ⟨ds, e, r⟩ => by
    subst e
    obtain ⟨dv, gr, fu⟩ := p
    cases dv with
    | @tup a xs _ nm ea al =>
      refine ⟨a, rfl, ⟨_, SqT.of ea⟩, q _ H' ds k' ⟨⟨xs.length, _, _, walk_tup (K := K) (a := a) (xs := xs), al.length, fun Mc M2 xc x2 => ⟨fun H2 o => SqT.of (o _ _ (xc.no nm ea) ea), fun i H2 x H3 hi o tr y => ?_⟩⟩⟩ gr fu r⟩
      obtain ⟨rfl, hx⟩ := y
      obtain ⟨d, hd, dv⟩ := al.get' hx
      exact ⟨d, hd, DV.move xc x2 o dv, Same.refl _⟩
theorem ai_str (h : Abs K kt te f) : AbsI K kt (iStr te) fun env k R => f env k fun d k1 => ∃ z, d = .str z ∧ R (z.cps.toList.map fun c => .str ⟨#[c]⟩) k1 := fun F M σ H env k R Q D hf q =>
  h F M σ H env k _ _ D hf fun v H' d k' p ⟨z, e, r⟩ => by
    subst e
    obtain ⟨dv, gr, fu⟩ := p
    cases dv with
    | str =>
      refine ⟨z, rfl, q _ H' _ k' ⟨⟨z.cps.size, _, _, walk_str, by rw [List.length_map, Array.length_toList], fun Mc M2 xc x2 => ⟨fun H2 o => True.intro, fun i H2 x H3 hi o tr y => ?_⟩⟩⟩ gr fu r⟩
      obtain ⟨rfl, c, hc, rfl⟩ := y
      exact ⟨.str ⟨#[c]⟩, by rw [List.getElem?_map, Array.getElem?_toList, hc]; rfl, .str _ (show 1 ≤ 16777216 by decide), Same.refl _⟩
theorem ai_range1 {tx : TA} {fx : DTA} (h : AbsA K kt tx fx) : AbsI K kt (iRng1 tx) fun env k R => fx env k fun as k1 => ∃ j : Int, as = [.int j] ∧ -(2 ^ 62) ≤ j ∧ j < 2 ^ 62 ∧ R ((List.range j.toNat).map fun i => .int (i : Nat)) k1 := fun F M σ H env k R Q D hf q =>
  h F M σ H env k _ _ D hf fun vs H' ds k' a gr fu ⟨j, e, h1, h2, r⟩ => by
    subst e
    cases a with
    | cons a1 a2 =>
      cases a2
      cases a1
      refine ⟨j, rfl, h1, h2, q _ H' _ k' ⟨⟨j.toNat, _, _, walk_range (lo := 0), by rw [List.length_map, List.length_range], fun Mc M2 xc x2 => ⟨fun H2 o => True.intro, fun i H2 x H3 hi o tr y => ?_⟩⟩⟩ gr fu r⟩
      obtain ⟨rfl, rfl⟩ := y
      refine ⟨.int i, by rw [List.getElem?_map, List.getElem?_range hi]; rfl, ?_, Same.refl _⟩
      show DV K _ M2 (.int (0 + (i : Nat))) (.int (i : Nat))
      rw [Int.zero_add]
      exact .int _
/-! ### for -/
variable {tg : TG} {fg : DTG} {tgs : TGs} {fgs : DTGs} {F : Fr} {M M' : Mu} {σ σ' : L2.St} {H H1 H' : Hp} {env env' : List Sl} {k k' : Nat}
/-- the frame of a loop -/
def Fr.loop (F : Fr) (M : Mu) (H : Hp) : Fr := ⟨F.M0, tbs ++ M.filter fun p => !decide (p ∈ F.M0) || decide (p ∈ F.Mx), M, H, F.pen, fun p hp => ⟨(F.tm p hp).1, List.mem_append_left _ hp⟩⟩
theorem Dat.ml (D : Dat K kt F M σ H1 env k) {p : Addr} : p ∈ (F.loop M H).Mx ↔ p ∈ M ∧ (p ∉ F.M0 ∨ p ∈ F.Mx) := by
  unfold Fr.loop
  simp only [List.mem_append, List.mem_filter, Bool.or_eq_true, Bool.not_eq_true', decide_eq_true_eq, decide_eq_false_iff_not]
  exact ⟨fun h => h.elim (fun z => ⟨D.sub p (F.tm p z).1, .inr (F.tm p z).2⟩) id, .inr⟩
theorem Dat.enter (D : Dat K kt F M σ H env k) : Dat K kt (F.loop M H) M σ H env k where
  len := D.len
  sl := D.sl
  pi := D.pi
  ow := D.ow
  dj := D.dj
  sub := D.sub
  tr := D.tr
  tx := fun p hp => D.tr p (D.ml.mp hp).1
  ex := Ext.refl
  sx := fun p hp => by
    by_cases h : p ∈ F.M0
    · exact .inl h
    · exact .inr (D.ml.mpr ⟨hp, .inl h⟩)
  pn := fun a e => ⟨(D.pn a e).1, (D.pn a e).2.1, D.ml.mpr ⟨D.sub _ (D.pn a e).1, .inr (D.pn a e).2.2.1⟩, (D.pn a e).2.2.2⟩
  gr := ⟨Out.refl, D.gr.lv⟩
  tb := D.tb
theorem Dat.gone (D : Dat K kt F M σ H env k) (o : OutT (F.loop M H).Mx H H') : OutT F.Mx F.H0 H' := by
  refine ⟨fun b x n e => ?_, o.lv⟩
  have h1 := D.gr.out b x n e
  refine o.out b x (fun z => ?_) h1
  obtain ⟨q1, q2⟩ := D.ml.mp z
  rcases D.ex b q1 with y | y
  · rcases D.sx b y with w | w
    · exact q2.elim (fun z => z w) n
    · exact n w
  · rw [y] at e
    cases e
theorem Dat.leave (D : Dat K kt F M σ H env k) (D' : Dat K kt (F.loop M H) M' σ' H' env' k') : Dat K kt F M' σ' H' env' k' where
  len := D'.len
  sl := D'.sl
  pi := D'.pi
  ow := D'.ow
  dj := D'.dj
  sub := D'.sub
  tr := D'.tr
  tx := fun p hp => by
    by_cases hx : p ∈ (F.loop M H).Mx
    · exact D'.tx p hx
    · cases e : H p with
      | none => exact absurd e (D.tx p hp)
      | some o =>
        rw [D'.gr.out p o hx e]
        exact fun z => by cases z
  ex := fun p hp => by
    rcases D'.ex p hp with y | y
    · exact D.ex p y
    · cases e : F.H0 p with
      | none => exact .inr rfl
      | some o =>
        by_cases hx : p ∈ F.Mx
        · exact absurd y (D.tx p hx)
        · have h1 := D.gr.out p o hx e
          have y' : H p = none := y
          rw [h1] at y'
          cases y'
  sx := D.sx
  pn := fun a e => ⟨(D.pn a e).1, (D.pn a e).2.1, (D.pn a e).2.2.1, (D'.pn a e).2.2.2⟩
  gr := D.gone D'.gr
  tb := D'.tb
theorem EndsOk.loop {B : BE} {D : Ends} (h : Dat K kt F M σ H env k) (e : EndsOk xw K kt F B D) : EndsOk xw K kt (F.loop M H) B D where
  nx := fun M' σ' H' env' k' d b => e.nx M' σ' H' env' k' (h.leave d) b
  rt := fun v H' d k' dv o fu b => e.rt v H' d k' dv (h.gone o) fu b
  bk := fun M' σ' H' env' k' d b => e.bk M' σ' H' env' k' (h.leave d) b
  ct := fun M' σ' H' env' k' d b => e.ct M' σ' H' env' k' (h.leave d) b
  rn := fun M' L H' d k' hM h0 x r ht o fu b => e.rn M' L H' d k' hM h0 (fun p hp => by
    rcases x p hp with y | y
    · exact h.ex p y
    · exact .inr (h.none0 y)) r ht (h.gone o) fu b
  xk := fun cls dd H' x k' r o fu b => e.xk cls dd H' x k' r (h.gone o) fu b
/-- the turns of a for -/
def forD (fg : DTG) (g : DTS) (B : BE) : List PyData → List Sl → Nat → Prop
  | [], env, k => B.nx env k
  | d :: r, env, k => fg d env k fun env' k' => g { nx := fun e n => forD fg g B r e n, ct := fun e n => forD fg g B r e n, bk := B.nx, rt := B.rt, rn := B.rn, xk := B.xk } env' k'
theorem as_for {wi : TI} {fi : DTA} {tb : TS} {g : DTS} (hi : AbsI K kt wi fi) (hg : AbsG K kt ws tg fg) (hb : AbsS xw K kt tb g) : AbsS xw K kt (tFor wi tg tb) fun B env k => fi env k fun ds k1 => forD fg g B ds env k1 := fun F M σ H env k B D h gg e => by
  refine hi F M σ H env k _ _ h gg fun J H1 ds k1 src gr fu r => ?_
  have D1 := h.grow gr fu
  have e1 := e.loop D1
  have DF := D1.enter
  obtain ⟨n, G, Y, wk, hn, hGY⟩ := src.ex
  have xc : Ext M H1 (F.loop M H1).Mx := fun p hp => .inl (D1.ml.mp hp).1
  refine for_it wk (fun i σ' H' => ∃ M' env' k', Dat K kt (F.loop M H1) M' σ' H' env' k' ∧ forD fg g B (ds.drop i) env' k') ⟨M, env, k1, DF, r⟩ ?_ ?_ ?_
  · rintro i σ' H' hin ⟨M', env', k', D', r'⟩
    exact (hGY _ M' xc D'.ex).1 H' D'.gr.out
  · rintro i x σ' H' H2 hin ⟨M', env', k', D', r'⟩ y
    obtain ⟨d, hd, dv, s⟩ := (hGY _ M' xc D'.ex).2 i H' x H2 hin D'.gr.out D'.tr y
    have hlt : i < ds.length := by omega
    have ed : ds.drop i = d :: ds.drop (i + 1) := by
      rw [List.drop_eq_getElem_cons hlt]
      congr 1
      rw [List.getElem?_eq_getElem hlt] at hd
      exact Option.some.inj hd
    rw [ed] at r'
    have D2 := D'.same s
    refine hg (F.loop M H1) M' x d σ' H2 env' k' _ _ D2 dv r' fun σ3 H3 env3 k3 D3 s3 w3 r3 => ?_
    exact hb (F.loop M H1) M' σ3 H3 env3 k3 _ _ D3 r3 ⟨fun M4 σ4 H4 env4 k4 D4 b => ⟨M4, env4, k4, D4, b⟩, e1.rt, fun M4 σ4 H4 env4 k4 D4 b => e1.nx M4 σ4 H4 env4 k4 D4 b, fun M4 σ4 H4 env4 k4 D4 b => ⟨M4, env4, k4, D4, b⟩, e1.rn, e1.xk⟩
  · rintro σ' H' ⟨M', env', k', D', r'⟩
    rw [List.drop_eq_nil_of_le (by omega)] at r'
    exact e1.nx M' σ' H' env' k' D' r'
/-- while: W says what holds ahead of each turn, and a number that falls -/
theorem as_while {tb : TS} {g : DTS} (ht : AbsT K kt tt ft) (hb : AbsS xw K kt tb g) : AbsS xw K kt (tWhile tt tb) fun B env k => ∃ W : Nat → List Sl → Nat → Prop, (∃ m, W m env k) ∧ ∀ m e n, W m e n →
    ft e n fun b n1 => (b = true → g { nx := fun e' n' => ∃ m', m' < m ∧ W m' e' n', ct := fun e' n' => ∃ m', m' < m ∧ W m' e' n', bk := B.nx, rt := B.rt, rn := B.rn, xk := B.xk } e n1) ∧ (b = false → B.nx e n1) := fun F M σ H env k B D h ⟨W, ⟨m, hm⟩, hW⟩ e => by
  refine ⟨fun m σ' H' => ∃ M' env' k', Dat K kt F M' σ' H' env' k' ∧ W m env' k', ⟨m, M, env, k, h, hm⟩, ?_⟩
  rintro m σ' H' ⟨M', env', k', D', w⟩
  refine ht F M' σ' H' env' k' _ _ D' (hW m env' k' w) fun b H1 k1 gr fu ⟨q1, q2⟩ => ?_
  cases b with
  | true =>
    refine ⟨fun σ2 H2 => ∃ m', m' < m ∧ ∃ M2 env2 k2, Dat K kt F M2 σ2 H2 env2 k2 ∧ W m' env2 k2, fun σ2 H2 h => h, ?_⟩
    exact hb F M' σ' H1 env' k1 _ _ (D'.grow gr fu) (q1 rfl) ⟨fun M2 σ2 H2 env2 k2 D2 ⟨m', hm, hw⟩ => ⟨m', hm, M2, env2, k2, D2, hw⟩, e.rt, e.nx, fun M2 σ2 H2 env2 k2 D2 ⟨m', hm, hw⟩ => ⟨m', hm, M2, env2, k2, D2, hw⟩, e.rn, e.xk⟩
  | false => exact e.nx M' σ' H1 env' k1 (D'.grow gr fu) (q2 rfl)
end
end SM

set_option Elab.async false
set_option linter.all false
set_option maxRecDepth 100000
set_option maxHeartbeats 4000000
namespace SM
open PySem PySem.Spec PyProof.Rows L2
variable [PW]
variable {xw : XK}

/-! ### comprehensions -/
theorem wipe_at (σ : L2.St) : ∀ (vs : List Nat) (i : Nat), (L2.wipe σ vs)[i]? = if i ∈ vs ∧ i < σ.length then some none else σ[i]?
  | [], i => by simp [L2.wipe]
  | v :: vs, i => by
    show ((L2.wipe σ vs).set v none)[i]? = _
    by_cases h : v = i
    · subst h
      by_cases hl : v < σ.length
      · rw [List.getElem?_set_self (by rw [wipe_length]; exact hl), if_pos ⟨List.mem_cons_self, hl⟩]
      · rw [List.getElem?_eq_none (by rw [List.length_set, wipe_length]; omega), if_neg (fun z => hl z.2), List.getElem?_eq_none (by omega)]
    · rw [List.getElem?_set_ne h, wipe_at σ vs i]
      have e : i ∈ v :: vs ↔ i ∈ vs := List.mem_cons.trans ⟨fun z => z.elim (fun q => absurd q.symm h) id, .inr⟩
      by_cases hb : i ∈ vs ∧ i < σ.length
      · rw [if_pos hb, if_pos ⟨e.mpr hb.1, hb.2⟩]
      · rw [if_neg hb, if_neg (fun z => hb ⟨e.mp z.1, z.2⟩)]
theorem wipe_wipe (σ : L2.St) (vs : List Nat) : L2.wipe (L2.wipe σ vs) vs = L2.wipe σ vs := by
  refine List.ext_getElem? fun i => ?_
  rw [wipe_at (L2.wipe σ vs), wipe_at σ, wipe_length]
  split <;> rfl
def wipeE (env : List Sl) : List Nat → List Sl
  | [] => env
  | v :: vs => (wipeE env vs).set v .no
def compD (fg : DTG) (ft : DTT) (fe : DT) (env0 : List Sl) : List PyData → List PyData → Nat → (PyData → Nat → Prop) → Prop
  | [], acc, k, R => R (.list acc) k
  | d :: r, acc, k, R => fg d env0 k fun env2 k2 => ft env2 k2 fun b k3 => (b = true → fe env2 k3 fun c k4 => compD fg ft fe env0 r (acc ++ [c]) k4 R) ∧ (b = false → compD fg ft fe env0 r acc k3 R)
section
variable {K : PySem.W.Frag} {kt : Str} {F : Fr} {M : Mu} {σ : L2.St} {H H' : Hp} {env : List Sl} {k : Nat}
theorem Dat.wipe (D : Dat K kt F M σ H env k) : ∀ vs : List Nat, Dat K kt F M (wipe σ vs) H (wipeE env vs) k
  | [] => D
  | v :: vs => (Dat.wipe D vs).forget v
theorem at_yes : AbsT K kt tYes fun _ k R => R true k := fun F M σ H env k R Q D h q => q true H k Gr.refl D.fu h
theorem af_lc {wi : TI} {fi : DTA} {g : TG} {fg : DTG} {tt : TT} {ft : DTT} {te : TE} {fe : DT} {vs : List Nat} (hi : AbsI K kt wi fi) (hg : AbsG K kt vs g fg) (ht : AbsT K kt tt ft) (he : Abs K kt te fe) :
    AbsF K kt (tLc wi g tt te vs) fun env k R => fi env k fun ds k1 => ds.length ≤ 100000 ∧ compD fg ft fe (wipeE env vs) ds [] k1 R := fun F M σ H env k R Q D h q => by
  refine hi F M σ H env k _ _ D h fun J H1 ds k1 src gr fu ⟨hz, r⟩ => ?_
  intro L hL
  have D1 := D.grow gr fu
  have hLM : L ∉ M := D1.new hL
  have hn : ∀ a, F.pen = some a → a.1 ≠ L ∧ a.2 ≠ L := fun a e => ⟨fun z => hLM (by rw [← z]; exact D1.sub _ (D1.pn a e).1), fun z => hLM (by rw [← z]; exact D1.sub _ (D1.pn a e).2.1)⟩
  obtain ⟨n, G, Y, wk, hlen, hGY⟩ := src.ex
  obtain ⟨hG, hY⟩ := hGY (L :: M) (L :: M) (Ext.cons hL) (Ext.cons hL)
  have ou : ∀ {H' : Hp}, Gr F.pen H1 H' → Out (L :: M) H1 H' := fun g b o nb e => D1.out g b o (fun z => nb (List.mem_cons_of_mem _ z)) e
  have s0 : Same H1 (upd H1 L (.lst [])) := fun b o e => by rw [upd_ne (ne_of_none e hL)]; exact e
  let F' : Fr := ⟨L :: F.M0, L :: M, L :: M, fun _ => none, F.pen, fun q hq => ⟨List.mem_cons_of_mem _ (F.tm q hq).1, List.mem_cons_of_mem _ (D1.sub _ (F.tm q hq).1)⟩⟩
  have Lp : ∀ {Ha Hb : Hp}, Gr F.pen Ha Hb → ∀ {o : HO}, Ha L = some o → Hb L = some o := fun g o e => g.st L _ (fun z => by
    obtain ⟨qq, e1, e2⟩ := Option.map_eq_some_iff.mp z.symm
    exact (hn qq e1).1 e2) (fun z => hLM (D1.sub _ (F.tm _ z).1)) e
  refine lc_it wk (fun i H' => ∃ k' xs acc, Dat K kt F' (L :: M) (L2.wipe σ vs) H' (wipeE env vs) k' ∧ Gr F.pen H1 H' ∧ H' L = some (.lst xs) ∧ DVs K H' (L :: M) xs acc ∧ acc.length ≤ i ∧ compD fg ft fe (wipeE env vs) (ds.drop i) acc k' R)
    ⟨k1, [], [], (D1.wipe vs).more hL, Gr.of_same s0, upd_same, .nil, Nat.le_refl _, r⟩ ?_ ?_ ?_
  · rintro i H' hin ⟨k', xs, acc, D', g', _⟩
    exact hG H' (ou g')
  · rintro i x H' H2 hin ⟨k', xs, acc, D', g', eL, da, hacc, r'⟩ y
    obtain ⟨d, hd, dv, s⟩ := hY i H' x H2 hin (ou g') D'.tr y
    have hlt : i < ds.length := by omega
    have ed : ds.drop i = d :: ds.drop (i + 1) := by
      rw [List.drop_eq_getElem_cons hlt]
      congr 1
      rw [List.getElem?_eq_getElem hlt] at hd
      exact Option.some.inj hd
    rw [ed] at r'
    have D2 := D'.same s
    refine hg F' (L :: M) x d _ H2 _ k' _ _ D2 dv r' fun σ3 H3 env3 k3 D3 s3 w3 r3 => ⟨?_, ?_⟩
    · rw [w3]
      exact wipe_wipe σ vs
    · refine ht F' (L :: M) σ3 H3 env3 k3 _ _ D3 r3 fun b H4 k4 g4 f4 ⟨q1, q2⟩ => ?_
      have D4 := D3.grow g4 f4
      have g14 : Gr F.pen H1 H4 := ((g'.trans (Gr.of_same s)).trans (Gr.of_same s3)).trans g4
      have gp : Gr F.pen H' H4 := ((Gr.of_same s).trans (Gr.of_same s3)).trans g4
      have Dw : ∀ {H'' : Hp} {k'' : Nat}, Gr F.pen H' H'' → (∀ a, F.pen = some a → Fuel kt H'' a k'') → Dat K kt F' (L :: M) (L2.wipe σ vs) H'' (wipeE env vs) k'' := fun g f => D'.grow g f
      cases b with
      | true =>
        show te σ3 H4 _
        refine he F' (L :: M) σ3 H4 env3 k4 _ _ D4 (q1 rfl) fun v H5 c k5 p5 r5 => ?_
        have gp5 : Gr F.pen H' H5 := gp.trans p5.gr
        have D5 := Dw gp5 p5.fu
        refine ⟨xs, Lp gp5 eL, ?_, k5, xs ++ [v], acc ++ [c], D5.mut List.mem_cons_self rfl hn (Lp gp5 eL) plain_lst, ?_, upd_same, ?_, ?_, r5⟩
        · rw [da.length]
          exact Nat.lt_of_le_of_lt (Nat.le_trans hacc (by omega)) (by decide : 100000 < sizeLine)
        · exact ⟨fun bb o nb nt e => by
            rw [upd_ne (ne_of_none e hL)]
            exact (g14.trans p5.gr).st bb o nb nt e, fun t => Tabs.upd (Lp gp5 eL) plain_lst ((g14.trans p5.gr).lv t)⟩
        · have da5 := DVs.out (D'.out gp5) _ da
          have u : Out (L :: M) H5 (upd H5 L (.lst (xs ++ [v]))) := fun bb o nb e => by rw [upd_ne (fun z => nb (by rw [z]; exact List.mem_cons_self))]; exact e
          exact DVs.out u _ (da5.append (.cons p5.dv .nil))
        · rw [List.length_append]
          exact Nat.succ_le_succ hacc
      | false =>
        show ∃ _, _
        have D5 := Dw gp f4
        exact ⟨k4, xs, acc, D5, g14, Lp gp eL, DVs.out (D'.out gp) _ da, Nat.le_succ_of_le hacc, q2 rfl⟩
  · rintro H' ⟨k', xs, acc, D', g', eL, da, hacc, r'⟩
    rw [List.drop_eq_nil_of_le (by omega)] at r'
    exact q L H' (.list acc) k' (D.fresh gr fu hL) (own_lst eL da) rfl (gr.trans g') D'.fu r'
end

/-! ### calls -/
/-- an argument: none for the dict of the numbers -/
abbrev Arg := Option PyData
inductive ArgR (K : PySem.W.Frag) (H : Hp) (M : Mu) (pen : Pen) : V → Arg → Prop
  | pen {a : Addr × Addr} : pen = some a → ArgR K H M pen (.ref a.1) none
  | dat {v : V} {d : PyData} : DV K H M v d → ArgR K H M pen v (some d)
inductive ArgsR (K : PySem.W.Frag) (H : Hp) (M : Mu) (pen : Pen) : List V → List Arg → Prop
  | nil : ArgsR K H M pen [] []
  | cons {v : V} {vs : List V} {p : Arg} {ps : List Arg} : ArgR K H M pen v p → ArgsR K H M pen vs ps → ArgsR K H M pen (v :: vs) (p :: ps)
theorem ArgsR.length {K : PySem.W.Frag} {H : Hp} {M : Mu} {pen : Pen} : ∀ {vs : List V} {ps : List Arg}, ArgsR K H M pen vs ps → vs.length = ps.length
  | _, _, .nil => rfl
  | _, _, .cons _ t => congrArg (· + 1) t.length
abbrev DTP := List Sl → Nat → (List Arg → Nat → Prop) → Prop
def AbsP (K : PySem.W.Frag) (kt : Str) (ta : TA) (f : DTP) : Prop := ∀ (F : Fr) (M : Mu) (σ : L2.St) (H : Hp) (env : List Sl) (k : Nat) (R : List Arg → Nat → Prop) (Q : List V → Hp → Prop),
  Dat K kt F M σ H env k → f env k R → (∀ vs H' ps k', ArgsR K H' M F.pen vs ps → Gr F.pen H H' → (∀ a, F.pen = some a → Fuel kt H' a k') → R ps k' → Q vs H') → ta σ H Q
abbrev SP := List Arg → Nat → (PyData → Nat → Prop) → Prop
/-- what a def promises, by data -/
def liftS (K : PySem.W.Frag) (kt : Str) (n : Nat) (S : SP) : Sp := fun vs H Q _ => ∃ (M : Mu) (pen : Pen) (ps : List Arg) (k : Nat) (R : PyData → Nat → Prop), Tr M H ∧ ArgsR K H M pen vs ps ∧ ps.length = n ∧
  (∀ a, pen = some a → a.1 ∈ M ∧ a.2 ∈ M ∧ Fuel kt H a k) ∧ S ps k R ∧ ∀ v H' d k', Post K kt M pen H H' v d k' → R d k' → Q v H'
section
variable {K : PySem.W.Frag} {kt : Str} {te : TE} {f : DT} {ta : TA} {fa : DTP}
theorem ap_nil : AbsP K kt tNil fun _ k R => R [] k := fun F M σ H env k R Q D h q => q [] H [] k .nil Gr.refl D.fu h
theorem ap_cons (ha : Abs K kt te f) (hr : AbsP K kt ta fa) : AbsP K kt (tCons te ta) fun env k R => f env k fun d k1 => fa env k1 fun ds k2 => R (some d :: ds) k2 := fun F M σ H env k R Q D h q =>
  ha F M σ H env k _ _ D h fun v1 H1 d k1 p1 h1 => hr F M σ H1 env k1 _ _ (D.grow p1.gr p1.fu) h1 fun vs H2 ds k2 a2 g2 f2 h2 => q _ H2 _ k2 (.cons (.dat (p1.dv.out ((D.grow p1.gr p1.fu).out g2))) a2) (p1.gr.trans g2) f2 h2
theorem ap_pen (i : Nat) (hr : AbsP K kt ta fa) : AbsP K kt (tCons (tVar i) ta) fun env k R => env[i]? = some Sl.pen ∧ fa env k fun ds k2 => R (none :: ds) k2 := fun F M σ H env k R Q D ⟨hi, h⟩ q => by
  obtain ⟨a, e, hv⟩ := D.pi i hi
  exact ⟨_, hv, hr F M σ H env k _ _ D h fun vs H2 ds k2 a2 g2 f2 h2 => q _ H2 _ k2 (.cons (.pen e) a2) g2 f2 h2⟩
theorem ab_call {n : Nat} {S : SP} {E : XK} (ha : AbsP K kt ta fa) : Abs K kt (tCall (liftS K kt n S) [] E ta) fun env k R => fa env k fun ps k1 => ps.length = n ∧ S ps k1 R := fun F M σ H env k R Q D h q =>
  ha F M σ H env k _ _ D h fun vs H1 ps k1 a1 g1 f1 ⟨hn, hs⟩ => by
    have D1 := D.grow g1 f1
    show liftS K kt n S (vs ++ []) H1 Q E
    rw [List.append_nil]
    exact ⟨M, F.pen, ps, k1, R, D1.trr, a1, hn, fun a e => ⟨D1.sub _ (D1.pn a e).1, D1.sub _ (D1.pn a e).2.1, f1 a e⟩, hs, fun v H' d k' p r => q v H' d k' ⟨p.dv, g1.trans p.gr, p.fu⟩ r⟩
def slA : Arg → Sl
  | none => .pen
  | some d => .dat d
def env0 (N : List Str) (ps : List Arg) : List Sl := ps.map slA ++ List.replicate (N.length - ps.length) .no
theorem ArgsR.get {H : Hp} {M : Mu} {pen : Pen} : ∀ {vs : List V} {ps : List Arg}, ArgsR K H M pen vs ps → ∀ {i : Nat} {p : Arg}, ps[i]? = some p → ∃ v, vs[i]? = some v ∧ ArgR K H M pen v p
  | _, _, .nil, i, p, h => by simp at h
  | _, _, .cons r t, 0, p, h => by
    cases (show some _ = some _ from h)
    exact ⟨_, rfl, r⟩
  | _, _, .cons r t, i + 1, p, h => t.get (i := i) h
/-- the frame of a def -/
def Fr.start (M : Mu) (pen : Pen) (H : Hp) (tr : Tr M H) : Fr := ⟨M, (pen.map (·.1)).toList ++ tbs, M, H, pen, fun p hp => ⟨tr.ts p hp, List.mem_append_right _ hp⟩⟩
/-- at a def's entry -/
theorem Dat.begin {N : List Str} {M : Mu} {pen : Pen} {H : Hp} {vs : List V} {ps : List Arg} {k : Nat} (tr : Tr M H) (a : ArgsR K H M pen vs ps) (hp : ∀ a, pen = some a → a.1 ∈ M ∧ a.2 ∈ M ∧ Fuel kt H a k) :
    Dat K kt (Fr.start M pen H tr) M (start N vs) H (env0 N ps) k := by
  have hl := a.length
  have key : ∀ {i : Nat} {s : Sl}, (env0 N ps)[i]? = some s → s = .no ∨ ∃ p v, s = slA p ∧ (start N vs)[i]? = some (some v) ∧ ArgR K H M pen v p := fun {i s} h => by
    unfold env0 at h
    by_cases hi : i < ps.length
    · rw [List.getElem?_append_left (by rw [List.length_map]; exact hi), List.getElem?_map] at h
      obtain ⟨p, h1, h2⟩ := Option.map_eq_some_iff.mp h
      obtain ⟨v, h3, h4⟩ := a.get h1
      refine .inr ⟨p, v, h2.symm, ?_, h4⟩
      unfold L2.start
      rw [List.getElem?_append_left (by rw [List.length_map, hl]; exact hi), List.getElem?_map, h3] <;> rfl
    · rw [List.getElem?_append_right (by rw [List.length_map]; omega)] at h
      have := List.mem_of_getElem? h
      exact .inl (List.eq_of_mem_replicate this)
  have pm : ∀ {p : Addr}, p ∈ (pen.map (·.1)).toList → ∃ a, pen = some a ∧ a.1 = p := fun {p} h => by
    rw [Option.mem_toList] at h
    exact Option.map_eq_some_iff.mp h
  refine ⟨by unfold L2.start env0; rw [List.length_append, List.length_append, List.length_map, List.length_map, List.length_replicate, List.length_replicate, hl], fun i d h => ?_, fun i h => ?_, fun i d h => ?_, fun i j d e h => ?_, fun p hp => hp, tr.at_, fun p h => ?_, fun p h => .inl h, fun p h => .inl h, fun q e => ⟨(hp q e).1, (hp q e).2.1, by cases (show pen = some q from e); exact List.mem_append_left _ List.mem_cons_self, (hp q e).2.2⟩, ⟨Out.refl, tr.lv⟩, fun i ds h => ?_⟩
  · rcases key h with z | ⟨p, v, z, hv, r⟩
    · cases z
    · cases p with
      | none => cases z
      | some c =>
        cases z
        cases r with
        | dat r => exact ⟨v, hv, r⟩
  · rcases key h with z | ⟨p, v, z, hv, r⟩
    · cases z
    · cases p with
      | some c => cases z
      | none =>
        cases r with
        | pen e => exact ⟨_, e, hv⟩
  · rcases key h with z | ⟨p, v, z, hv, r⟩
    · cases z
    · cases p <;> cases z
  · rcases key h with z | ⟨p, v, z, hv, r⟩
    · cases z
    · cases p <;> cases z
  · rcases List.mem_append.mp h with h | h
    · obtain ⟨q, e, z⟩ := pm h
      rw [← z]
      exact (hp q e).2.2.ne
    · exact tr.at_ p (tr.ts p h)
  · rcases key h with z | ⟨p, v, z, hv, r⟩
    · cases z
    · cases p <;> cases z
/-- what went on in a def -/
theorem OutT.gr {M : Mu} {pen : Pen} {H H' : Hp} {tr : Tr M H} (o : OutT (Fr.start M pen H tr).Mx (Fr.start M pen H tr).H0 H') : Gr pen H H' :=
  ⟨fun b x n m e => o.out b x (fun z => (List.mem_append.mp z).elim (fun z => n (Option.mem_toList.mp z).symm) m) e, fun _ => o.lv⟩
/-- what a body must do: less may be left of the numbers -/
def bodyB (R : PyData → Nat → Prop) : BE := { nx := fun _ k => ∃ k', k' ≤ k ∧ R .none k', rt := fun d k => ∃ k', k' ≤ k ∧ R d k' }
theorem body_ok {ts : TS} {g : DTS} {N : List Str} {n : Nat} {S : SP} {vs : List V} {H : Hp} {Q : VK} {E : XK} (h : AbsS xw K kt ts g) (hs : ∀ ps k R, ps.length = n → S ps k R → g (bodyB R) (env0 N ps) k) (l : liftS K kt n S vs H Q E) : ts { nx := fun _ H' => Q .non H', rt := Q } (start N vs) H := by
  obtain ⟨M, pen, ps, k, R, tr, a, hn, hp, hS, q⟩ := l
  refine h _ M _ H _ k (bodyB R) _ (Dat.begin tr a hp) (hs ps k R hn hS) ⟨fun M' σ' H' env' k' D ⟨k2, hk, r⟩ => ?_, fun v H' d k' dv o fu ⟨k2, hk, r⟩ => ?_, fun _ _ _ _ _ _ h => h.elim, fun _ _ _ _ _ _ h => h.elim, fun _ _ _ _ _ _ _ _ _ _ _ _ h => h.elim, fun _ _ _ _ _ _ _ _ h => h.elim⟩
  · exact q .non H' .none k2 ⟨.non, D.gr.gr, fun a e => (D.fu a e).le hk⟩ r
  · exact q v H' d k2 ⟨dv, o.gr, fun a e => (fu a e).le hk⟩ r
/-- a def that returns something new -/
def liftN (K : PySem.W.Frag) (kt : Str) (n : Nat) (S : SP) : Sp := fun vs H Q _ => ∃ (M : Mu) (pen : Pen) (ps : List Arg) (k : Nat) (R : PyData → Nat → Prop), Tr M H ∧ ArgsR K H M pen vs ps ∧ ps.length = n ∧
  (∀ a, pen = some a → a.1 ∈ M ∧ a.2 ∈ M ∧ Fuel kt H a k) ∧ S ps k R ∧ ∀ L H' d k', H L = none → OwnR K H' (L :: M) L d → tabS d = false → Gr pen H H' → (∀ a, pen = some a → Fuel kt H' a k') → R d k' → Q (.ref L) H'
theorem af_call {n : Nat} {S : SP} {E : XK} (ha : AbsP K kt ta fa) : AbsF K kt (tCall (liftN K kt n S) [] E ta) fun env k R => fa env k fun ps k1 => ps.length = n ∧ S ps k1 R := fun F M σ H env k R Q D h q =>
  ha F M σ H env k _ _ D h fun vs H1 ps k1 a1 g1 f1 ⟨hn, hs⟩ => by
    have D1 := D.grow g1 f1
    show liftN K kt n S (vs ++ []) H1 Q E
    rw [List.append_nil]
    exact ⟨M, F.pen, ps, k1, R, D1.trr, a1, hn, fun a e => ⟨D1.sub _ (D1.pn a e).1, D1.sub _ (D1.pn a e).2.1, f1 a e⟩, hs, fun L H' d k' hL r ht gr fu hr => q L H' d k' (D.fresh g1 f1 hL) r ht (g1.trans gr) fu hr⟩
def bodyN (R : PyData → Nat → Prop) : BE := { nx := fun _ _ => False, rt := fun _ _ => False, rn := fun d k => ∃ k', k' ≤ k ∧ R d k' }
theorem body_okN {ts : TS} {g : DTS} {N : List Str} {n : Nat} {S : SP} {vs : List V} {H : Hp} {Q : VK} {E : XK} (h : AbsS xw K kt ts g) (hs : ∀ ps k R, ps.length = n → S ps k R → g (bodyN R) (env0 N ps) k) (l : liftN K kt n S vs H Q E) : ts { nx := fun _ H' => Q .non H', rt := Q } (start N vs) H := by
  obtain ⟨M, pen, ps, k, R, tr, a, hn, hp, hS, q⟩ := l
  refine h _ M _ H _ k (bodyN R) _ (Dat.begin tr a hp) (hs ps k R hn hS) ⟨fun _ _ _ _ _ _ h => h.elim, fun _ _ _ _ _ _ _ h => h.elim, fun _ _ _ _ _ _ h => h.elim, fun _ _ _ _ _ _ h => h.elim, fun M' L H' d k' hM h0 x r ht o fu ⟨k2, hk, hr⟩ => ?_, fun _ _ _ _ _ _ _ _ h => h.elim⟩
  refine q L H' d k2 ((x L hM).elim (fun z => absurd z h0) id) r ht o.gr (fun a e => (fu a e).le hk) hr
end
end SM

set_option Elab.async false
set_option linter.all false
set_option maxRecDepth 100000
set_option maxHeartbeats 4000000
namespace SM
open PySem PySem.Spec PyProof.Rows L2
variable [PW]

/-! ### more operations -/
def OpF (K : PySem.W.Frag) (r : R2) (G : PyData → PyData → Option PyData) : Prop := ∀ (M : Mu) (H : Hp) (x y : V) (d e c : PyData) (Q : VK), (∀ p, p ∈ M → H p ≠ none) → DV K H M x d → DV K H M y e → G d e = some c →
  (∀ L H', H L = none → OwnR K H' (L :: M) L c → tabS c = false → Same H H' → Q (.ref L) H') → r x y H Q
def mulB (i j : Int) : Bool := (decide (-(2 ^ 64) < i) && decide (i < 2 ^ 64)) || (decide (-(2 ^ 64) < j) && decide (j < 2 ^ 64))
def mulF := fIC mulB fun i j => .int (i * j)
def modF := fIC (fun _ j => decide (0 < j)) fun i j => .int (i % j)
def divF := fIC (fun _ j => decide (0 < j) && decide (j < 1073741824)) fun i j => .int (i / j)
def powF := fIC (fun i j => decide (0 ≤ j) && decide (j ≤ 1000000) && decide (i.natAbs < 2 ^ 64)) fun i j => .int (i ^ j.toNat)
def addF := fI fun i j => .int (i + j)
def subF := fI fun i j => .int (i - j)
def liF := fI fun i j => .bool (decide (i < j))
def leiF := fI fun i j => .bool (decide (i ≤ j))
def giF := fI fun i j => .bool (decide (j < i))
def geiF := fI fun i j => .bool (decide (j ≤ i))
def strAddF : PyData → PyData → Option PyData
  | .str x, .str y => if x.length + y.length ≤ 16777216 then some (.str (x ++ y)) else none
  | _, _ => none
def catF : PyData → PyData → Option PyData
  | .list xs, .list ys => if xs.length + ys.length ≤ 100000 then some (.list (xs ++ ys)) else none
  | _, _ => none
def catTF : PyData → PyData → Option PyData
  | .tuple xs, .tuple ys => if xs.length + ys.length ≤ 100000 then some (.tuple (xs ++ ys)) else none
  | _, _ => none
def cutD (xs : List PyData) (lo hi : Option Int) : List PyData := (xs.drop (HT.sIx xs.length 0 lo)).take (HT.sIx xs.length xs.length hi - HT.sIx xs.length 0 lo)
def slTF : PyData → Option Int → Option Int → Option PyData
  | .tuple xs, lo, hi => some (.tuple (cutD xs lo hi))
  | _, _, _ => none
def slLF : PyData → Option Int → Option Int → Option PyData
  | .list xs, lo, hi => some (.list (cutD xs lo hi))
  | _, _, _ => none
def slSF : PyData → Option Int → Option Int → Option PyData
  | .str z, lo, hi => some (.str (cutS z lo hi))
  | _, _, _ => none
def listF : List PyData → Option PyData
  | [.list xs] | [.tuple xs] => some (.list xs)
  | _ => none
def tupleF : List PyData → Option PyData
  | [.list xs] | [.tuple xs] => some (.tuple xs)
  | _ => none
def absF : List PyData → Option PyData
  | [.int i] => some (.int (if i < 0 then -i else i))
  | _ => none
def negF : PyData → Option PyData
  | .int i => some (.int (-i))
  | _ => none
section
variable {K : PySem.W.Frag} {kt : Str} {ta tb te : TE} {fa fb f : DT} {tx : TA} {fx : DTA} {r : R2} {G : PyData → PyData → Option PyData}
theorem af_op (ho : OpF K r G) (ha : Abs K kt ta fa) (hb : Abs K kt tb fb) : AbsF K kt (tOp r ta tb) fun env k R => fa env k fun d k1 => fb env k1 fun e k2 => ∃ c, G d e = some c ∧ R c k2 := fun F M σ H env k R Q D h q =>
  ha F M σ H env k _ _ D h fun v1 H1 d k1 p1 h1 => hb F M σ H1 env k1 _ _ (D.grow p1.gr p1.fu) h1 fun v2 H2 e k2 p2 ⟨c, hc, h2⟩ =>
    ho M H2 v1 v2 d e c Q ((D.grow p1.gr p1.fu).grow p2.gr p2.fu).tr (p1.dv.out ((D.grow p1.gr p1.fu).out p2.gr)) p2.dv hc fun L H3 hL hz ht s => q L H3 c k2 (D.fresh (p1.gr.trans p2.gr) p2.fu hL) hz ht ((p1.gr.trans p2.gr).trans (Gr.of_same s)) (fun a e => (p2.fu a e).same s) h2
theorem oa_mul : OpA K (rI CMul fun i j => .int (i * j)) mulF := oa_IC fun i j h => by
  simp only [mulB, Bool.or_eq_true, Bool.and_eq_true, decide_eq_true_eq] at h
  exact h
theorem oa_mod : OpA K (rI (fun _ j => 0 < j) fun i j => .int (i % j)) modF := oa_IC fun i j h => by simpa using h
theorem oa_div : OpA K (rI CDiv fun i j => .int (i / j)) divF := oa_IC fun i j h => by simpa [CDiv] using h
theorem oa_pow : OpA K (rI CPow fun i j => .int (i ^ j.toNat)) powF := oa_IC fun i j h => by
  simp only [Bool.and_eq_true, decide_eq_true_eq] at h
  exact ⟨h.1.1, h.1.2, h.2⟩
theorem oa_add : OpA K (rI0 fun i j => .int (i + j)) addF := oa_I0
theorem oa_sub : OpA K (rI0 fun i j => .int (i - j)) subF := oa_I0
theorem oa_li : OpA K (rI0 fun i j => .bl (decide (i < j))) liF := oa_B0
theorem oa_lei : OpA K (rI0 fun i j => .bl (decide (i ≤ j))) leiF := oa_B0
theorem oa_gi : OpA K (rI0 fun i j => .bl (decide (j < i))) giF := oa_B0
theorem oa_gei : OpA K (rI0 fun i j => .bl (decide (j ≤ i))) geiF := oa_B0
theorem add_length (x y : Str) : (x ++ y).length = x.length + y.length := by
  show (x.cps ++ y.cps).size = x.cps.size + y.cps.size
  rw [Array.size_append]
theorem oa_strAdd : OpA K (fun x y H Q => ∃ i j, x = .str i ∧ y = .str j ∧ i.length + j.length ≤ sizeLine ∧ Q (.str (i ++ j)) H) strAddF := fun M H x y d e c Q tr hx hy h q => by
  unfold strAddF at h
  split at h
  · rename_i i j
    by_cases hz : i.length + j.length ≤ 16777216
    · rw [if_pos hz] at h
      cases h
      cases hx
      cases hy
      refine ⟨_, _, rfl, rfl, by rw [sizeLine_eq]; exact hz, q _ H (.str _ ?_) (Same.refl H)⟩
      rw [add_length]
      exact hz
    · rw [if_neg hz] at h
      cases h
  · cases h
theorem same_upd {H : Hp} {p : Addr} {o : HO} (hp : H p = none) : Same H (upd H p o) := fun b x e => by rw [upd_ne (ne_of_none e hp)]; exact e
theorem le_line {n : Nat} (h : n ≤ 100000) : n ≤ sizeLine := Nat.le_trans h (by decide)
theorem of_cat : OpF K rCat catF := fun M H x y d e c Q tr hx hy h q => by
  unfold catF at h
  split at h
  · rename_i xs ys
    by_cases hz : xs.length + ys.length ≤ 100000
    · rw [if_pos hz] at h
      cases h
      cases hx with
      | lst n1 e1 a1 =>
        cases hy with
        | lst n2 e2 a2 =>
          refine ⟨_, _, _, _, rfl, rfl, e1, e2, by rw [a1.length, a2.length]; exact le_line hz, fun p hp => q p _ hp (own_lst upd_same ?_) rfl (same_upd hp)⟩
          exact DVs.out (Out.of_same (same_upd hp)) _ (DVs.more hp _ (a1.append a2))
    · rw [if_neg hz] at h
      cases h
  · cases h
theorem oa_catT : OpA K (rCatA K) catTF := fun M H x y d e c Q tr hx hy h q => by
  unfold catTF at h
  split at h
  · rename_i xs ys
    by_cases hz : xs.length + ys.length ≤ 100000
    · rw [if_pos hz] at h
      cases h
      cases hx with
      | @tup a1' vs1 _ n1 e1 a1 =>
        cases hy with
        | @tup a2' vs2 _ n2 e2 a2 =>
          refine ⟨_, _, _, _, rfl, rfl, SqT.of e1, SqT.of e2, by rw [a1.length, a2.length]; exact le_line hz, fun z => ?_, fun z1 z2 => ?_, fun _ _ p hp => ?_⟩
          · subst z
            cases a1
            exact q _ H (.tup n2 e2 a2) (Same.refl H)
          · subst z2
            cases a2
            rw [List.append_nil] at q
            exact q _ H (.tup n1 e1 a1) (Same.refl H)
          · exact q _ _ (.tup (fun z => tr p z hp) upd_same (DVs.out (Out.of_same (same_upd hp)) _ (a1.append a2))) (same_upd hp)
    · rw [if_neg hz] at h
      cases h
  · cases h

/-! ### slices -/
abbrev DTO := List Sl → Nat → (Option Int → Nat → Prop) → Prop
def AbsO (K : PySem.W.Frag) (kt : Str) (to : TO) (f : DTO) : Prop := ∀ (F : Fr) (M : Mu) (σ : L2.St) (H : Hp) (env : List Sl) (k : Nat) (R : Option Int → Nat → Prop) (Q : Option Int → Hp → Prop),
  Dat K kt F M σ H env k → f env k R → (∀ b H' k', Gr F.pen H H' → (∀ a, F.pen = some a → Fuel kt H' a k') → R b k' → Q b H') → to σ H Q
theorem ao_none : AbsO K kt tNoPart fun _ k R => R none k := fun F M σ H env k R Q D h q => q none H k Gr.refl D.fu h
theorem ao_some (h : Abs K kt te f) : AbsO K kt (tPart te) fun env k R => f env k fun d k1 => ∃ i, d = .int i ∧ R (some i) k1 := fun F M σ H env k R Q D hf q =>
  h F M σ H env k _ _ D hf fun v H' d k' p ⟨i, e, r⟩ => by
    subst e
    exact ⟨i, int_of p.dv, q (some i) H' k' p.gr p.fu r⟩
def SlA (K : PySem.W.Frag) (r : V → Option Int → Option Int → Hp → VK → Prop) (G : PyData → Option Int → Option Int → Option PyData) : Prop := ∀ (M : Mu) (H : Hp) (x : V) (d c : PyData) (lo hi : Option Int) (Q : VK), (∀ p, p ∈ M → H p ≠ none) → DV K H M x d → G d lo hi = some c →
  (∀ z H', DV K H' M z c → Same H H' → Q z H') → r x lo hi H Q
def SlF (K : PySem.W.Frag) (r : V → Option Int → Option Int → Hp → VK → Prop) (G : PyData → Option Int → Option Int → Option PyData) : Prop := ∀ (M : Mu) (H : Hp) (x : V) (d c : PyData) (lo hi : Option Int) (Q : VK), (∀ p, p ∈ M → H p ≠ none) → DV K H M x d → G d lo hi = some c →
  (∀ L H', H L = none → OwnR K H' (L :: M) L c → tabS c = false → Same H H' → Q (.ref L) H') → r x lo hi H Q
variable {tl th : TO} {fl fh : DTO} {rs : V → Option Int → Option Int → Hp → VK → Prop} {Gs : PyData → Option Int → Option Int → Option PyData}
theorem ab_sl (ho : SlA K rs Gs) (ha : Abs K kt ta fa) (hl : AbsO K kt tl fl) (hh : AbsO K kt th fh) : Abs K kt (tSl rs ta tl th) fun env k R => fa env k fun d k1 => fl env k1 fun lo k2 => fh env k2 fun hi k3 => ∃ c, Gs d lo hi = some c ∧ R c k3 := fun F M σ H env k R Q D h q =>
  ha F M σ H env k _ _ D h fun v1 H1 d k1 p1 h1 => hl F M σ H1 env k1 _ _ (D.grow p1.gr p1.fu) h1 fun lo H2 k2 g2 f2 h2 => hh F M σ H2 env k2 _ _ ((D.grow p1.gr p1.fu).grow g2 f2) h2 fun hi H3 k3 g3 f3 ⟨c, hc, h3⟩ => by
    have D1 := D.grow p1.gr p1.fu
    have D2 := D1.grow g2 f2
    have D3 := D2.grow g3 f3
    exact ho M H3 v1 d c lo hi Q D3.tr (DV.out (D2.out g3) _ (DV.out (D1.out g2) _ p1.dv)) hc fun z H4 hz s => q z H4 c k3 ⟨hz, ((p1.gr.trans g2).trans g3).trans (Gr.of_same s), fun a e => (f3 a e).same s⟩ h3
theorem af_sl (ho : SlF K rs Gs) (ha : Abs K kt ta fa) (hl : AbsO K kt tl fl) (hh : AbsO K kt th fh) : AbsF K kt (tSl rs ta tl th) fun env k R => fa env k fun d k1 => fl env k1 fun lo k2 => fh env k2 fun hi k3 => ∃ c, Gs d lo hi = some c ∧ R c k3 := fun F M σ H env k R Q D h q =>
  ha F M σ H env k _ _ D h fun v1 H1 d k1 p1 h1 => hl F M σ H1 env k1 _ _ (D.grow p1.gr p1.fu) h1 fun lo H2 k2 g2 f2 h2 => hh F M σ H2 env k2 _ _ ((D.grow p1.gr p1.fu).grow g2 f2) h2 fun hi H3 k3 g3 f3 ⟨c, hc, h3⟩ => by
    have D1 := D.grow p1.gr p1.fu
    have D2 := D1.grow g2 f2
    have D3 := D2.grow g3 f3
    exact ho M H3 v1 d c lo hi Q D3.tr (DV.out (D2.out g3) _ (DV.out (D1.out g2) _ p1.dv)) hc fun L H4 hL hz ht s => q L H4 c k3 (D.fresh ((p1.gr.trans g2).trans g3) f3 hL) hz ht (((p1.gr.trans g2).trans g3).trans (Gr.of_same s)) (fun a e => (f3 a e).same s) h3
theorem cut_dv {H : Hp} {M : Mu} {vs : List V} {ds : List PyData} {lo hi : Option Int} (a : DVs K H M vs ds) : DVs K H M (cutV vs lo hi) (cutD ds lo hi) := by
  unfold cutV cutD
  rw [a.length]
  exact (a.drop _).take _
theorem sa_tup : SlA K (rSlA K) slTF := fun M H x d c lo hi Q tr hx h q => by
  cases hx with
    | non => cases h
    | bl b => cases h
    | int i => cases h
    | str x _ => cases h
    | lst _ _ _ => cases h
    | dct _ _ _ => cases h
    | @tup a vs ds n e al =>
      have h2 : some (PyData.tuple (cutD ds lo hi)) = some c := h
      cases h2
      refine ⟨a, vs, rfl, SqT.of e, fun ⟨z1, z2⟩ => ?_, fun _ p hp => q _ _ (.tup (fun z => tr p z hp) upd_same (DVs.out (Out.of_same (same_upd hp)) _ (cut_dv al))) (same_upd hp)⟩
      refine q _ H ?_ (Same.refl H)
      have : cutD ds lo hi = ds := by
        unfold cutD
        rw [al.length] at z1 z2
        rw [z1, z2, List.drop_zero, Nat.sub_zero, List.take_length]
      rw [this]
      exact .tup n e al
theorem sf_list : SlF K (rSlL K) slLF := fun M H x d c lo hi Q tr hx h q => by
  unfold slLF at h
  split at h
  · cases h
    cases hx with
    | @lst a vs ds n e al =>
      refine ⟨a, vs, rfl, SqL.of e, fun p hp => q p _ hp (own_lst upd_same ?_) rfl (same_upd hp)⟩
      exact DVs.out (Out.of_same (same_upd hp)) _ (DVs.more hp _ (cut_dv al))
  · cases h
theorem sa_str : SlA K rSlS slSF := fun M H x d c lo hi Q tr hx h q => by
  cases hx with
    | non => cases h
    | bl b => cases h
    | int i => cases h
    | lst _ _ _ => cases h
    | tup _ _ _ => cases h
    | dct _ _ _ => cases h
    | str z hz =>
      have h2 : some (PyData.str (cutS z lo hi)) = some c := h
      cases h2
      refine ⟨_, rfl, by rw [sizeLine_eq]; exact hz, q _ H (.str _ (Nat.le_trans ?_ hz)) (Same.refl H)⟩
      show (cutS z lo hi).cps.size ≤ z.cps.size
      unfold cutS
      rw [List.size_toArray, List.length_take, List.length_drop, Array.length_toList]
      omega

/-! ### built-in calls -/
def CallF (r : List V → Hp → VK → Prop) (K : PySem.W.Frag) (G : List PyData → Option PyData) : Prop := ∀ (M : Mu) (H : Hp) (vs : List V) (ds : List PyData) (c : PyData) (Q : VK), (∀ p, p ∈ M → H p ≠ none) → DVs K H M vs ds → G ds = some c → (∀ L H', H L = none → OwnR K H' (L :: M) L c → tabS c = false → Same H H' → Q (.ref L) H') → r vs H Q
theorem af_callB {r : List V → Hp → VK → Prop} {G : List PyData → Option PyData} (ho : CallF r K G) (hx : AbsA K kt tx fx) : AbsF K kt (tCB r tx) fun env k R => fx env k fun ds k1 => ∃ c, G ds = some c ∧ R c k1 := fun F M σ H env k R Q D h q =>
  hx F M σ H env k _ _ D h fun vs H1 ds k1 a1 g1 f1 ⟨c, hc, h1⟩ => ho M H1 vs ds c Q (D.grow g1 f1).tr a1 hc fun L H2 hL hz ht s => q L H2 c k1 (D.fresh g1 f1 hL) hz ht (g1.trans (Gr.of_same s)) (fun a e => (f1 a e).same s) h1
theorem one_dv {H : Hp} {M : Mu} {vs : List V} {d : PyData} (h : DVs K H M vs [d]) : ∃ v, vs = [v] ∧ DV K H M v d := by
  cases h with
  | cons a b =>
    cases b
    exact ⟨_, rfl, a⟩
theorem cf_list : CallF (fun xs H Q => ∃ p ys, xs = [.ref p] ∧ (SqL K H p ys ∨ SqT K H p ys) ∧ ∀ l, H l = none → Q (.ref l) (upd H l (.lst ys))) K listF := fun M H vs ds c Q tr hv h q => by
  unfold listF at h
  split at h
  · cases h
    obtain ⟨v, rfl, a⟩ := one_dv hv
    cases a with
    | lst n e al => exact ⟨_, _, rfl, .inl (SqL.of e), fun p hp => q p _ hp (own_lst upd_same (DVs.out (Out.of_same (same_upd hp)) _ (DVs.more hp _ al))) rfl (same_upd hp)⟩
  · cases h
    obtain ⟨v, rfl, a⟩ := one_dv hv
    cases a with
    | tup n e al => exact ⟨_, _, rfl, .inr (SqT.of e), fun p hp => q p _ hp (own_lst upd_same (DVs.out (Out.of_same (same_upd hp)) _ (DVs.more hp _ al))) rfl (same_upd hp)⟩
  · cases h
theorem ca_tuple : CallA (fun xs H Q => ∃ p ys, xs = [.ref p] ∧ ((SqL K H p ys ∧ ∀ l, H l = none → Q (.ref l) (upd H l (.tup ys))) ∨ (SqT K H p ys ∧ Q (.ref p) H))) K tupleF := fun M H vs ds c Q tr hv h q => by
  unfold tupleF at h
  split at h
  · cases h
    obtain ⟨v, rfl, a⟩ := one_dv hv
    cases a with
    | lst n e al => exact ⟨_, _, rfl, .inl ⟨SqL.of e, fun p hp => q _ _ (.tup (fun z => tr p z hp) upd_same (DVs.out (Out.of_same (same_upd hp)) _ al)) (same_upd hp)⟩⟩
  · cases h
    obtain ⟨v, rfl, a⟩ := one_dv hv
    cases a with
    | tup n e al => exact ⟨_, _, rfl, .inr ⟨SqT.of e, q _ H (.tup n e al) (Same.refl H)⟩⟩
  · cases h
theorem ca_abs : CallA (fun xs H Q => ∃ i, xs = [.int i] ∧ Q (.int (if i < 0 then -i else i)) H) K absF := fun M H vs ds c Q tr hv h q => by
  unfold absF at h
  split at h
  · cases h
    obtain ⟨v, rfl, a⟩ := one_dv hv
    cases a
    exact ⟨_, rfl, q _ H (.int _) (Same.refl H)⟩
  · cases h
theorem ab_neg (ha : Abs K kt ta fa) : Abs K kt (tUn (rU fun i => .int (-i)) ta) fun env k R => fa env k fun d k1 => ∃ c, negF d = some c ∧ R c k1 := fun F M σ H env k R Q D h q =>
  ha F M σ H env k _ _ D h fun v H1 d k1 p ⟨c, hc, r⟩ => by
    unfold negF at hc
    split at hc
    · cases hc
      exact ⟨_, int_of p.dv, q _ H1 _ k1 ⟨.int _, p.gr, p.fu⟩ r⟩
    · cases hc

/-! ### an own list or dict that is looked at -/
def scal : PyData → Bool
  | .none | .bool _ | .int _ | .str _ => true
  | _ => false
theorem scal_dv {H : Hp} {M M' : Mu} {v : V} : ∀ {d : PyData}, scal d = true → DV K H M v d → DV K H M' v d
  | .none, _, h => by cases h; exact .non
  | .bool _, _, h => by cases h; exact .bl _
  | .int _, _, h => by cases h; exact .int _
  | .str _, _, h => by
    cases h with
    | str _ b => exact .str _ b
theorem ab_bor (i : Nat) (h : Abs K kt te f) : Abs K kt te fun env k R => ∃ d, env[i]? = some (Sl.own d) ∧ tabS d = false ∧ f (env.set i (.dat d)) k fun c k1 => scal c = true ∧ R c k1 := fun F M σ H env k R Q D ⟨d, hi, ht, hf⟩ q => by
  obtain ⟨M', D'⟩ := D.frz ht hi
  exact h F M' σ H _ k _ _ D' hf fun v H' c k' p ⟨hs, r⟩ => q v H' c k' ⟨scal_dv hs p.dv, p.gr, p.fu⟩ r
theorem at_bor (i : Nat) {tt : TT} {ft : DTT} (h : AbsT K kt tt ft) : AbsT K kt tt fun env k R => ∃ d, env[i]? = some (Sl.own d) ∧ tabS d = false ∧ ft (env.set i (.dat d)) k R := fun F M σ H env k R Q D ⟨d, hi, ht, hf⟩ q => by
  obtain ⟨M', D'⟩ := D.frz ht hi
  exact h F M' σ H _ k _ _ D' hf fun b H' k' g fu r => q b H' k' g fu r
end
end SM

set_option Elab.async false
set_option linter.all false
set_option maxRecDepth 100000
set_option maxHeartbeats 4000000
namespace SM
open PySem PySem.Spec PyProof.Rows L2
variable [PW]
variable {xw : XK}

/-! ### dicts with nested keys, by data -/
def isNK (kd : PyData) (k : NestedKey) : Bool := decide (toNK kd = some k)
def lookN (ds : List (PyData × PyData)) (k : NestedKey) : Option PyData := (ds.find? fun p => isNK p.1 k).map (·.2)
def putND (ds : List (PyData × PyData)) (kd : PyData) (k : NestedKey) (c : PyData) : List (PyData × PyData) :=
  if (lookN ds k).isSome = true then ds.map (fun p => if isNK p.1 k = true then (p.1, c) else p) else ds ++ [(kd, c)]
section
variable {K : PySem.W.Frag} {H H' : Hp} {M M2 : Mu}
theorem DNs.look (k : NestedKey) : ∀ {es : List NE} {ds : List (PyData × PyData)}, DNs K H M es ds → (lookN ds k = none ∧ valN es k = none) ∨ ∃ d v, lookN ds k = some d ∧ valN es k = some v ∧ DV K H M v d
  | _, _, .nil => .inl ⟨rfl, rfl⟩
  | _, _, .cons (k := j) (b := b) (v := v) (kd := kd) (d := d) (es := es) (ds := ds) e1 e2 a c t => by
    by_cases e : j = k
    · refine .inr ⟨d, v, ?_, ?_, c⟩
      · unfold lookN
        rw [List.find?_cons_of_pos (p := fun p : PyData × PyData => isNK p.1 k) (show isNK kd k = true by rw [isNK, e1, e]; exact decide_eq_true rfl)] <;> rfl
      · simp [valN, List.find?_cons, e]
    · have q1 : lookN ((kd, d) :: ds) k = lookN ds k := by
        unfold lookN
        rw [List.find?_cons_of_neg (p := fun p : PyData × PyData => isNK p.1 k) (show ¬ isNK kd k = true by rw [isNK, e1]; simpa using e)]
      have q2 : valN ((j, b, v) :: es) k = valN es k := by simp [valN, List.find?_cons, e]
      rw [q1, q2]
      exact t.look k
theorem DNs.some_eq (k : NestedKey) {es : List NE} {ds : List (PyData × PyData)} (a : DNs K H M es ds) : (lookN ds k).isSome = (valN es k).isSome := by
  rcases a.look k with ⟨h1, h2⟩ | ⟨d, v, h1, h2, _⟩ <;> rw [h1, h2] <;> rfl
theorem DNs.map {k : NestedKey} {v : V} {c : PyData} (hv : DV K H M v c) : ∀ {es : List NE} {ds : List (PyData × PyData)}, DNs K H M es ds → DNs K H M (es.map fun x => if x.1 = k then (x.1, x.2.1, v) else x) (ds.map fun p => if isNK p.1 k = true then (p.1, c) else p)
  | _, _, .nil => .nil
  | _, _, .cons (k := j) e1 e2 a b t => by
    rw [List.map_cons, List.map_cons]
    by_cases e : j = k
    · rw [if_pos e, if_pos (by rw [isNK, e1, e]; exact decide_eq_true rfl)]
      exact .cons e1 e2 a hv (t.map hv)
    · rw [if_neg e, if_neg (by rw [isNK, e1]; simpa using e)]
      exact .cons e1 e2 a b (t.map hv)
theorem DNs.snoc {k : NestedKey} {b : Addr} {v : V} {kd c : PyData} (e1 : toNK kd = some k) (e2 : k.depth ≤ 8) (hb : DV K H M (.ref b) kd) (hv : DV K H M v c) : ∀ {es : List NE} {ds : List (PyData × PyData)}, DNs K H M es ds → DNs K H M (es ++ [(k, b, v)]) (ds ++ [(kd, c)])
  | _, _, .nil => .cons e1 e2 hb hv .nil
  | _, _, .cons q1 q2 a b t => .cons q1 q2 a b (t.snoc e1 e2 hb hv)
theorem DNs.put {k : NestedKey} {b : Addr} {v : V} {kd c : PyData} {es : List NE} {ds : List (PyData × PyData)} (a : DNs K H M es ds) (e1 : toNK kd = some k) (e2 : k.depth ≤ 8) (hb : DV K H M (.ref b) kd) (hv : DV K H M v c) : DNs K H M (putN es k b v) (putND ds kd k c) := by
  unfold putN putND
  rw [a.some_eq k]
  split
  · exact a.map hv
  · exact a.snoc e1 e2 hb hv
theorem DNs.get : ∀ {es : List NE} {ds : List (PyData × PyData)}, DNs K H M es ds → ∀ {i : Nat} {k : NestedKey} {b : Addr} {v : V}, es[i]? = some (k, b, v) → ∃ kd d, ds[i]? = some (kd, d) ∧ DV K H M (.ref b) kd ∧ DV K H M v d
  | _, _, .nil, _, _, _, _, e => by simp at e
  | _, _, .cons e1 e2 a b t, 0, _, _, _, e => by
    cases (show some _ = some _ from e)
    exact ⟨_, _, rfl, a, b⟩
  | _, _, .cons e1 e2 a b t, i + 1, _, _, _, e => t.get (i := i) e
theorem putND_length (ds : List (PyData × PyData)) (kd : PyData) (k : NestedKey) (c : PyData) : (putND ds kd k c).length ≤ ds.length + 1 := by
  unfold putND
  split
  · rw [List.length_map]; omega
  · rw [List.length_append]; exact Nat.le_refl _
/-- a tuple's value is a place -/
theorem tup_of {v : V} {ts : List PyData} (h : DV K H M v (.tuple ts)) : ∃ b, v = .ref b := by
  cases h
  exact ⟨_, rfl⟩
end
section
variable {K : PySem.W.Frag} {kt : Str} {te ty tv : TE} {f fy fv : DT}
/-- x = {}: a dict with nested keys from now on -/
theorem as_newN (i : Nat) : AbsS xw K kt (tAsg (tDNewN PW.prog PW.world) (gName i)) fun B env k => B.nx (env.set i (.own (.tuple [.dict []]))) k := fun F M σ H env k B D h g e => fun p hp =>
  e.nx (p :: M) _ _ _ k (h.take (d := .tuple [.dict []]) hp (Gr.of_same (same_upd hp)) (fun a ea => (h.fu a ea).same (same_upd hp)) ⟨[], [], rfl, upd_same, .nil⟩) g
/-- x[k] = v -/
theorem as_putN (i : Nat) (hv : Abs K kt tv fv) (hy : Abs K kt ty fy) : AbsS xw K kt (sDPutN PW.prog PW.world (tVar i) ty tv) fun B env k => ∃ ds, env[i]? = some (Sl.own (.tuple [.dict ds])) ∧ ds.length < 100000 ∧ fv env k fun c k1 => fy env k1 fun kd k2 =>
    ∃ ts key, kd = .tuple ts ∧ toNK kd = some key ∧ key.depth ≤ 8 ∧ B.nx (env.set i (.own (.tuple [.dict (putND ds kd key c)]))) k2 := fun F M σ H env k B D h ⟨ds, hi, hz, g⟩ e =>
  hv F M σ H env k _ _ h g fun v1 H1 c k1 p1 g1 => by
    have D1 := h.grow p1.gr p1.fu
    obtain ⟨L, hL, hM, h0, r⟩ := D1.ow i _ hi
    refine ⟨.ref L, hL, hy F M σ H1 env k1 _ _ D1 g1 fun v2 H2 kd k2 p2 ⟨ts, key, ek, en, ed, g2⟩ => ?_⟩
    have D2 := D1.grow p2.gr p2.fu
    obtain ⟨L2, hL2, _, _, es, ds2, q, hes, dn⟩ := D2.ow i _ hi
    rw [hL] at hL2
    cases hL2
    cases q
    subst ek
    obtain ⟨b, rfl⟩ := tup_of p2.dv
    refine ⟨L, _, rfl, ⟨es, key, b, hes, dn.keys, rfl, DV.keyv _ p2.dv en, ed, ?_, rfl⟩, ?_⟩
    · rw [dn.length]
      exact Nat.lt_of_lt_of_le hz (by decide)
    · refine e.nx M σ _ _ k2 (D2.own (e := .tuple [.dict (putND ds (.tuple ts) key c)]) hi hL fun u eL => ⟨_, _, rfl, eL, ?_⟩) g2
      exact (dn.put en ed p2.dv (p1.dv.out (D1.out p2.gr))).out u
/-- x[k] -/
theorem ab_getN (i : Nat) (hy : Abs K kt ty fy) : Abs K kt (tDGetN PW.prog PW.world (tVar i) ty) fun env k R => ∃ ds, env[i]? = some (Sl.tab ds) ∧ fy env k fun kd k1 => ∃ ts key c, kd = .tuple ts ∧ toNK kd = some key ∧ key.depth ≤ 8 ∧ lookN ds key = some c ∧ R c k1 := fun F M σ H env k R Q D ⟨ds, hi, g⟩ q => by
  obtain ⟨L, es, od, hL, _⟩ := D.tb i _ hi
  refine ⟨.ref L, hL, hy F M σ H env k _ _ D g fun v2 H2 kd k2 p2 ⟨ts, key, c, ek, en, ed, hl, r⟩ => ?_⟩
  have D2 := D.grow p2.gr p2.fu
  obtain ⟨L2, es2, od2, hL2, hn, rd, dn⟩ := D2.tb i _ hi
  rw [hL] at hL2
  cases hL2
  subst ek
  obtain ⟨b, rfl⟩ := tup_of p2.dv
  rcases dn.look key with ⟨z, _⟩ | ⟨d', v, z, hv, dv⟩
  · rw [z] at hl
    cases hl
  · rw [z] at hl
    cases hl
    exact ⟨L, v, rfl, ⟨es2, key, b, .inr ⟨od2, rd⟩, dn.keys, rfl, DV.keyv _ p2.dv en, ed, hv.symm⟩, q v H2 _ k2 ⟨dv, p2.gr, p2.fu⟩ r⟩
/-- for k in x -/
theorem ai_keysN (i : Nat) : AbsI K kt (iKeysN PW.prog PW.world (tVar i)) fun env k R => ∃ ds, env[i]? = some (Sl.tab ds) ∧ R (ds.map (·.1)) k := fun F M σ H env k R Q D ⟨ds, hi, g⟩ q => by
  obtain ⟨L, es, od, hL, hn, hf, dn⟩ := D.tb i _ hi
  refine ⟨.ref L, hL, L, od, es, rfl, hf, q _ H _ k ⟨⟨es.length, _, _, walk_keysN, by rw [List.length_map, dn.length], fun Mc M2 xc x2 => ⟨fun H' o => o _ _ (xc.no hn hf) hf, fun j H2 x H3 hj o tr y => ?_⟩⟩⟩ Gr.refl D.fu g⟩
  obtain ⟨rfl, key, b, v, hk, rfl⟩ := y
  obtain ⟨kd, d, h1, h2, h3⟩ := dn.get hk
  exact ⟨kd, by rw [List.getElem?_map, h1]; rfl, DV.move xc x2 o h2, Same.refl _⟩
mutual
/-- a locked dict is unlocked: what reads as data does so still -/
theorem DV.unl {H H2 : Hp} {M M2 : Mu} {L : Addr} {od : Obj} {φ : Heap → Prop} (u : ∀ b o, b ≠ L → H b = some o → H2 b = some o) (hL : H L = some (.frz od (.ext φ))) (m : ∀ b, b ∈ M2 → b ∈ M ∨ b = L) : ∀ (d : PyData) {v : V}, DV K H M v d → DV K H2 M2 v d
  | .none, _, h => by cases h; exact .non
  | .bool _, _, h => by cases h; exact .bl _
  | .int _, _, h => by cases h; exact .int _
  | .str _, _, h => by
    cases h with
    | str _ b => exact .str _ b
  | .list ds, _, h => by
    cases h with
    | lst n e a =>
      have ne := ne_of e hL (fun z => nomatch z)
      exact .lst (fun z => (m _ z).elim n ne) (u _ _ ne e) (DVs.unl u hL m ds a)
  | .tuple ds, _, h => by
    cases h with
    | tup n e a =>
      have ne := ne_of e hL (fun z => nomatch z)
      exact .tup (fun z => (m _ z).elim n ne) (u _ _ ne e) (DVs.unl u hL m ds a)
  | .dict ds, _, h => by
    cases h with
    | dct n e a =>
      have ne := ne_of e hL (fun z => nomatch z)
      exact .dct (fun z => (m _ z).elim n ne) (u _ _ ne e) (DKs.unl u hL m ds a)
theorem DVs.unl {H H2 : Hp} {M M2 : Mu} {L : Addr} {od : Obj} {φ : Heap → Prop} (u : ∀ b o, b ≠ L → H b = some o → H2 b = some o) (hL : H L = some (.frz od (.ext φ))) (m : ∀ b, b ∈ M2 → b ∈ M ∨ b = L) : ∀ (ds : List PyData) {vs : List V}, DVs K H M vs ds → DVs K H2 M2 vs ds
  | [], _, h => by cases h; exact .nil
  | d :: ds, _, h => by
    cases h with
    | cons a b => exact .cons (DV.unl u hL m d a) (DVs.unl u hL m ds b)
theorem DKs.unl {H H2 : Hp} {M M2 : Mu} {L : Addr} {od : Obj} {φ : Heap → Prop} (u : ∀ b o, b ≠ L → H b = some o → H2 b = some o) (hL : H L = some (.frz od (.ext φ))) (m : ∀ b, b ∈ M2 → b ∈ M ∨ b = L) : ∀ (ds : List (PyData × PyData)) {vs : List (Key × V)}, DKs K H M vs ds → DKs K H2 M2 vs ds
  | [], _, h => by cases h; exact .nil
  | (_, d) :: ds, _, h => by
    cases h with
    | cons a b => exact .cons (DV.unl u hL m d a) (DKs.unl u hL m ds b)
end
/-- while an expression that makes something new is walked, the own dict in slot i is locked -/
theorem af_lockN (i : Nat) (h : AbsF K kt te f) : AbsF K kt (tLockE te) fun env k R => ∃ ds, env[i]? = some (Sl.own (.tuple [.dict ds])) ∧ f (env.set i (.tab ds)) k R := fun F M σ H env k R Q D ⟨ds, hi, g⟩ q => by
  obtain ⟨L, hL, hM, h0, es, ds2, qe, hes, dn⟩ := D.ow i _ hi
  cases qe
  refine ⟨L, _, hes, True.intro, fun od => ?_⟩
  have le : ∀ b, b ∈ M.filter (fun p => decide (p ≠ L)) → b ∈ M := fun b hb => (List.mem_filter.mp hb).1
  have nL : L ∉ M.filter (fun p => decide (p ≠ L)) := fun z => by
    have := (List.mem_filter.mp z).2
    simp at this
  have inn : ∀ {b : Addr}, b ∈ M → b ≠ L → b ∈ M.filter (fun p => decide (p ≠ L)) := fun hb hn => List.mem_filter.mpr ⟨hb, by simpa using hn⟩
  have back : ∀ b, b ∈ M → b ∈ M.filter (fun p => decide (p ≠ L)) ∨ b = L := fun b hb => by
    by_cases e : b = L
    · exact .inr e
    · exact .inl (inn hb e)
  have pL : ∀ a, F.pen = some a → a.1 ≠ L ∧ a.2 ≠ L := fun a e => ⟨fun z => h0 (by rw [← z]; exact (D.pn a e).1), fun z => h0 (by rw [← z]; exact (D.pn a e).2.1)⟩
  have uM : Out M H (upd H L (.frz od (dN PW.prog PW.world L es))) := fun b x n e => by rw [upd_ne (fun z => n (by rw [z]; exact hM))]; exact e
  have gs : ∀ {j : Nat} {x : Sl}, (env.set i (.tab ds))[j]? = some x → (j = i ∧ x = .tab ds) ∨ (j ≠ i ∧ env[j]? = some x) := fun {j x} h => by
    rcases get_set (σ := σ) (y := none) D.len h with ⟨a, b, _⟩ | ⟨a, b, _⟩
    · exact .inl ⟨a, b⟩
    · exact .inr ⟨a, b⟩
  have D1 : Dat K kt F (M.filter (fun p => decide (p ≠ L))) σ (upd H L (.frz od (dN PW.prog PW.world L es))) (env.set i (.tab ds)) k := by
    refine ⟨by rw [List.length_set, D.len], fun j c h => ?_, fun j h => ?_, fun j c h => ?_, fun j j2 c c2 a b hn => ?_, fun p hp => inn (D.sub p hp) (fun z => h0 (by rw [← z]; exact hp)), fun p hp => stay_upd (D.tr p (le p hp)), fun p hp => stay_upd (D.tx p hp), fun p hp => D.ex p (le p hp), D.sx, fun a ea => ⟨(D.pn a ea).1, (D.pn a ea).2.1, (D.pn a ea).2.2.1, (D.fu a ea).but (pL a ea).1 (pL a ea).2⟩, ⟨fun b x nb eb => ?_, Tabs.upd hes plain_dN D.gr.lv⟩, fun j c h => ?_⟩
    · rcases gs h with ⟨_, z⟩ | ⟨_, z⟩
      · cases z
      · obtain ⟨v, q1, q2⟩ := D.sl j c z
        exact ⟨v, q1, DV.less le c (DV.out uM c q2)⟩
    · rcases gs h with ⟨_, z⟩ | ⟨_, z⟩
      · cases z
      · exact D.pi j z
    · rcases gs h with ⟨_, z⟩ | ⟨hj, z⟩
      · cases z
      · obtain ⟨L2, q1, q2, q3, q4⟩ := D.ow j c z
        have ne : L2 ≠ L := fun y => by
          subst y
          exact D.dj j i c _ z hi hj (by rw [q1, hL])
        exact ⟨L2, q1, inn q2 ne, q3, (q4.out uM (upd_ne ne)).less le⟩
    · rcases gs a with ⟨_, z⟩ | ⟨_, z⟩
      · cases z
      · rcases gs b with ⟨_, z2⟩ | ⟨_, z2⟩
        · cases z2
        · exact D.dj j j2 c c2 z z2 hn
    · by_cases z : b = L
      · subst z
        rcases D.ex b hM with y | y
        · rcases D.sx b y with w | w
          · exact absurd w h0
          · exact absurd w nb
        · rw [y] at eb
          cases eb
      · rw [upd_ne z]
        exact D.gr.out b x nb eb
    · rcases gs h with ⟨_, z⟩ | ⟨_, z⟩
      · cases z
        subst_vars
        exact ⟨L, es, od, hL, nL, upd_same, (dn.out uM).less le⟩
      · exact ((D.tb j c z).out uM).less le
  refine h F _ σ _ _ k _ _ D1 g fun Ln H' d k' hLn r ht gr fu hr => ?_
  have nn : Ln ≠ L := fun z => by rw [z, upd_same] at hLn; cases hLn
  have npL : some L ≠ F.pen.map (·.1) := fun z => by
    obtain ⟨a, e1, e2⟩ := Option.map_eq_some_iff.mp z.symm
    exact (pL a e1).1 e2
  have eL : H' L = some (.frz od (dN PW.prog PW.world L es)) := gr.st L _ npL (fun z => h0 (F.tm _ z).1) upd_same
  refine ⟨eL, q Ln _ d k' (by rw [upd_ne nn] at hLn; exact hLn) ?_ ht ?_ (fun a e => (fu a e).but (pL a e).1 (pL a e).2) hr⟩
  · have u2 : ∀ b o, b ≠ L → H' b = some o → upd H' L (dN PW.prog PW.world L es) b = some o := fun b o n e => by rw [upd_ne n]; exact e
    have m2 : ∀ b, b ∈ Ln :: M → b ∈ Ln :: M.filter (fun p => decide (p ≠ L)) ∨ b = L := fun b hb => by
      rcases List.mem_cons.mp hb with z | z
      · exact .inl (by rw [z]; exact List.mem_cons_self)
      · exact (back b z).imp (fun y => List.mem_cons_of_mem _ y) id
    cases d <;> first | exact r.elim | skip
    case list ds' =>
      obtain ⟨xs, e1, e2⟩ := r
      exact ⟨xs, u2 _ _ nn e1, DVs.unl u2 eL m2 _ e2⟩
    case dict ds' =>
      obtain ⟨xs, e1, e2⟩ := r
      exact ⟨xs, u2 _ _ nn e1, DKs.unl u2 eL m2 _ e2⟩
    case tuple => cases ht
  · refine ⟨fun b o n nt e => ?_, fun t => Tabs.upd eL plain_frz (gr.lv (Tabs.upd hes plain_dN t))⟩
    by_cases z : b = L
    · subst z
      rw [hes] at e
      rw [upd_same]
      exact e
    · rw [upd_ne z]
      exact gr.st b o n nt (by rw [upd_ne z]; exact e)
/-- a return that reads no own list -/
theorem as_retK (h : Abs K kt te f) : AbsS xw K kt (tRet te) fun B env k => f env k fun d k1 => B.rt d k1 := fun F M σ H env k B D h1 g e =>
  h F M σ H env k _ _ h1 g fun v H' d k' p r => e.rt v H' d k' (DV.less h1.sub d p.dv) (h1.grow p.gr p.fu).gr p.fu r
end
end SM

set_option Elab.async false
set_option linter.all false
set_option maxRecDepth 100000
set_option maxHeartbeats 4000000
namespace SM
open PySem PySem.Spec PyProof.Rows L2

/-! ### defs, called where no repr is under way -/
abbrev NoRepr (A : Around) : Prop := A.guards = some []
section
variable {P : Program} {w : World} {K : PySem.W.Frag} {mg : Str → Option Value} {base : Heap} {CX : CXT} {k : Nat} {f : Addr} {fd : FuncData} {ps : List Str} {sp : Sp}
/-- what one call at one place does -/
def OneCall (P : Program) (w : World) (K : PySem.W.Frag) (mg : Str → Option Value) (base : Heap) (CX : CXT) (f : Addr) (fd : FuncData) (ps : List Str) (sp : Sp) (A : Around) : Prop :=
  ∀ (outer : List Env) (s : Shared) (H : Hp) (args : Args) (us : List Value) (vs : List V) (Q : VK) (E : XK), Env0 P w K mg base A outer s H → BindsTo s fd args (ps.zip us) → Vals vs us → sp vs H Q E →
    codeAny (model P w) A (.call (.ref f) args) (CR CX outer P w H s Q E) s
structure FnG (P : Program) (w : World) (K : PySem.W.Frag) (mg : Str → Option Value) (base : Heap) (CX : CXT) (k : Nat) (f : Addr) (fd : FuncData) (ps : List Str) (sp : Sp) : Prop where
  size : ∀ (vs : List V) (H : Hp) (Q : VK) (E : XK), sp vs H Q E → vs.length = ps.length
  runs : ∀ A : Around, Room k A → NoRepr A → OneCall P w K mg base CX f fd ps sp A
theorem FnG.mono {j : Nat} (G : FnG P w K mg base CX j f fd ps sp) (h : j ≤ k) : FnG P w K mg base CX k f fd ps sp := ⟨G.size, fun A hr => G.runs A (hr.mono h)⟩
/-- a body that keeps its promise -/
theorem fng_of {name qual : Str} {params : Arguments} {body : List Stmt} {scope : Scope} {dV kV doc pm cdv ct oc : Value} {an od : Option Addr} {osl : Array (Option Value)} {N : List Str}
    (lk : K.lookup f = some ⟨oc, od, .func (PySem.W.fnOf name qual params body scope dV kV doc pm an cdv ct), osl⟩) (cd : PySem.W.codeIn K cdv qual = true) (S : FnScope N ps scope) (size : ∀ vs H Q E, sp vs H Q E → vs.length = ps.length)
    (hb : ∀ (A : Around) (outer : List Env) (s : Shared) (H : Hp) (vs : List V) (Q : VK) (E : XK), Room k (A.deeper (envOfC qual scope s.heap.objs.size f cdv)) → NoRepr A → sp vs H Q E →
      ∃ t, PSs (cxOf CX P w K mg base N qual scope f cdv A outer s H E) body t ∧ t { nx := fun _ h => Q .non h, rt := Q } (L2.start N vs) H) :
    FnG P w K mg base CX (k + 1) f (PySem.W.fnOf name qual params body scope dV kV doc pm an cdv ct) ps sp := by
  refine ⟨size, fun A room quiet outer s H args us vs Q E at0 binds rel want => ?_⟩
  have long := size vs H Q E want
  have kin : K.In s.heap := at0.mod.kin.keeps fun b o z => (at0.bs b o z).1
  have roof : s.heap.NoLimit := at0.mod.nolimit.keeps fun b o z => (at0.bs b o z).1
  refine codeAny_call_function room.depth (kin f _ lk) rfl S.co S.gen rfl (PySem.W.codeRec_of kin cd) (binds _ _ _ _ ?_)
  refine wpAny_newFunctionEnv_cells S.kind (fun ⟨n, v⟩ hy => ?_) fun env isEnv s1 x => ?_
  · have inPs := (List.of_mem_zip hy).1
    cases S.par n inPs with
    | inl q => exact .inl q
    | inr q => exact .inr ⟨q, PySem.W.cellsFrom_some _ _ _ (.inl q)⟩
  subst isEnv
  refine ⟨roof.keeps x.toInCall.keep, codeAny_func ?_⟩
  obtain ⟨t, ht, hq⟩ := hb A outer s H vs Q E (room.deeper _) quiet want
  have I0 : Inv (cxOf CX P w K mg base N qual scope f cdv A outer s H E) [] (L2.start N vs) H s1 := inv_start S room.hd at0 long rel x
  refine wpAny_mono (ht.run [] s1 (L2.start N vs) H _ I0 hq) (fun fl s2 got => ?_) fun _ _ got => got
  match fl, got with
  | .ret _, ⟨v, _, h, J, rv, q⟩ => exact ⟨v, h, J.os, J.bare, J.base, J.hok, rv, q⟩
  | .next, ⟨_, h, J, q⟩ => exact ⟨V.non, h, J.os, J.bare, J.base, J.hok, rfl, q⟩
  | .brk, ⟨_, _, _, q⟩ => exact q.elim
  | .cont, ⟨_, _, _, q⟩ => exact q.elim
end
section
variable {X : Cx} {CX : CXT} {k : Nat} {f : Addr} {fd : FuncData} {ps : List Str} {sp : Sp} {E : XK} {x : Str} {p pos : Pos} {e : Expr} {es : List Expr} {t : TA}
theorem run_g {pins : List (Addr × Obj)} {σ : L2.St} {H : Hp} {s : Shared} {Q : VK} {us : List Value} {vs : List V} (G : FnG X.prog X.w X.K X.mg X.base CX k f fd ps sp) (room : Room k X.A) (quiet : NoRepr X.A) (binds : Binds X.K fd ps []) (thru : Passes CX X E)
    (I : Inv X pins σ H s) (rel : Vals vs us) (want : sp vs H Q E) : wpAny (model X.prog X.w) X.A (call (.ref f) us) (EP X pins σ Q) X.xe s := by
  have long : (us ++ []).length = ps.length := by rw [List.append_nil, ← rel.length, G.size vs H Q E want]
  have bound := binds s us I.kIn long
  rw [List.append_nil] at bound
  refine wpAny_call (codeAny_mono (G.runs X.A room quiet X.stack s H ⟨us, []⟩ us vs Q E I.env0 bound rel want) fun r s2 got => ?_)
  match r, got with
  | .error e, got => exact thru pins σ H s e s2 I got
  | .ok (.ret u), got => exact I.after got
/-- f(e, ..) -/
theorem pe_callG (G : FnG X.prog X.w X.K X.mg X.base CX k f fd ps sp) (room : Room k X.A) (quiet : NoRepr X.A) (glob : Gl X x) (there : X.mg x = some (.ref f)) (kept : PySem.W.keepIn X.K (.ref f) = true) (binds : Binds X.K fd ps []) (thru : Passes CX X E)
    (ha : PA X (e :: es) t) (h1 : (x == ("__debug__" : Str)) = false := by decide) (h2 : starEach (e :: es) X.env = (false, eval e X.env) :: starEach es X.env := by rfl) (h3 : (backTo pos (starEach es X.env)).any (·.1) = false := by rfl) :
    PE X (.Call (.Name x p) (e :: es) [] pos) (tCall sp [] E t) := by
  refine ⟨fun pins s σ H Q I want => wpAny_Call_Name_kw (ld_glob I glob there ?_ h1)⟩
  refine PySem.W.callWith_K (h₀ := X.base) I.ok.mod.kin kept (thn (ha.run pos pins s σ H _ I want) fun us s1 ⟨vs, H1, I1, rel, q⟩ => ⟨I1.kIn, ?_⟩) h2 h3
  have q' : sp (vs ++ []) H1 Q E := q
  rw [List.append_nil] at q'
  exact run_g G room quiet binds thru I1 rel q'
end
/-- a def of the text that keeps a promise, as a caller meets it -/
def Ok (P : Program) (w : World) (K : PySem.W.Frag) (mg : Str → Option Value) (base : Heap) (CX : CXT) (x : Str) (ps : List Str) (k : Nat) (sp : Sp) : Prop :=
  ∃ (f : Addr) (fd : FuncData), FnG P w K mg base CX k f fd ps sp ∧ mg x = some (.ref f) ∧ PySem.W.keepIn K (.ref f) = true ∧ Binds K fd ps []
/-- a def of the text, where the top has left it -/
def Def (K : PySem.W.Frag) (mg : Str → Option Value) (x : Str) (st : Stmt) (ps : List Str) : Prop :=
  ∃ (f : Addr) (fd : FuncData), Fun K x x st f fd ∧ mg x = some (.ref f) ∧ Binds K fd ps []
theorem Def.ok {P : Program} {w : World} {K : PySem.W.Frag} {mg : Str → Option Value} {base : Heap} {x : Str} {st : Stmt} {ps N : List Str} {k : Nat} {sp : Sp} (D : Def K mg x st ps) (S : FnScope N ps (defScope st))
    (len : ∀ vs H Q E, sp vs H Q E → vs.length = ps.length)
    (hb : ∀ (f : Addr) (cdv : Value) (A : Around) (outer : List Env) (s : Shared) (H : Hp) (vs : List V) (Q : VK) (E : XK), Room k (A.deeper (envOfC x (defScope st) s.heap.objs.size f cdv)) → NoRepr A → sp vs H Q E →
      ∃ t, PSs (cxOf CX0 P w K mg base N x (defScope st) f cdv A outer s H E).nox (defBody st) t ∧ t { nx := fun _ h => Q .non h, rt := Q } (L2.start N vs) H) : Ok P w K mg base CX0 x ps (k + 1) sp := by
  obtain ⟨f, fd, F, g, b⟩ := D
  refine ⟨f, fd, ?_, g, F.kp, b⟩
  obtain ⟨oc, od, kV, doc, pm, an, cdv, ct, osl, rfl, lk, cd⟩ := F.ex
  refine fng_of lk cd S len fun A outer s H vs Q E room quiet want => ?_
  obtain ⟨t, ht, hq⟩ := hb f cdv A outer s H vs Q E room quiet want
  exact ⟨t, ht.nox, hq⟩

/-! ### the end -/
section
variable {P : Program} {w : World} {K : PySem.W.Frag} {mg mb : Str → Option Value} {CX : CXT} {k : Nat} {fa a : Addr} {fd : FuncData} {x : Str} {sp : Sp} {z : Shared} {vs : List Value} {ns : List Int}
/-- what is asked of the call of the law -/
abbrev Said (z : Shared) : Result → Shared → Prop := fun r y => r = .ok (.ret (.bool true)) ∧ OldK z.heap y.heap ∧ y.os = z.os ∧ AllBare y.gens
/-- the script alone is tracked, or nothing -/
theorem end_core (KX : K.In z.heap) (names : z.heap.Ns mainGlobals mg) (bn : z.heap.Ns builtinsNs mb) (bns : ∀ x : Str, x ≠ "__name__" → mb x = bootBuiltins x) (roof : z.heap.NoLimit) (still : z.gens = #[])
    (ha : z.heap.get? a = some { cls := .type "list", data := .seq vs.toArray }) (room : Room k callerA) (G : ∀ base : Heap, K.In base → base.Ns mainGlobals mg → FnG P w K mg base CX k fa fd [x] sp) (binds : ∀ (s : Shared) (u : Value), BindsTo s fd ⟨[u], []⟩ [(x, u)])
    (thru : ∀ H e y, CX [] H z (fun _ _ _ => False) e y → False) {H : Hp} (only : Only H) (want : sp [.ref a] H (fun v _ => v = .bl true) fun _ _ _ => False) (hok : HOk P w H z.heap) (one : ∀ b, H b ≠ none → b = a) (own : H a ≠ none → K.lookup a = none) :
    codeAny (model P w) callerA (.call (.ref fa) ⟨[.ref a], []⟩) (Said z) z := by
  have low : ∀ {b : Addr} {o : Obj}, z.heap.get? b = some o → H b = none → (hidT z.heap H).get? b = some o := fun e n => hidT_get e n
  have free : ∀ {b : Addr} {o : Obj} {es : Array DictEntry} {ep : Nat}, z.heap.get? b = some o → o.data = .dict es ep → H b = none := fun {b o es ep} e d => Classical.byContradiction fun n => by
    have q := one b n
    subst q
    rw [ha] at e
    cases e
    cases (show Data.seq vs.toArray _ = Data.dict es ep from d)
  have nsp : ∀ {b : Addr} {m : Str → Option Value}, z.heap.Ns b m → (hidT z.heap H).Ns b m := fun {b m} ⟨o, es, ep, e, d, r⟩ => ⟨o, es, ep, low e (free e d), d, r⟩
  have kb : K.In (hidT z.heap H) := fun b o e => low (KX b o e) (Classical.byContradiction fun n => by
    have q := one b n
    subst q
    rw [own n] at e
    cases e)
  have md : Mod K mg (hidT z.heap H) := ⟨kb, nsp names, ⟨mb, nsp bn, bns⟩, let ⟨mc, h1, h2⟩ := roof; ⟨mc, nsp h1, h2⟩⟩
  have nil : ∀ b : Addr, b ∈ ([] : List Addr) → False := fun b h => by cases h
  have at0 : Env0 P w K mg (hidT z.heap H) callerA [] z H := ⟨rfl, md, fun b o e => of_hidT e, Nat.le_of_eq (hidT_size _ _), trivial, fun b h => (nil b h).elim, hok, .of_eq still⟩
  refine codeAny_mono ((G _ kb (nsp names)).runs callerA room rfl [] z H ⟨[.ref a], []⟩ [.ref a] [.ref a] _ _ at0 (binds z (.ref a)) (.cons rfl .nil) want) fun r y got => ?_
  match r, got with
  | .error e, got => exact (thru H e y got).elim
  | .ok .next, got => exact False.elim got
  | .ok .brk, got => exact False.elim got
  | .ok .cont, got => exact False.elim got
  | .ok (.ret u), ⟨v, H2, os, bare, un, hok2, rel, q⟩ =>
    cases (show v = .bl true from q)
    cases (show u = Value.bool true from rel)
    refine ⟨rfl, OldK.of_keep fun b o e => ?_, os, bare⟩
    rcases only b with n | ⟨ob, xs, n⟩
    · exact un.keep b o e n (nil b) (by simp)
    · obtain ⟨e1, _⟩ := hok b _ n
      obtain ⟨e2, _⟩ := hok2 b _ (un.frzs b ob _ n)
      rw [e] at e1
      cases e1
      exact e2
theorem end_call (KX : K.In z.heap) (names : z.heap.Ns mainGlobals mg) (bn : z.heap.Ns builtinsNs mb) (bns : ∀ x : Str, x ≠ "__name__" → mb x = bootBuiltins x) (roof : z.heap.NoLimit) (still : z.gens = #[])
    (ha : z.heap.get? a = some { cls := .type "list", data := .seq vs.toArray }) (nums : IntsAre vs ns) (few : ns.length ≤ sizeLine) (room : Room k callerA) (G : ∀ base : Heap, K.In base → base.Ns mainGlobals mg → FnG P w K mg base CX k fa fd [x] sp)
    (binds : ∀ (s : Shared) (u : Value), BindsTo s fd ⟨[u], []⟩ [(x, u)]) (want : ∀ H : Hp, Only H → SqL K H a (ns.map V.int) → sp [.ref a] H (fun v _ => v = .bl true) fun _ _ _ => False) (thru : ∀ H e y, CX [] H z (fun _ _ _ => False) e y → False) :
    codeAny (model P w) callerA (.call (.ref fa) ⟨[.ref a], []⟩) (Said z) z := by
  have rel := vals_ints nums
  cases hk : K.lookup a with
  | some o =>
    have e := (KX a o hk).symm.trans ha
    cases e
    have sq : SqL K (fun _ => none) a (ns.map V.int) := .inr ⟨_, vs.toArray, _, hk, rfl, rfl, rfl, by rw [List.size_toArray, nums.length]; exact few, by simpa using rel⟩
    exact end_core KX names bn bns roof still ha room G binds thru (H := fun _ => none) (fun _ => .inl rfl) (want _ (fun _ => .inl rfl) sq) (fun b u q => by cases (show (none : Option HO) = some u from q)) (fun b q => absurd rfl q) fun q => absurd rfl q
  | none =>
    let T : Hp := fun b => if b = a then some (.frz { cls := .type "list", data := .seq vs.toArray } (.lst (ns.map V.int))) else none
    have Ta : T a = some (.frz { cls := .type "list", data := .seq vs.toArray } (.lst (ns.map V.int))) := if_pos rfl
    have Tn : ∀ {b : Addr}, b ≠ a → T b = none := fun q => if_neg q
    have only : Only T := fun b => (Decidable.em (b = a)).elim (fun q => .inr ⟨{ cls := .type "list", data := .seq vs.toArray }, ns.map V.int, by rw [q]; exact Ta⟩) fun q => .inl (Tn q)
    refine end_core KX names bn bns roof still ha room G binds thru (H := T) only (want T only (.inl (.inr ⟨_, Ta⟩))) (fun b u q => ?_) (fun b q => Classical.byContradiction fun n => q (Tn n)) fun _ => hk
    by_cases n : b = a
    · subst n
      rw [Ta] at q
      cases q
      exact ⟨ha, by rw [List.length_map]; exact few, vs, _, rel, ha⟩
    · rw [Tn n] at q
      cases q
end
theorem walk_g {l : PySem.W.OpenLaw} {n k : Nat} {q : Program} {loose : List Str} {XP : (Str → Option Value) → Heap → Prop} {YP : World → Heap → Prop} {d : DefRec} {K : Params → PySem.W.Frag} {CX : World → CXT} {sp : World → Sp} {x : Str}
    (most : l.most = some n) (few : n ≤ sizeLine) (plain : d.params.defaults = []) (room : Room k callerA) (inK : ∀ (w : World) (h : Heap), YP w h → (K w.params).In h)
    (F : ∀ (w : World) (mg : Str → Option Value) (fa : Addr) (h : Heap), (K w.params).In h → h.Ns mainGlobals mg → mg d.name = some (.ref fa) → ∃ fd : FuncData, (∀ (s : Shared) (u : Value), BindsTo s fd ⟨[u], []⟩ [(x, u)]) ∧
      ∀ base : Heap, (K w.params).In base → base.Ns mainGlobals mg → FnG l.prog w (K w.params) mg base (CX w) k fa fd [x] (sp w))
    (want : ∀ (w : World) (H : Hp) (a : Addr) (ns : List Int), ns.length ≤ n → Only H → SqL (K w.params) H a (ns.map V.int) → sp w [.ref a] H (fun v _ => v = .bl true) fun _ _ _ => False)
    (thru : ∀ (w : World) (H : Hp) (s : Shared) (e : Value) (y : Shared), CX w [] H s (fun _ _ _ => False) e y → False) : PySem.W.WalkO q loose XP YP l.row.toRowW d [] (fun f vs => PySem.call f vs) := by
  refine Att.attach_call most plain fun w s0 s1 mg mb fa o pm cd doc a vs ns G Y ho hd hcd hmg hobj hints hlen hg => ?_
  obtain ⟨fd, hb, hF⟩ := F w mg fa _ (inK w _ Y) G.T.g hmg
  exact end_call (inK w _ Y) G.T.g G.T.b G.T.builtins G.T.nolimit hg hobj hints (Nat.le_trans hlen few) room hF hb (fun H hO hS => want w H a ns hlen hO hS) fun H e y => thru w H s1 e y
end SM

set_option Elab.async false
set_option linter.all false
set_option maxRecDepth 100000
set_option maxHeartbeats 4000000
namespace SM
open PySem PySem.Spec PyProof.Rows L2

/-! ### enumerate(tuple) -/
set_option maxHeartbeats 8000000 in
theorem enum_made {v : Value} {o : Obj} {P : Heap → Prop} (B : Begins v o P) :
    Meets (Builtin.«enumerate.__new__» ⟨[.type "enumerate", v], []⟩) (fun _ R z => P z.heap ∧
      R (.ok (.ret (.ref (z.heap.push o).objs.size))) { z with heap := (z.heap.push o).push { cls := .type "enumerate", data := .fields #[.none, .bool false, .ref z.heap.objs.size, rawInt 0, .none, .none] } }) :=
  .of_wp fun prog w A R z h => by
    obtain ⟨hp, gens, drawn, toks, os⟩ := z
    obtain ⟨first, h⟩ := h
    have below := sub_enumerate
    have starts : ∀ {A2 : Around} {E : Value → Shared → Prop} {Q : Value → Shared → Prop}, Q (.ref hp.objs.size) ⟨hp.push o, gens, drawn, toks, os⟩ → wpAny (model prog w) A2 (pyIter v) Q E ⟨hp, gens, drawn, toks, os⟩ :=
      fun q => B.iter prog w _ _ ⟨hp, gens, drawn, toks, os⟩ _ first q
    wp_walk using starts
    refine wpAny_stack_any fun st => wpAny_pure ?_
    split
    · rename_i c _ _ _ _ _
      cases (c == Value.type "enumerate") <;>
      · wp_walk using starts
        exact ⟨_, rfl, h⟩
    · wp_walk using starts
      exact ⟨_, rfl, h⟩
section
variable {prog : Program} {w : World} {A : Around} {E : Value → Shared → Prop} {z : Shared}
theorem enum_call {v : Value} {o : Obj} {P : Heap → Prop} {Q : Value → Shared → Prop} (B : Begins v o P) (first : P z.heap)
    (h : ∀ hh, IsEnum hh (z.heap.objs.size + 1) z.heap.objs.size 0 .none → hh.get? z.heap.objs.size = some o → (∀ b u, z.heap.get? b = some u → hh.get? b = some u) → Q (.ref (z.heap.objs.size + 1)) { z with heap := hh }) :
    wpAny (model prog w) A (call (.type "enumerate") [v]) Q E z := by
  refine callType_new F.called_enumerate (by decide) (F.typeCall_enumerate_1 _) (F.newCall_enumerate_1 _) (fun obj => F.args_object_init_2 obj _) F.entry_enumerate_new (enum_made B) ⟨first, ?_⟩
  have long : (z.heap.push o).objs.size = z.heap.objs.size + 1 := Heap.size_push ..
  have is : IsEnum ((z.heap.push o).push { cls := .type "enumerate", data := .fields #[.none, .bool false, .ref z.heap.objs.size, rawInt 0, .none, .none] }) (z.heap.objs.size + 1) z.heap.objs.size 0 .none := by
    have got := Heap.get?_push_size (z.heap.push o) (o := { cls := .type "enumerate", data := .fields #[.none, .bool false, .ref z.heap.objs.size, rawInt 0, .none, .none] }) rfl
    rw [long] at got
    exact got
  show _ ∧ _
  rw [long]
  exact ⟨⟨_, is, rfl⟩, h _ is (Heap.get?_push_of_some _ (Heap.get?_push_size _ B.free)) fun b u q => Heap.get?_push_of_some _ (Heap.get?_push_of_some _ q)⟩
end
/-- the tuple at a, its items in new pairs -/
def ItET (K : PySem.W.Frag) (a : Addr) : It where
  go := fun i H => ∃ (xs : List V) (x : V), SqT K H a xs ∧ xs[i]? = some x
  yld := fun i H v H' => ∃ T x, v = .ref T ∧ H T = none ∧ H' = upd H T (.tup [.int (i : Nat), x]) ∧ ∀ xs, SqT K H a xs → xs[i]? = some x
  stop := fun i H => ∃ xs : List V, SqT K H a xs ∧ xs.length = i
theorem turn_enumT {P : Program} {w : World} {K : PySem.W.Frag} {elts : List Expr} {kk : Nat} {tpos : Pos} (a e it : Addr) :
    Turn P w K (.Tuple elts kk tpos) (ItET K a) [e, it] e (fun i h => (∃ old, IsEnum h e it ((i : Nat) : Int) old) ∧ h.IsTupleIter it a i ∧ e ≠ it ∧ a ≠ it ∧ e ≠ a) where
  mem := List.mem_cons_self
  obj := fun i h st b hb => by
    obtain ⟨⟨old, he⟩, ⟨o, ho, hc, hd⟩, _⟩ := st
    rcases List.mem_cons.mp hb with q | q
    · rw [q]
      exact ⟨_, he, fun v y => nomatch y⟩
    · rw [List.mem_singleton.mp q]
      exact ⟨o, ho, fun v y => by rw [hd] at y; cases y⟩
  keep := fun i h h' st k => let ⟨⟨old, he⟩, hi, n1, n2, n3⟩ := st; ⟨⟨old, k e List.mem_cons_self _ he⟩, hi.at fun o q => k it (by simp) o q, n1, n2, n3⟩
  item := by
    intro X hP hw hK hc i pins s σ H E I hf st hg
    subst hP hw hK
    obtain ⟨⟨old, he⟩, hit, n1, n2, n3⟩ := st
    obtain ⟨xs, x, hq, hx⟩ := hg
    obtain ⟨its, rv, p, hz⟩ := I.tuple hq
    obtain ⟨u, hu, ru⟩ := rv.get hx
    have le : e < s.heap.objs.size := Heap.lt_size he
    have li : it < s.heap.objs.size := by
      obtain ⟨_, q, _⟩ := hit
      exact Heap.lt_size q
    have hh : X.A.in1.handled = none := I.ok.hd hc
    have lt : i < its.toArray.size := by
      rw [List.size_toArray, ← rv.length]
      exact (List.getElem?_eq_some_iff.mp hx).1
    have nf : e ∉ [it, a] := fun q => (List.mem_cons.mp q).elim n1 fun q => n3 (List.mem_singleton.mp q)
    refine wpAny_pyNext_enum_itemD (Draws.tuple hh it a n2 its.toArray) he ⟨hit, p⟩ lt n1 nf fun x2 h' tk hx2 ho st2 hT hsz hk => ?_
    have eu : x2 = u := by
      have q : its[i]? = some x2 := by simpa using hx2
      rw [hu] at q
      exact (Option.some.inj q).symm
    subst eu
    refine ⟨_, rfl, wpAny_letOwnedTupleGo_enum (s := { s with heap := h', toks := tk + 1 }) ho fun h2 he2 sb => ?_⟩
    have T2 : h2.get? s.heap.objs.size = some { cls := .type "tuple", data := .seq #[.int i tk, x2] } := (sb.2 _ (Nat.ne_of_gt le)).trans hT
    have new : ObjOk X.prog X.w (upd H s.heap.objs.size (.tup [.int (i : Nat), x])) h2 s.heap.objs.size (.tup [.int (i : Nat), x]) :=
      ⟨(show 2 ≤ sizeLine by decide), [.int i tk, x2], .cons ⟨_, rfl⟩ (.cons ru .nil), ⟨_, T2, rfl, _, rfl⟩⟩
    have I1 : Inv X pins σ (upd H s.heap.objs.size (.tup [.int (i : Nat), x])) { s with heap := h2, toks := tk + 1 } :=
      I.turnedNew (ch := [e, it]) (fun b ob hb q => (sb.2 b (fun z => hb (by simp [z]))).trans (hk b ob (fun z => hb (by simp [z])) (fun z => hb (by simp [z])) q)) hf (Nat.le_refl _) new
    refine ⟨.ref s.heap.objs.size, _, I1, rfl, ⟨_, x, rfl, I.hok.fresh (Nat.le_refl _), rfl, fun ys hy => by rw [I.tuple_inj hy hq]; exact hx⟩, ⟨⟨x2, ?_⟩, st2.1.at fun o q => (sb.2 it (Ne.symm n1)).trans q, n1, n2, n3⟩, fun b hb => ?_⟩
    · have e1 : ((i + 1 : Nat) : Int) = (i : Int) + 1 := by omega
      rw [e1]
      exact he2
    · have lb : b < s.heap.objs.size := by
        rcases List.mem_cons.mp hb with q | q
        · rw [q]
          exact le
        · rw [List.mem_singleton.mp q]
          exact li
      rw [upd_ne (Nat.ne_of_lt lb)]
      exact (hf b hb).1
  done := by
    intro X hP hw hK hc i pins s σ H E I hf st hg
    subst hP hw hK
    obtain ⟨⟨old, he⟩, hit, n1, n2, n3⟩ := st
    obtain ⟨xs, hq, hx⟩ := hg
    obtain ⟨its, rv, p, hz⟩ := I.tuple hq
    obtain ⟨f0, f1, f2, f3, f4, f5⟩ := hf it (by simp)
    have hh : X.A.in1.handled = none := I.ok.hd hc
    have el : i = its.toArray.size := by rw [List.size_toArray, ← rv.length, hx]
    exact wpAny_pyNext_enum_endD (Draws.tuple hh it a n2 its.toArray) he ⟨by rw [← el]; exact hit, p⟩ fun h' eb => ⟨rfl, I.turned (t' := s.toks) (fun b o hb q => eb b o hb q) f0 f1 f3 f4 f5⟩
  self := fun A i s Q E st h => let ⟨⟨_, he⟩, _⟩ := st; wpAny_pyIter_enum he h
def iEnumT (K : PySem.W.Frag) (ta : TA) : TI := fun σ H R => ta σ H fun vs H1 => ∃ a xs, vs = [.ref a] ∧ SqT K H1 a xs ∧ R (ItET K a) H1
theorem pi_enumT {X : Cx} {e : Expr} {ta : TA} {p pos tpos : Pos} {elts : List Expr} {kk : Nat} (glob : Gl X "enumerate") (there : X.mg "enumerate" = none) (ha : PA X [e] ta) (one : starEach [e] X.env = [(false, eval e X.env)] := by rfl) :
    PI X (.Tuple elts kk tpos) (.Call (.Name "enumerate" p) [e] [] pos) (iEnumT X.K ta) := by
  refine ⟨fun pins s σ H R I want => Call_ (ld_blt I glob there boot_enumerate (PyProof.Rows.callWith_type1 (thn (ha.run pos pins s σ H _ I want) fun us s1 ⟨vs, H1, I1, r1, a, xs, ex, hq, q⟩ => ?_) one rfl))⟩
  subst ex
  obtain ⟨u, rfl, r⟩ := r1.one
  cases r
  obtain ⟨its, rv, tp, hz⟩ := I1.tuple hq
  have la : a < s1.heap.objs.size := by
    obtain ⟨o, q, _⟩ := tp
    exact Heap.lt_size q
  refine enum_call (begins_tuple a its.toArray) tp fun h' he ho hk => wpAny_pyIter_enum he ?_
  have I2 : Inv X pins σ H1 { s1 with heap := h' } := I1.kept (t' := s1.toks) hk
  refine ⟨s1.heap.objs.size + 1, [s1.heap.objs.size + 1, s1.heap.objs.size], _, _, H1, rfl, I2, turn_enumT a (s1.heap.objs.size + 1) s1.heap.objs.size, ⟨⟨.none, he⟩, ⟨_, ho, rfl, rfl⟩, Nat.succ_ne_self _, Nat.ne_of_lt la, Nat.ne_of_gt (Nat.lt_succ_of_lt la)⟩, fun b hb => ?_, q⟩
  have le : s1.heap.objs.size ≤ b := by
    rcases List.mem_cons.mp hb with z | z
    · rw [z]
      exact Nat.le_succ _
    · rw [List.mem_singleton.mp z]
      exact Nat.le_refl _
  exact I1.fpOk le (I1.hok.fresh le)
theorem walk_enumT {K : PySem.W.Frag} {a : Addr} {xs : List V} : Walk (ItET K a) xs.length (fun H => SqT K H a xs) (YPair (fun i => some (.int (i : Nat))) (fun i => xs[i]?)) := by
  refine ⟨fun i _ hi q => ⟨xs, xs[i], q, by simp [hi]⟩, fun _ q => ⟨xs, q, rfl⟩, fun i H v H' _ q y => ?_⟩
  obtain ⟨T, x, h1, h2, h3, h4⟩ := y
  exact ⟨T, .int (i : Nat), x, h1, h2, h3, rfl, h4 xs q⟩
end SM

set_option Elab.async false
set_option linter.all false
set_option maxRecDepth 100000
set_option maxHeartbeats 4000000
namespace SM
open PySem PySem.Spec PyProof.Rows L2
open PySem.AutoSeq1 (wpAny_loadPart')
open PySem.MeetsSeq PySem.SeqAt
theorem dict_declines_text (l : Addr) (es : Array DictEntry) (ep : Nat) (dd : Option Addr) (sl : Array (Option Value)) (b : Str) (u : Tok) :
    Meets (Builtin.«dict.__eq__» ⟨[.ref l, .str b u], []⟩) (fun _ R z => z.heap.get? l = some { cls := .type "dict", dict := dd, data := .dict es ep, slots := sl } ∧ R (.ok (.ret .notImplemented)) z) :=
  .of_wp fun prog w A R z h => by
    obtain ⟨hp, g, d, tk, os⟩ := z
    obtain ⟨hl, h⟩ := h
    have f1 : isSubtype (.type "str") (.type "dict") = pure false := by kernel_rfl
    wp_walk using wpAny_loadPart' hl, wpAny_load hl
    exact ⟨_, rfl, h⟩
theorem text_declines_dict (b : Str) (u : Tok) (l : Addr) (c : Value) (es : Array DictEntry) (ep : Nat) (dd : Option Addr) (sl : Array (Option Value)) :
    Meets (Builtin.«str.__eq__» ⟨[.str b u, .ref l], []⟩) (fun _ R z => z.heap.get? l = some { cls := c, dict := dd, data := .dict es ep, slots := sl } ∧ R (.ok (.ret .notImplemented)) z) :=
  .of_wp fun prog w A R z h => by
    obtain ⟨hp, g, d, tk, os⟩ := z
    obtain ⟨hl, h⟩ := h
    wp_walk using wpAny_loadPart' hl, wpAny_load hl
    exact ⟨_, rfl, h⟩
section
variable {A : Around} {z : Shared}
theorem rc_dict_text {l : Addr} {o : Obj} {es : Array DictEntry} {ep : Nat} (b : Str) (u : Tok) (ho : z.heap.get? l = some o) (hc : o.cls = .type "dict") (hd : o.data = .dict es ep) (hu : A.units < cLine) : RcAt A z (.ref l) (.str b u) false := fun prog w E Q h => by
  obtain ⟨c, dd, data, sl⟩ := o
  cases (show c = .type "dict" from hc)
  cases (show data = .dict es ep from hd)
  exact rc_eq_decline_or (k := false) ⟨_, ho, rfl⟩ (typeIs_str z b u) (by decide) F.sub_str_dict F.slot_dict_eq F.slot_str_eq_refl
    (fun _ q => call_meets F.slot_dict_eq ⟨_, ho, rfl⟩ F.entry_dict_eq (F.args_dict_eq_2 _ _) (dict_declines_text l es ep dd sl b u) ⟨ho, q⟩)
    (fun _ q => call_meets F.slot_str_eq_refl (typeIs_str z b u) F.entry_str_eq (F.args_str_eq_2 _ _) (text_declines_dict b u l (.type "dict") es ep dd sl) ⟨ho, q⟩)
    (fun _ q => wpAny_of_eq (rfl : isSame (.ref l) (.str b u) = pure false) q) (.inr hu) h
end
/-- x == t, t a text, x anything -/
def rEqS (K : PySem.W.Frag) : R2 := fun x y H Q => ∃ t, y = .str t ∧ ((x = .non ∧ Q (.bl false) H) ∨ (∃ b, x = .bl b ∧ Q (.bl false) H) ∨ (∃ i, x = .int i ∧ Q (.bl false) H) ∨ (∃ v, x = .str v ∧ Q (.bl (v == t)) H) ∨
  (∃ a xs, x = .ref a ∧ SqL K H a xs ∧ Q (.bl false) H) ∨ (∃ a xs, x = .ref a ∧ SqT K H a xs ∧ Q (.bl false) H) ∨ (∃ a kvs, x = .ref a ∧ H a = some (.dK kvs) ∧ Q (.bl false) H))
theorem op_eqS {X : Cx} (hu : X.A.units + 64 < cLine) : OpR X (compareOp .Eq) (rEqS X.K) := by
  intro pins s σ H x y v u Q I rx ry h
  have hu1 : X.A.units < cLine := by omega
  obtain ⟨t, rfl, h⟩ := h
  obtain ⟨tk, rfl⟩ := ry
  have fin : ∀ {c : Bool}, RcAt X.A s v (.str t tk) c → Q (.bl c) H → wpAny (model X.prog X.w) X.A (compareOp .Eq v (.str t tk)) (EP X pins σ Q) X.xe s := fun r q => r _ _ _ _ ⟨.bl _, H, I, rfl, q⟩
  rcases h with ⟨rfl, q⟩ | ⟨b, rfl, q⟩ | ⟨i, rfl, q⟩ | ⟨w, rfl, q⟩ | ⟨a, xs, rfl, e, q⟩ | ⟨a, xs, rfl, e, q⟩ | ⟨a, kvs, rfl, e, q⟩
  · cases rx
    exact fin (RcAt.none_str t tk) q
  · cases rx
    exact fin (RcAt.bool_str b t tk) q
  · obtain ⟨u2, rfl⟩ := rx
    exact fin (RcAt.int_str i u2 t tk) q
  · obtain ⟨u2, rfl⟩ := rx
    exact fin (RcAt.str_str w u2 t tk) q
  · cases rx
    obtain ⟨its, rv, p, _⟩ := I.list e
    exact fin (RcAt.list_str t tk p.isList hu1) q
  · cases rx
    obtain ⟨its, rv, p, _⟩ := I.tuple e
    exact fin (RcAt.tuple_str t tk p hu1) q
  · cases rx
    obtain ⟨_, _, vs, _, o, es, ep, h1, h2, h3, _⟩ := (show ObjOk X.prog X.w H s.heap a (.dK kvs) from I.hok a _ e)
    exact fin (rc_dict_text t tk h1 h2.1 h3 hu1) q
/-- xs == [] -/
def rEqE (K : PySem.W.Frag) : R2 := fun x y H Q => ∃ a b xs, x = .ref a ∧ y = .ref b ∧ SqL K H a xs ∧ SqL K H b [] ∧ Q (.bl xs.isEmpty) H
theorem op_eqE {X : Cx} (hu : X.A.units + 64 < cLine) : OpR X (compareOp .Eq) (rEqE X.K) := by
  intro pins s σ H x y v u Q I rx ry h
  obtain ⟨a, b, xs, rfl, rfl, ha, hb, q⟩ := h
  cases rx
  cases ry
  obtain ⟨its, rv, p, _⟩ := I.list ha
  obtain ⟨its2, rv2, p2, _⟩ := I.list hb
  cases rv2
  cases rv with
  | nil =>
    have r := RcAt.lists (A := X.A) (e := fun _ => true) p.isList p2.isList rfl (by omega) (fun j hj => absurd hj (by simp))
    exact r _ _ _ _ ⟨.bl _, H, I, by first | rfl | simp, q⟩
  | cons r t =>
    exact RcAt.lists_lengths (A := X.A) p.isList p2.isList (by simp) (by omega) _ _ _ _ ⟨.bl _, H, I, rfl, q⟩
end SM

set_option Elab.async false
set_option linter.all false
set_option maxRecDepth 100000
set_option maxHeartbeats 4000000
namespace SM
open PySem PySem.Spec PyProof.Rows L2
variable [PW]

/-! ### defs by data -/
theorem Def.okS {K : PySem.W.Frag} {kt : Str} {mg : Str → Option Value} {base : Heap} {x : Str} {st : Stmt} {ps N : List Str} {k n : Nat} {Sp : SP} (D : Def K mg x st ps) (S : FnScope N ps (defScope st)) (hn : n = ps.length)
    (hb : ∀ (f : Addr) (cdv : Value) (A : Around) (outer : List Env) (s : Shared) (H : Hp) (E : XK), Room k (A.deeper (envOfC x (defScope st) s.heap.objs.size f cdv)) → NoRepr (A.deeper (envOfC x (defScope st) s.heap.objs.size f cdv)) →
      ∃ t g, PSs (cxOf CX0 PW.prog PW.world K mg base N x (defScope st) f cdv A outer s H E).nox (defBody st) t ∧ AbsS XNo K kt t g ∧ ∀ qs j R, qs.length = n → Sp qs j R → g (bodyB R) (env0 N qs) j) : Ok PW.prog PW.world K mg base CX0 x ps (k + 1) (liftS K kt n Sp) := by
  refine D.ok S (fun vs H Q E h => ?_) fun f cdv A outer s H vs Q E hr quiet h => ?_
  · obtain ⟨M, pen, qs, j, R, _, a, hl, _⟩ := h
    rw [a.length, hl, hn]
  · obtain ⟨t, g, hm, ha, hs⟩ := hb f cdv A outer s H E hr quiet
    exact ⟨t, hm, body_ok (E := E) ha hs h⟩
theorem Def.okN {K : PySem.W.Frag} {kt : Str} {mg : Str → Option Value} {base : Heap} {x : Str} {st : Stmt} {ps N : List Str} {k n : Nat} {Sp : SP} (D : Def K mg x st ps) (S : FnScope N ps (defScope st)) (hn : n = ps.length)
    (hb : ∀ (f : Addr) (cdv : Value) (A : Around) (outer : List Env) (s : Shared) (H : Hp) (E : XK), Room k (A.deeper (envOfC x (defScope st) s.heap.objs.size f cdv)) → NoRepr (A.deeper (envOfC x (defScope st) s.heap.objs.size f cdv)) →
      ∃ t g, PSs (cxOf CX0 PW.prog PW.world K mg base N x (defScope st) f cdv A outer s H E).nox (defBody st) t ∧ AbsS XNo K kt t g ∧ ∀ qs j R, qs.length = n → Sp qs j R → g (bodyN R) (env0 N qs) j) : Ok PW.prog PW.world K mg base CX0 x ps (k + 1) (liftN K kt n Sp) := by
  refine D.ok S (fun vs H Q E h => ?_) fun f cdv A outer s H vs Q E hr quiet h => ?_
  · obtain ⟨M, pen, qs, j, R, _, a, hl, _⟩ := h
    rw [a.length, hl, hn]
  · obtain ⟨t, g, hm, ha, hs⟩ := hb f cdv A outer s H E hr quiet
    exact ⟨t, hm, body_okN (E := E) ha hs h⟩
/-- a function of data -/
def pureS (G : List PyData → Option PyData) : SP := fun qs k R => ∃ ds d, qs = ds.map some ∧ G ds = some d ∧ R d k
theorem pureS_some {G : List PyData → Option PyData} {k : Nat} {R : PyData → Nat → Prop} (ds : List PyData) : pureS G (ds.map some) k R ↔ ∃ d, G ds = some d ∧ R d k := by
  constructor
  · rintro ⟨es, d, e, h1, h2⟩
    have : es = ds := by
      have h := congrArg (List.map fun o : Arg => o.getD .none) e
      simpa [List.map_map, Function.comp_def] using h.symm
    rw [this] at h1
    exact ⟨d, h1, h2⟩
  · rintro ⟨d, h1, h2⟩
    exact ⟨ds, d, rfl, h1, h2⟩
theorem pure1 {G : List PyData → Option PyData} {k : Nat} {R : PyData → Nat → Prop} {a : PyData} : pureS G [some a] k R ↔ ∃ d, G [a] = some d ∧ R d k := pureS_some [a]
theorem pure2 {G : List PyData → Option PyData} {k : Nat} {R : PyData → Nat → Prop} {a b : PyData} : pureS G [some a, some b] k R ↔ ∃ d, G [a, b] = some d ∧ R d k := pureS_some [a, b]
theorem pure3 {G : List PyData → Option PyData} {k : Nat} {R : PyData → Nat → Prop} {a b c : PyData} : pureS G [some a, some b, some c] k R ↔ ∃ d, G [a, b, c] = some d ∧ R d k := pureS_some [a, b, c]
theorem pure4 {G : List PyData → Option PyData} {k : Nat} {R : PyData → Nat → Prop} {a b c e : PyData} : pureS G [some a, some b, some c, some e] k R ↔ ∃ d, G [a, b, c, e] = some d ∧ R d k := pureS_some [a, b, c, e]
/-- a body of a function of data -/
theorem pure_in {G : List PyData → Option PyData} {qs : List Arg} {k : Nat} {R : PyData → Nat → Prop} (h : pureS G qs k R) : ∃ ds d, qs = ds.map some ∧ G ds = some d ∧ ∃ k', k' ≤ k ∧ R d k' := by
  obtain ⟨ds, d, e, h1, h2⟩ := h
  exact ⟨ds, d, e, h1, k, Nat.le_refl _, h2⟩
theorem ab_isi2 {K : PySem.W.Frag} {kt : Str} {te : TE} {f : DT} {T U : String} {p q : PyData → Bool} (hp : ∀ d, kitB (tyN d) T = some (p d)) (hq : ∀ d, kitB (tyN d) U = some (q d)) (ha : Abs K kt te f) :
    Abs K kt (tCB (rIsiT K) (tCons te (tCons (tTup (tCons (tC (.ty T)) (tCons (tC (.ty U)) tNil))) tNil))) fun env k R => f env k fun d k1 => R (.bool (p d || q d)) k1 := fun F M σ H env k R Q D h q' =>
  ha F M σ H env k _ _ D h fun v1 H1 d k1 p1 h1 => ⟨(show 2 ≤ sizeLine by decide), fun tp htp => by
    refine ⟨v1, tp, [.ty T, .ty U], _, [.type T, .type U], p d || q d, rfl, upd_same, .cons (.ty T) (.cons (.ty U) .nil), ty_of (p1.dv.out (Out.of_same (same_upd htp))), ?_, ?_⟩
    · refine kitAny_cons (kit_ty (hp d)) (fun z => ?_) (fun z => by rw [z]; rfl)
      rw [z, Bool.false_or]
      exact kitAny_cons (kit_ty (hq d)) (fun y => by rw [y]; rfl) (fun y => y)
    · exact q' _ _ _ k1 ⟨.bl _, p1.gr.trans (Gr.of_same (same_upd htp)), fun a e => (p1.fu a e).same (same_upd htp)⟩ h1⟩
end SM

set_option Elab.async false
set_option linter.all false
set_option maxRecDepth 100000
set_option maxHeartbeats 4000000
namespace SM
open PySem PySem.Spec PyProof.Rows L2
variable [PW]

/-! ### enumerate -/
def enumD : Nat → List PyData → List PyData
  | _, [] => []
  | i, d :: r => .tuple [.int (i : Nat), d] :: enumD (i + 1) r
theorem enumD_length : ∀ (ds : List PyData) (i : Nat), (enumD i ds).length = ds.length
  | [], _ => rfl
  | _ :: r, i => congrArg (· + 1) (enumD_length r (i + 1))
theorem enumD_get : ∀ (ds : List PyData) (i j : Nat), (enumD i ds)[j]? = (ds[j]?).map fun d => .tuple [.int ((i + j : Nat) : Int), d]
  | [], i, j => by simp [enumD]
  | d :: r, i, 0 => by simp [enumD]
  | d :: r, i, j + 1 => by
    show (enumD (i + 1) r)[j]? = _
    rw [enumD_get r (i + 1) j, List.getElem?_cons_succ, show i + 1 + j = i + (j + 1) by omega]
section
variable {K : PySem.W.Frag} {kt : Str} {te : TE} {f : DT} {tx : TA} {fx : DTA}
theorem pair_src {M : Mu} {H H2 : Hp} {Mc M2 : Mu} {xs : List V} {ds : List PyData} {i : Nat} {x : V} {H3 : Hp} (al : DVs K H M xs ds) (xc : Ext M H Mc) (x2 : Ext M H M2) (o : Out Mc H H2) (tr : ∀ p, p ∈ M2 → H2 p ≠ none)
    (y : YPair (fun i => some (.int (i : Nat))) (fun i => xs[i]?) i H2 x H3) : ∃ d, (enumD 0 ds)[i]? = some d ∧ DV K H3 M2 x d ∧ Same H2 H3 := by
  obtain ⟨T, p, q, rfl, hT, rfl, hp, hq⟩ := y
  cases hp
  obtain ⟨d, hd, dv⟩ := al.get' hq
  refine ⟨.tuple [.int (i : Nat), d], by rw [enumD_get, hd, Nat.zero_add]; rfl, .tup (fun z => tr T z hT) upd_same (.cons (.int _) (.cons ?_ .nil)), same_upd hT⟩
  exact DV.out (Out.of_same (same_upd hT)) _ (DV.move xc x2 o dv)
theorem ai_enumT (h : AbsA K kt tx fx) : AbsI K kt (iEnumT K tx) fun env k R => fx env k fun as k1 => ∃ ds, as = [.tuple ds] ∧ R (enumD 0 ds) k1 := fun F M σ H env k R Q D hf q =>
  h F M σ H env k _ _ D hf fun vs H' as k' a gr fu ⟨ds, e, r⟩ => by
    subst e
    obtain ⟨v, rfl, dv⟩ := one_dv a
    cases dv with
    | @tup l xs _ nm ea al =>
      refine ⟨l, xs, rfl, SqT.of ea, q _ H' _ k' ⟨⟨xs.length, _, _, walk_enumT (K := K) (a := l) (xs := xs), by rw [enumD_length, al.length], fun Mc M2 xc x2 => ⟨fun H2 o => SqT.of (o _ _ (xc.no nm ea) ea), fun i H2 x H3 hi o tr y => pair_src al xc x2 o tr y⟩⟩⟩ gr fu r⟩
theorem ai_enum (h : AbsA K kt tx fx) : AbsI K kt (iEnum K tx) fun env k R => fx env k fun as k1 => ∃ ds, as = [.list ds] ∧ R (enumD 0 ds) k1 := fun F M σ H env k R Q D hf q =>
  h F M σ H env k _ _ D hf fun vs H' as k' a gr fu ⟨ds, e, r⟩ => by
    subst e
    obtain ⟨v, rfl, dv⟩ := one_dv a
    cases dv with
    | @lst l xs _ nm ea al =>
      refine ⟨l, xs, rfl, SqL.of ea, q _ H' _ k' ⟨⟨xs.length, _, _, walk_enum (K := K) (a := l) (xs := xs), by rw [enumD_length, al.length], fun Mc M2 xc x2 => ⟨fun H2 o => SqL.of (o _ _ (xc.no nm ea) ea), fun i H2 x H3 hi o tr y => pair_src al xc x2 o tr y⟩⟩⟩ gr fu r⟩

/-! ### all, letters, order the other way -/
def boolsOf : List PyData → Option (List Bool)
  | [] => some []
  | .bool b :: r => (boolsOf r).map (b :: ·)
  | _ => none
def allF : List PyData → Option PyData
  | [.list ds] => (boolsOf ds).map fun bs => .bool (bs.all id)
  | _ => none
theorem bools_dv {H : Hp} {M : Mu} : ∀ {ds : List PyData} {bs : List Bool} {xs : List V}, boolsOf ds = some bs → DVs K H M xs ds → xs = bs.map V.bl
  | [], bs, xs, h, a => by
    cases h
    cases a
    rfl
  | d :: r, bs, xs, h, a => by
    cases a with
    | cons a1 a2 =>
      cases d <;> first | (cases h; done) | skip
      rename_i b
      obtain ⟨cs, h1, rfl⟩ := Option.map_eq_some_iff.mp (show (boolsOf r).map (b :: ·) = some bs from h)
      cases a1
      rw [bools_dv h1 a2] <;> rfl
theorem ca_all : CallA (rAll K) K allF := fun M H vs ds c Q tr hv h q => by
  unfold allF at h
  split at h
  · rename_i xs
    obtain ⟨bs, h1, rfl⟩ := Option.map_eq_some_iff.mp h
    obtain ⟨v, rfl, a⟩ := one_dv hv
    cases a with
    | lst n e al =>
      refine ⟨_, bs, rfl, ?_, q _ H (.bl _) (Same.refl H)⟩
      rw [← bools_dv h1 al]
      exact SqL.of e
  · cases h
def gtF (d e : PyData) : Option PyData := if (shal d e && PySem.W.alike d e && !isNone d) = true then some (.bool (PySem.W.dataLt e d)) else none
def geF (d e : PyData) : Option PyData := if (shal d e && PySem.W.alike d e && !isNone d) = true then some (.bool (!PySem.W.dataLt d e)) else none
def rGtP (K : PySem.W.Frag) : R2 := fun x y H Q => ∃ d e, Dp K H x d ∧ Dp K H y e ∧ shal d e = true ∧ PySem.W.alike d e = true ∧ isNone d = false ∧ Q (.bl (PySem.W.dataLt e d)) H
def rGeP (K : PySem.W.Frag) : R2 := fun x y H Q => ∃ d e, Dp K H x d ∧ Dp K H y e ∧ shal d e = true ∧ PySem.W.alike d e = true ∧ isNone d = false ∧ Q (.bl (!PySem.W.dataLt d e)) H
theorem op_gtP {X : Cx} (hu : X.A.units + 64 < cLine) : OpR X (compareOp .Gt) (rGtP X.K) := by
  intro pins s σ H x y v u Q I rx ry h
  obtain ⟨d, e, hd, he, sh, al, nn, q⟩ := h
  obtain ⟨as, r1⟩ := Dp.reads I d x v hd rx
  obtain ⟨bs, r2⟩ := Dp.reads I e y u he ry
  obtain ⟨h1, h2, h3⟩ := shal_of sh
  exact PySem.W.gt_data r1 r2 al (fun z => by rw [z] at nn; cases nn) (by omega) ⟨.bl _, H, I, rfl, q⟩
theorem op_geP {X : Cx} (hu : X.A.units + 64 < cLine) : OpR X (compareOp .GtE) (rGeP X.K) := by
  intro pins s σ H x y v u Q I rx ry h
  obtain ⟨d, e, hd, he, sh, al, nn, q⟩ := h
  obtain ⟨as, r1⟩ := Dp.reads I d x v hd rx
  obtain ⟨bs, r2⟩ := Dp.reads I e y u he ry
  obtain ⟨h1, h2, h3⟩ := shal_of sh
  exact PySem.W.ge_data r1 r2 al (fun z => by rw [z] at nn; cases nn) (by omega) ⟨.bl _, H, I, rfl, q⟩
theorem oa_gtP : OpA K (rGtP K) gtF := fun M H x y d e c Q tr hx hy h q => by
  unfold gtF at h
  by_cases sh : (shal d e && PySem.W.alike d e && !isNone d) = true
  · rw [if_pos sh] at h
    cases h
    simp only [Bool.and_eq_true, Bool.not_eq_true'] at sh
    obtain ⟨⟨s1, s2⟩, s3⟩ := sh
    have s1' : shal d e = true := by simpa only [shal, Bool.and_eq_true] using s1
    obtain ⟨h1, h2, _⟩ := shal_of s1'
    exact ⟨d, e, hx.dp d h1, hy.dp e h2, s1', s2, s3, q _ H (.bl _) (Same.refl H)⟩
  · rw [if_neg sh] at h
    cases h
theorem oa_geP : OpA K (rGeP K) geF := fun M H x y d e c Q tr hx hy h q => by
  unfold geF at h
  by_cases sh : (shal d e && PySem.W.alike d e && !isNone d) = true
  · rw [if_pos sh] at h
    cases h
    simp only [Bool.and_eq_true, Bool.not_eq_true'] at sh
    obtain ⟨⟨s1, s2⟩, s3⟩ := sh
    have s1' : shal d e = true := by simpa only [shal, Bool.and_eq_true] using s1
    obtain ⟨h1, h2, _⟩ := shal_of s1'
    exact ⟨d, e, hx.dp d h1, hy.dp e h2, s1', s2, s3, q _ H (.bl _) (Same.refl H)⟩
  · rw [if_neg sh] at h
    cases h
/-- one sign -/
def oneF : PyData → Option Nat
  | .str ⟨a⟩ => if a.size = 1 then a[0]? else none
  | _ => none
def inSF (d e : PyData) : Option PyData := match d, e with
  | .str x, .str z => if x.cps.size = 1 then (x.cps[0]?).map fun c => .bool (decide (c ∈ z.cps.toList)) else none
  | _, _ => none
def ninSF (d e : PyData) : Option PyData := match d, e with
  | .str x, .str z => if x.cps.size = 1 then (x.cps[0]?).map fun c => .bool (!decide (c ∈ z.cps.toList)) else none
  | _, _ => none
theorem one_sign {x : Str} {c : Nat} (h : x.cps.size = 1) (e : x.cps[0]? = some c) : x = ⟨#[c]⟩ := by
  obtain ⟨a⟩ := x
  have : a = #[c] := by
    apply Array.ext (by simpa using h)
    intro i h1 h2
    have : i = 0 := by simp at h2; omega
    subst this
    rw [Array.getElem?_eq_getElem h1] at e
    simpa using e
  rw [this]
theorem oa_inS : OpA K (fun x y H Q => ∃ (c : Nat) (z : Str), x = .str ⟨#[c]⟩ ∧ y = .str z ∧ Q (.bl (decide (c ∈ z.cps.toList))) H) inSF := fun M H x y d e c Q tr hx hy h q => by
  unfold inSF at h
  split at h
  · rename_i a z
    by_cases h1 : a.cps.size = 1
    · rw [if_pos h1] at h
      obtain ⟨n, e, rfl⟩ := Option.map_eq_some_iff.mp h
      cases hx
      cases hy
      have ea := one_sign h1 e
      exact ⟨n, z, by rw [ea], rfl, q _ H (.bl _) (Same.refl H)⟩
    · rw [if_neg h1] at h
      cases h
  · cases h
theorem oa_ninS : OpA K (fun x y H Q => ∃ (c : Nat) (z : Str), x = .str ⟨#[c]⟩ ∧ y = .str z ∧ Q (.bl (!decide (c ∈ z.cps.toList))) H) ninSF := fun M H x y d e c Q tr hx hy h q => by
  unfold ninSF at h
  split at h
  · rename_i a z
    by_cases h1 : a.cps.size = 1
    · rw [if_pos h1] at h
      obtain ⟨n, e, rfl⟩ := Option.map_eq_some_iff.mp h
      cases hx
      cases hy
      have ea := one_sign h1 e
      exact ⟨n, z, by rw [ea], rfl, q _ H (.bl _) (Same.refl H)⟩
    · rw [if_neg h1] at h
      cases h
  · cases h
end
end SM

set_option Elab.async false
set_option linter.all false
set_option maxRecDepth 100000
set_option maxHeartbeats 4000000
namespace SM
open PySem PySem.Spec PyProof.Rows L2
variable [PW]

/-! ### turns -/
/-- a for: what holds ahead of each turn -/
theorem for_rec {fg : DTG} {g : DTS} {B : BE} (P : List PyData → List Sl → Nat → Prop) (h0 : ∀ env k, P [] env k → B.nx env k)
    (h1 : ∀ d r env k, P (d :: r) env k → ∀ N : List Sl → Nat → Prop, (∀ env' k', P r env' k' → N env' k') → fg d env k fun env' k' => g { nx := N, ct := N, bk := B.nx, rt := B.rt, rn := B.rn, xk := B.xk } env' k') :
    ∀ {ds : List PyData} {env : List Sl} {k : Nat}, P ds env k → forD fg g B ds env k
  | [], env, k, h => h0 env k h
  | d :: r, env, k, h => h1 d r env k h _ fun env' k' h' => for_rec P h0 h1 h'
/-- a comprehension whose turns are functions of the item -/
theorem comp_pure {fg : DTG} {ft : DTT} {fe : DT} {env : List Sl} (p : PyData → Bool) (φ : PyData → PyData) : ∀ {ds acc : List PyData} {k : Nat} {R : PyData → Nat → Prop},
    (∀ d, d ∈ ds → ∀ (k : Nat) (T : PyData → Nat → Prop) (N : Nat → Prop), (p d = true → T (φ d) k) → (p d = false → N k) → fg d env k fun e2 k2 => ft e2 k2 fun b k3 => (b = true → fe e2 k3 fun c k4 => T c k4) ∧ (b = false → N k3)) →
    R (.list (acc ++ (ds.filter p).map φ)) k → compD fg ft fe env ds acc k R
  | [], acc, k, R, _, r => by
    unfold compD
    simpa using r
  | d :: ds, acc, k, R, h, r => by
    unfold compD
    refine h d List.mem_cons_self k _ _ (fun hp => ?_) (fun hp => ?_)
    · refine comp_pure p φ (fun e he => h e (List.mem_cons_of_mem _ he)) ?_
      rw [List.filter_cons_of_pos hp] at r
      simpa using r
    · refine comp_pure p φ (fun e he => h e (List.mem_cons_of_mem _ he)) ?_
      rw [List.filter_cons_of_neg (by rw [hp]; exact Bool.false_ne_true)] at r
      exact r
theorem bools_map (f : PyData → Bool) : ∀ ds : List PyData, boolsOf (ds.map fun d => .bool (f d)) = some (ds.map f)
  | [] => rfl
  | d :: r => by
    show (boolsOf (r.map fun d => .bool (f d))).map (f d :: ·) = _
    rw [bools_map f r] <;> rfl
/-- the text's signs, each a text -/
def signs (z : Str) : List PyData := z.cps.toList.map fun c => .str ⟨#[c]⟩
theorem mem_signs {z : Str} {d : PyData} (h : d ∈ z.cps.toList.map fun c => PyData.str ⟨#[c]⟩) : ∃ c, c ∈ z.cps.toList ∧ d = .str ⟨#[c]⟩ := by
  obtain ⟨c, h1, h2⟩ := List.mem_map.mp h
  exact ⟨c, h1, h2.symm⟩
theorem lt_nil {l : List Nat} : ¬ l < [] := by
  intro h
  cases h
theorem lt_one {a b : Nat} : ([a] : List Nat) < [b] ↔ a < b := by
  constructor
  · intro h
    cases h with
    | rel h => exact h
    | cons h => cases h
  · intro h
    exact .rel h
theorem shal_str {x y : Str} : shal (.str x) (.str y) = true := by
  simp [shal, PyData.plain, PyData.depth]
theorem leF_str (x y : Str) : leF (.str x) (.str y) = some (.bool (!decide (y.cps.toList < x.cps.toList))) := by
  unfold leF
  rw [if_pos (by rw [shal_str]; simp [PySem.W.alike, isNone]), PySem.W.dataLt_str]
theorem at0 (x : PyData) (r : List PyData) : atD (.tuple (x :: r)) (.int 0) = some x := by
  show (ixN (x :: r).length 0).bind (fun j => (x :: r)[j]?) = some x
  rw [show ixN (x :: r).length 0 = some 0 by simp [ixN]] <;> rfl
theorem eqF_int (i j : Int) : eqF (.int i) (.int j) = some (.bool (decide (i = j))) := by
  unfold eqF
  rw [if_pos (by simp [shal, PyData.plain, PyData.depth])]
  have e : PyData.eqv (.int i) (.int j) = decide (i = j) := by
    unfold PyData.eqv
    by_cases h : i = j <;> simp [h]
  rw [e]
theorem atD_nn {xs : List PyData} {i : Int} (h0 : 0 ≤ i) (h1 : i < xs.length) : atD (.tuple xs) (.int i) = xs[i.toNat]? := by
  show (ixN xs.length i).bind (fun j => xs[j]?) = _
  unfold ixN
  rw [if_pos h0, if_pos h1] <;> rfl
theorem neF_int (i j : Int) : neF (.int i) (.int j) = some (.bool (!decide (i = j))) := by
  unfold neF
  rw [if_pos (by simp [shal, PyData.plain, PyData.depth])]
  have e : PyData.eqv (.int i) (.int j) = decide (i = j) := by
    unfold PyData.eqv
    by_cases h : i = j <;> simp [h]
  rw [e]
theorem leiF_int (i j : Int) : leiF (.int i) (.int j) = some (.bool (decide (i ≤ j))) := rfl
theorem liF_int (i j : Int) : liF (.int i) (.int j) = some (.bool (decide (i < j))) := rfl
theorem giF_int (i j : Int) : giF (.int i) (.int j) = some (.bool (decide (j < i))) := rfl
theorem geiF_int (i j : Int) : geiF (.int i) (.int j) = some (.bool (decide (j ≤ i))) := rfl
theorem addF_int (i j : Int) : addF (.int i) (.int j) = some (.int (i + j)) := rfl
theorem subF_int (i j : Int) : subF (.int i) (.int j) = some (.int (i - j)) := rfl
theorem lenF_str (z : Str) : lenF [.str z] = some (.int z.length) := rfl
theorem lenF_list (z : List PyData) : lenF [.list z] = some (.int z.length) := rfl
theorem lenF_tup (z : List PyData) : lenF [.tuple z] = some (.int z.length) := rfl
theorem wipe0 (e : List Sl) : wipeE e [] = e := rfl
theorem wipe1 (e : List Sl) (v : Nat) (vs : List Nat) : wipeE e (v :: vs) = (wipeE e vs).set v .no := rfl
theorem allF_list (ds : List PyData) : allF [.list ds] = (boolsOf ds).map fun bs => .bool (bs.all id) := rfl
theorem allF_map (f : PyData → Bool) (ds : List PyData) : allF [.list (ds.map fun d => .bool (f d))] = some (.bool (ds.all f)) := by
  rw [allF_list, bools_map]
  show some (PyData.bool ((ds.map f).all id)) = _
  rw [List.all_map] <;> rfl
theorem filter_yes (ds : List PyData) : ds.filter (fun _ => true) = ds := by simp
end SM

set_option Elab.async false
set_option linter.all false
set_option maxRecDepth 100000
set_option maxHeartbeats 4000000
namespace SM
open PySem PySem.Spec PyProof.Rows L2
variable [PW]

/-! ### dicts by data -/
def toKey : PyData → Option Key
  | .int i => some (.inl i)
  | .str x => some (.inr x)
  | _ => none
def keyEq (p : PyData) (k : Key) : Bool := match toKey p with
  | some j => decide (j = k)
  | none => false
def lookD (ds : List (PyData × PyData)) (k : Key) : Option PyData := (ds.find? fun p => keyEq p.1 k).map (·.2)
def putD (ds : List (PyData × PyData)) (k : Key) (c : PyData) : List (PyData × PyData) :=
  if (ds.any fun p => keyEq p.1 k) = true then ds.map (fun p => if keyEq p.1 k = true then (p.1, c) else p) else ds ++ [(kP k, c)]
theorem key_kP (j k : Key) : keyEq (kP j) k = decide (j = k) := by
  cases j <;> rfl
theorem toKey_kP (k : Key) : toKey (kP k) = some k := by
  cases k <;> rfl
section
variable {K : PySem.W.Frag} {H : Hp} {M : Mu}
theorem DKs.look (k : Key) : ∀ {kvs : List (Key × V)} {ds : List (PyData × PyData)}, DKs K H M kvs ds → (lookD ds k = none ∧ valV kvs k = none) ∨ ∃ d v, lookD ds k = some d ∧ valV kvs k = some v ∧ DV K H M v d
  | _, _, .nil => .inl ⟨rfl, rfl⟩
  | _, _, .cons (k := j) (v := v) (kvs := kvs) (d := d) (ds := ds) a t => by
    by_cases e : j = k
    · refine .inr ⟨d, v, ?_, valV_pos (p := (j, v)) e, a⟩
      unfold lookD
      rw [List.find?_cons_of_pos (by rw [key_kP]; exact decide_eq_true e)] <;> rfl
    · have e1 : lookD ((kP j, d) :: ds) k = lookD ds k := by
        unfold lookD
        rw [List.find?_cons_of_neg (by rw [key_kP, decide_eq_false e]; exact Bool.false_ne_true)]
      rw [e1, valV_neg (p := (j, v)) e]
      exact t.look k
theorem DKs.any (k : Key) : ∀ {kvs : List (Key × V)} {ds : List (PyData × PyData)}, DKs K H M kvs ds → (ds.any fun p => keyEq p.1 k) = (kvs.any fun kv => decide (kv.1 = k))
  | _, _, .nil => rfl
  | _, _, .cons a t => by rw [List.any_cons, List.any_cons, key_kP, t.any k]
theorem DKs.map {k : Key} {v : V} {c : PyData} (hv : DV K H M v c) : ∀ {kvs : List (Key × V)} {ds : List (PyData × PyData)}, DKs K H M kvs ds → DKs K H M (kvs.map fun kv => if kv.1 = k then (kv.1, v) else kv) (ds.map fun p => if keyEq p.1 k = true then (p.1, c) else p)
  | _, _, .nil => .nil
  | _, _, .cons (k := j) a t => by
    rw [List.map_cons, List.map_cons, key_kP]
    by_cases e : j = k
    · rw [if_pos e, if_pos (decide_eq_true e)]
      exact .cons hv (t.map hv)
    · rw [if_neg e, if_neg (by rw [decide_eq_false e]; exact Bool.false_ne_true)]
      exact .cons a (t.map hv)
theorem DKs.snoc {k : Key} {v : V} {c : PyData} (hv : DV K H M v c) : ∀ {kvs : List (Key × V)} {ds : List (PyData × PyData)}, DKs K H M kvs ds → DKs K H M (kvs ++ [(k, v)]) (ds ++ [(kP k, c)])
  | _, _, .nil => .cons hv .nil
  | _, _, .cons a t => .cons a (t.snoc hv)
theorem DKs.put {k : Key} {v : V} {c : PyData} {kvs : List (Key × V)} {ds : List (PyData × PyData)} (a : DKs K H M kvs ds) (hv : DV K H M v c) : DKs K H M (putK kvs k v) (putD ds k c) := by
  unfold putK putD
  rw [a.any k]
  split
  · exact a.map hv
  · exact a.snoc hv
theorem DKs.length : ∀ {kvs : List (Key × V)} {ds : List (PyData × PyData)}, DKs K H M kvs ds → kvs.length = ds.length
  | _, _, .nil => rfl
  | _, _, .cons _ t => congrArg (· + 1) t.length
theorem key_of {v : V} {d : PyData} {k : Key} (h : DV K H M v d) (e : toKey d = some k) : v = kV k := by
  cases h <;> cases e <;> rfl
end
def getF : PyData → PyData → Option PyData
  | .dict ds, e => (toKey e).bind (lookD ds)
  | _, _ => none
/-- e in d -/
def inDF : PyData → PyData → Option PyData
  | e, .dict ds => (toKey e).map fun k => .bool (lookD ds k).isSome
  | _, _ => none
section
variable {K : PySem.W.Frag} {kt : Str} {ta tb te : TE} {fa fb f : DT}
theorem ab_dget (ha : Abs K kt ta fa) (hb : Abs K kt tb fb) : Abs K kt (tDGet ta tb) fun env k R => fa env k fun d k1 => fb env k1 fun e k2 => ∃ c, getF d e = some c ∧ R c k2 := fun F M σ H env k R Q D h q =>
  ha F M σ H env k _ _ D h fun v1 H1 d k1 p1 h1 => hb F M σ H1 env k1 _ _ (D.grow p1.gr p1.fu) h1 fun v2 H2 e k2 p2 ⟨c, hc, h2⟩ => by
    have D1 := D.grow p1.gr p1.fu
    have dv := p1.dv.out (D1.out p2.gr)
    unfold getF at hc
    split at hc
    · obtain ⟨k3, hk, hl⟩ := Option.bind_eq_some_iff.mp hc
      cases dv with
      | dct n ed al =>
        rcases al.look k3 with ⟨z, _⟩ | ⟨d', v, z, hv, dv'⟩
        · rw [z] at hl
          cases hl
        · rw [z] at hl
          cases hl
          exact ⟨_, v, rfl, .inl ⟨_, k3, .inl ed, key_of p2.dv hk, hv.symm⟩, q v H2 _ k2 ⟨dv', p1.gr.trans p2.gr, p2.fu⟩ h2⟩
    · cases hc
theorem ab_din (ha : Abs K kt ta fa) (hb : Abs K kt tb fb) : Abs K kt (tDIn ta tb) fun env k R => fa env k fun d k1 => fb env k1 fun e k2 => ∃ c, inDF d e = some c ∧ R c k2 := fun F M σ H env k R Q D h q =>
  ha F M σ H env k _ _ D h fun v1 H1 d k1 p1 h1 => hb F M σ H1 env k1 _ _ (D.grow p1.gr p1.fu) h1 fun v2 H2 e k2 p2 ⟨c, hc, h2⟩ => by
    have D1 := D.grow p1.gr p1.fu
    have dv := p1.dv.out (D1.out p2.gr)
    have dw := p2.dv
    unfold inDF at hc
    split at hc
    · obtain ⟨k3, hk, rfl⟩ := Option.map_eq_some_iff.mp hc
      cases dw with
      | dct n ed al =>
        rcases al.look k3 with ⟨z, z2⟩ | ⟨d', v, z, z2, _⟩
        · refine ⟨_, none, rfl, .inl ⟨_, k3, .inl ed, key_of dv hk, z2.symm⟩, q _ H2 _ k2 ⟨?_, p1.gr.trans p2.gr, p2.fu⟩ h2⟩
          rw [z]
          exact .bl _
        · refine ⟨_, some v, rfl, .inl ⟨_, k3, .inl ed, key_of dv hk, z2.symm⟩, q _ H2 _ k2 ⟨?_, p1.gr.trans p2.gr, p2.fu⟩ h2⟩
          rw [z]
          exact .bl _
    · cases hc
/-- == a text -/
def strIs : PyData → Str → Bool
  | .str x, z => x == z
  | _, _ => false
def eqSF : PyData → PyData → Option PyData
  | d, .str z => some (.bool (strIs d z))
  | _, _ => none
theorem eqSF_str (d : PyData) (z : Str) : eqSF d (.str z) = some (.bool (strIs d z)) := rfl
theorem oa_eqS : OpA K (rEqS K) eqSF := fun M H x y d e c Q tr hx hy h q => by
  unfold eqSF at h
  split at h
  · rename_i z
    cases h
    cases hy
    refine ⟨z, rfl, ?_⟩
    have q' := fun b (e : strIs d z = b) => q (.bl b) H (by rw [← e]; exact .bl _) (Same.refl H)
    cases hx with
    | non => exact .inl ⟨rfl, q' _ rfl⟩
    | bl b => exact .inr (.inl ⟨b, rfl, q' _ rfl⟩)
    | int i => exact .inr (.inr (.inl ⟨i, rfl, q' _ rfl⟩))
    | str v _ => exact .inr (.inr (.inr (.inl ⟨v, rfl, q' _ rfl⟩)))
    | lst n e a => exact .inr (.inr (.inr (.inr (.inl ⟨_, _, rfl, SqL.of e, q' _ rfl⟩))))
    | tup n e a => exact .inr (.inr (.inr (.inr (.inr (.inl ⟨_, _, rfl, SqT.of e, q' _ rfl⟩)))))
    | dct n e a => exact .inr (.inr (.inr (.inr (.inr (.inr ⟨_, _, rfl, e, q' _ rfl⟩)))))
  · cases h
/-- == [] -/
def eqEF : PyData → PyData → Option PyData
  | .list xs, .list [] => some (.bool xs.isEmpty)
  | _, _ => none
theorem eqEF_nil (xs : List PyData) : eqEF (.list xs) (.list []) = some (.bool xs.isEmpty) := rfl
theorem oa_eqE : OpA K (rEqE K) eqEF := fun M H x y d e c Q tr hx hy h q => by
  unfold eqEF at h
  split at h
  · rename_i zs
    cases h
    cases hx with
    | @lst a vs _ n e al =>
      cases hy with
      | @lst b us _ n2 e2 al2 =>
        cases al2
        refine ⟨a, b, vs, rfl, rfl, SqL.of e, SqL.of e2, ?_⟩
        have g : vs.isEmpty = zs.isEmpty := by
          have := al.length
          cases vs <;> cases zs <;> first | rfl | (simp at this)
        rw [g]
        exact q _ H (.bl _) (Same.refl H)
  · cases h
/-! ### dict comprehensions -/
theorem dc_go {J : It} {n : Nat} {G : Hp → Prop} {Y : Nat → Hp → V → Hp → Prop} (w : Walk J n G Y) {g : TG} {tt : TT} {tk tv : TE} {vs : List Nat} {σ : L2.St} {H1 : Hp} {D : Addr} {Qd : Hp → Prop} (Pv : Nat → Hp → Prop) (h0 : Pv 0 (upd H1 D (.dK []))) (hG : ∀ i H, i ≤ n → Pv i H → G H)
    (hs : ∀ i x H H', i < n → Pv i H → Y i H x H' → g x (L2.wipe σ vs) H' fun τ H2 => L2.wipe τ vs = L2.wipe σ vs ∧ tt τ H2 fun b h3 =>
      if b = true then tk τ h3 fun y h4 => tv τ h4 fun z h5 => ∃ ps key, y = kV key ∧ h5 D = some (.dK ps) ∧ ps.length < sizeLine ∧ Pv (i + 1) (upd h5 D (.dK (putK ps key z))) else Pv (i + 1) h3) (hd : ∀ H, Pv n H → Qd H) :
    ∃ W : Nat → Nat → Hp → Prop, (∃ m, W 0 m (upd H1 D (.dK []))) ∧ ∀ i m H, W i m H →
      (J.stop i H ∧ Qd H) ∨ (J.go i H ∧ ∃ After : Hp → Prop, (∀ H', After H' → ∃ m', m' < m ∧ W (i + 1) m' H') ∧ ∀ x H', J.yld i H x H' → g x (L2.wipe σ vs) H' fun τ H2 => L2.wipe τ vs = L2.wipe σ vs ∧ tt τ H2 fun b h3 =>
        if b = true then tk τ h3 fun y h4 => tv τ h4 fun z h5 => ∃ ps key, y = kV key ∧ h5 D = some (.dK ps) ∧ ps.length < sizeLine ∧ After (upd h5 D (.dK (putK ps key z))) else After h3) := by
  refine ⟨fun i m H => m = n - i ∧ i ≤ n ∧ Pv i H, ⟨n, by simp, Nat.zero_le _, h0⟩, ?_⟩
  rintro i m H ⟨rfl, hi, p⟩
  have q := hG i H hi p
  by_cases hlt : i < n
  · exact .inr ⟨w.goes i H hlt q, Pv (i + 1), fun H' p' => ⟨n - (i + 1), by omega, rfl, hlt, p'⟩, fun x H' y => hs i x H H' hlt p (w.yields i H x H' hlt q y)⟩
  · have e : i = n := by omega
    subst e
    exact .inl ⟨w.stops H q, hd H p⟩
def compDD (fg : DTG) (ft : DTT) (fk fv : DT) (env0 : List Sl) : List PyData → List (PyData × PyData) → Nat → (PyData → Nat → Prop) → Prop
  | [], acc, k, R => R (.dict acc) k
  | d :: r, acc, k, R => fg d env0 k fun env2 k2 => ft env2 k2 fun b k3 => (b = true → fk env2 k3 fun x k4 => fv env2 k4 fun c k5 => ∃ j, toKey x = some j ∧ compDD fg ft fk fv env0 r (putD acc j c) k5 R) ∧ (b = false → compDD fg ft fk fv env0 r acc k3 R)
theorem putD_length (acc : List (PyData × PyData)) (j : Key) (c : PyData) : (putD acc j c).length ≤ acc.length + 1 := by
  unfold putD
  split
  · rw [List.length_map]
    omega
  · rw [List.length_append]
    exact Nat.le_refl _
theorem af_dc {wi : TI} {fi : DTA} {g : TG} {fg : DTG} {tt : TT} {ft : DTT} {tk tv : TE} {fk fv : DT} {vs : List Nat} (hi : AbsI K kt wi fi) (hg : AbsG K kt vs g fg) (ht : AbsT K kt tt ft) (hk : Abs K kt tk fk) (he : Abs K kt tv fv) :
    AbsF K kt (tDc wi g tt tk tv vs) fun env k R => fi env k fun ds k1 => ds.length ≤ 100000 ∧ compDD fg ft fk fv (wipeE env vs) ds [] k1 R := fun F M σ H env k R Q D h q => by
  refine hi F M σ H env k _ _ D h fun J H1 ds k1 src gr fu ⟨hz, r⟩ => ?_
  intro L hL
  have D1 := D.grow gr fu
  have hLM : L ∉ M := D1.new hL
  have hn : ∀ a, F.pen = some a → a.1 ≠ L ∧ a.2 ≠ L := fun a e => ⟨fun z => hLM (by rw [← z]; exact D1.sub _ (D1.pn a e).1), fun z => hLM (by rw [← z]; exact D1.sub _ (D1.pn a e).2.1)⟩
  obtain ⟨n, G, Y, wk, hlen, hGY⟩ := src.ex
  obtain ⟨hG, hY⟩ := hGY (L :: M) (L :: M) (Ext.cons hL) (Ext.cons hL)
  have ou : ∀ {H' : Hp}, Gr F.pen H1 H' → Out (L :: M) H1 H' := fun g b o nb e => D1.out g b o (fun z => nb (List.mem_cons_of_mem _ z)) e
  have s0 : Same H1 (upd H1 L (.dK [])) := fun b o e => by rw [upd_ne (ne_of_none e hL)]; exact e
  let F' : Fr := ⟨L :: F.M0, L :: M, L :: M, fun _ => none, F.pen, fun q hq => ⟨List.mem_cons_of_mem _ (F.tm q hq).1, List.mem_cons_of_mem _ (D1.sub _ (F.tm q hq).1)⟩⟩
  have Lp : ∀ {Ha Hb : Hp}, Gr F.pen Ha Hb → ∀ {o : HO}, Ha L = some o → Hb L = some o := fun g o e => g.st L _ (fun z => by
    obtain ⟨qq, e1, e2⟩ := Option.map_eq_some_iff.mp z.symm
    exact (hn qq e1).1 e2) (fun z => hLM (D1.sub _ (F.tm _ z).1)) e
  refine dc_go wk (fun i H' => ∃ k' xs acc, Dat K kt F' (L :: M) (L2.wipe σ vs) H' (wipeE env vs) k' ∧ Gr F.pen H1 H' ∧ H' L = some (.dK xs) ∧ DKs K H' (L :: M) xs acc ∧ acc.length ≤ i ∧ compDD fg ft fk fv (wipeE env vs) (ds.drop i) acc k' R)
    ⟨k1, [], [], (D1.wipe vs).more hL, Gr.of_same s0, upd_same, .nil, Nat.le_refl _, r⟩ ?_ ?_ ?_
  · rintro i H' hin ⟨k', xs, acc, D', g', _⟩
    exact hG H' (ou g')
  · rintro i x H' H2 hin ⟨k', xs, acc, D', g', eL, da, hacc, r'⟩ y
    obtain ⟨d, hd, dv, s⟩ := hY i H' x H2 hin (ou g') D'.tr y
    have hlt : i < ds.length := by omega
    have ed : ds.drop i = d :: ds.drop (i + 1) := by
      rw [List.drop_eq_getElem_cons hlt]
      congr 1
      rw [List.getElem?_eq_getElem hlt] at hd
      exact Option.some.inj hd
    rw [ed] at r'
    have D2 := D'.same s
    refine hg F' (L :: M) x d _ H2 _ k' _ _ D2 dv r' fun σ3 H3 env3 k3 D3 s3 w3 r3 => ⟨?_, ?_⟩
    · rw [w3]
      exact wipe_wipe σ vs
    · refine ht F' (L :: M) σ3 H3 env3 k3 _ _ D3 r3 fun b H4 k4 g4 f4 ⟨q1, q2⟩ => ?_
      have D4 := D3.grow g4 f4
      have g14 : Gr F.pen H1 H4 := ((g'.trans (Gr.of_same s)).trans (Gr.of_same s3)).trans g4
      have gp : Gr F.pen H' H4 := ((Gr.of_same s).trans (Gr.of_same s3)).trans g4
      cases b with
      | true =>
        show tk σ3 H4 _
        refine hk F' (L :: M) σ3 H4 env3 k4 _ _ D4 (q1 rfl) fun y H5 cx k5 p5 r5 => ?_
        have D5 := D4.grow p5.gr p5.fu
        refine he F' (L :: M) σ3 H5 env3 k5 _ _ D5 r5 fun v H6 c k6 p6 ⟨j, hj, r6⟩ => ?_
        have gp6 : Gr F.pen H' H6 := (gp.trans p5.gr).trans p6.gr
        have D6 : Dat K kt F' (L :: M) (L2.wipe σ vs) H6 (wipeE env vs) k6 := D'.grow gp6 p6.fu
        refine ⟨xs, j, key_of p5.dv hj, Lp gp6 eL, ?_, k6, putK xs j v, putD acc j c, D6.mut List.mem_cons_self rfl hn (Lp gp6 eL) plain_dK, ?_, upd_same, ?_, Nat.le_trans (putD_length _ _ _) (Nat.succ_le_succ hacc), r6⟩
        · rw [da.length]
          exact Nat.lt_of_le_of_lt (Nat.le_trans hacc (by omega)) (by decide : 100000 < sizeLine)
        · exact ⟨fun bb o nb nt e => by
            rw [upd_ne (ne_of_none e hL)]
            exact ((g14.trans p5.gr).trans p6.gr).st bb o nb nt e, fun t => Tabs.upd (Lp gp6 eL) plain_dK (((g14.trans p5.gr).trans p6.gr).lv t)⟩
        · have da6 := DKs.out (D'.out gp6) _ da
          have u : Out (L :: M) H6 (upd H6 L (.dK (putK xs j v))) := fun bb o nb e => by rw [upd_ne (fun z => nb (by rw [z]; exact List.mem_cons_self))]; exact e
          exact DKs.out u _ (da6.put p6.dv)
      | false =>
        show ∃ _, _
        have D5 : Dat K kt F' (L :: M) (L2.wipe σ vs) H4 (wipeE env vs) k4 := D'.grow gp f4
        exact ⟨k4, xs, acc, D5, g14, Lp gp eL, DKs.out (D'.out gp) _ da, Nat.le_succ_of_le hacc, q2 rfl⟩
  · rintro H' ⟨k', xs, acc, D', g', eL, da, hacc, r'⟩
    rw [List.drop_eq_nil_of_le (by omega)] at r'
    exact q L H' (.dict acc) k' (D.fresh gr fu hL) (own_dct eL da) rfl (gr.trans g') D'.fu r'
end
/-- a dict's comprehension: what holds ahead of each turn -/
theorem dc_rec {fg : DTG} {ft : DTT} {fk fv : DT} {env : List Sl} {R : PyData → Nat → Prop} (P : List PyData → List (PyData × PyData) → Nat → Prop) (h0 : ∀ acc k, P [] acc k → R (.dict acc) k)
    (h1 : ∀ d r acc k, P (d :: r) acc k → ∀ N : List (PyData × PyData) → Nat → Prop, (∀ acc' k', P r acc' k' → N acc' k') →
      fg d env k fun e2 k2 => ft e2 k2 fun b k3 => (b = true → fk e2 k3 fun x k4 => fv e2 k4 fun c k5 => ∃ j, toKey x = some j ∧ N (putD acc j c) k5) ∧ (b = false → N acc k3)) :
    ∀ {ds : List PyData} {acc : List (PyData × PyData)} {k : Nat}, P ds acc k → compDD fg ft fk fv env ds acc k R
  | [], acc, k, h => h0 acc k h
  | d :: r, acc, k, h => h1 d r acc k h (fun acc' k' => compDD fg ft fk fv env r acc' k' R) fun acc' k' h' => dc_rec P h0 h1 h'
/-- a list's -/
theorem lc_rec {fg : DTG} {ft : DTT} {fe : DT} {env : List Sl} {R : PyData → Nat → Prop} (P : List PyData → List PyData → Nat → Prop) (h0 : ∀ acc k, P [] acc k → R (.list acc) k)
    (h1 : ∀ d r acc k, P (d :: r) acc k → ∀ N : List PyData → Nat → Prop, (∀ acc' k', P r acc' k' → N acc' k') →
      fg d env k fun e2 k2 => ft e2 k2 fun b k3 => (b = true → fe e2 k3 fun c k4 => N (acc ++ [c]) k4) ∧ (b = false → N acc k3)) :
    ∀ {ds acc : List PyData} {k : Nat}, P ds acc k → compD fg ft fe env ds acc k R
  | [], acc, k, h => h0 acc k h
  | d :: r, acc, k, h => h1 d r acc k h (fun acc' k' => compD fg ft fe env r acc' k' R) fun acc' k' h' => lc_rec P h0 h1 h'
end SM

set_option Elab.async false
set_option linter.all false
set_option maxRecDepth 100000
set_option maxHeartbeats 4000000
namespace SM
open PySem PySem.Spec PyProof.Rows L2
variable [PW]
variable {xw : XK}

/-! ### the dict that numbers are drawn from: reads and stores -/
section
variable {kt : Str} {H : Hp} {a : Addr} {x y z v : V}
theorem kCR : kC ≠ kR := fun z => by cases z
theorem pen_c (h : H a = some (.dK [(kC, x), (Sum.inr kt, y), (kR, z)])) : DGet H a (.str "cells") (some x) := by
  have e := DGet.k (k := kC) h
  rw [valV_pos (k := kC) rfl] at e
  exact e
theorem pen_t (h1 : kC ≠ Sum.inr kt) (h : H a = some (.dK [(kC, x), (Sum.inr kt, y), (kR, z)])) : DGet H a (.str kt) (some y) := by
  have e := DGet.k (k := Sum.inr kt) h
  rw [valV_neg (k := Sum.inr kt) h1, valV_pos (k := Sum.inr kt) rfl] at e
  exact e
theorem pen_r (h1 : kR ≠ Sum.inr kt) (h : H a = some (.dK [(kC, x), (Sum.inr kt, y), (kR, z)])) : DGet H a (.str "rest") (some z) := by
  have e := DGet.k (k := kR) h
  rw [valV_neg (k := kR) kCR, valV_neg (k := kR) (p := (Sum.inr kt, y)) (fun q => h1 q.symm), valV_pos (k := kR) rfl] at e
  exact e
theorem pen_pt (h1 : kC ≠ Sum.inr kt) (h2 : kR ≠ Sum.inr kt) (h : H a = some (.dK [(kC, x), (Sum.inr kt, y), (kR, z)])) : DPut H a (.str kt) v (upd H a (.dK [(kC, x), (Sum.inr kt, v), (kR, z)])) := by
  have e := DPut.k (k := Sum.inr kt) (v := v) h (Nat.lt_of_lt_of_le (show 3 < 100000 by decide) (by decide))
  rw [show putK [(kC, x), (Sum.inr kt, y), (kR, z)] (Sum.inr kt) v = [(kC, x), (Sum.inr kt, v), (kR, z)] by simp [putK, h1, h2]] at e
  exact e
theorem pen_pr (h1 : kC ≠ Sum.inr kt) (h2 : kR ≠ Sum.inr kt) (h : H a = some (.dK [(kC, x), (Sum.inr kt, y), (kR, z)])) : DPut H a (.str "rest") v (upd H a (.dK [(kC, x), (Sum.inr kt, y), (kR, v)])) := by
  have e := DPut.k (k := kR) (v := v) h (Nat.lt_of_lt_of_le (show 3 < 100000 by decide) (by decide))
  rw [show putK [(kC, x), (Sum.inr kt, y), (kR, z)] kR v = [(kC, x), (Sum.inr kt, y), (kR, v)] by simp [putK, kCR, h2.symm]] at e
  exact e
end
/-- the key of the turn is neither of the others -/
def OkT (kt : Str) : Prop := kC ≠ Sum.inr kt ∧ kR ≠ Sum.inr kt
section
variable {K : PySem.W.Frag} {kt : Str} {te tv : TE} {f fv : DT}
theorem ab_penR (i : Nat) (o : OkT kt) : Abs K kt (tDGet (tVar i) (tC (.str "rest"))) fun env k R => env[i]? = some Sl.pen ∧ ∀ r : Int, 0 ≤ r → R (.int r) k := fun F M σ H env k R Q D ⟨hi, h⟩ q => by
  obtain ⟨a, e, hv⟩ := D.pi i hi
  obtain ⟨n, ⟨ns, t, r, h1, h2, h3, h4, h5, h6⟩, hn⟩ := D.fu a e
  exact ⟨_, hv, a.1, .int r, rfl, pen_r o.2 h1, q _ H _ k (D.post (.int r)) (h r h6)⟩
theorem ab_penT (i : Nat) (o : OkT kt) : Abs K kt (tDGet (tVar i) (tC (.str kt))) fun env k R => env[i]? = some Sl.pen ∧ ∀ t : Int, 0 ≤ t → t + k ≤ 100000000000 → R (.int t) k := fun F M σ H env k R Q D ⟨hi, h⟩ q => by
  obtain ⟨a, e, hv⟩ := D.pi i hi
  obtain ⟨n, ⟨ns, t, r, h1, h2, h3, h4, h5, h6⟩, hn⟩ := D.fu a e
  exact ⟨_, hv, a.1, .int t, rfl, pen_t o.1 h1, q _ H _ k (D.post (.int t)) (h t h4 (by omega))⟩
theorem ab_penLen (i : Nat) : Abs K kt (tCB (fun xs H Q => ∃ x n, xs = [x] ∧ LenV K x H n ∧ Q (.int n) H) (tCons (tDGet (tVar i) (tC (.str "cells"))) tNil)) fun env k R => env[i]? = some Sl.pen ∧ ∀ n : Nat, n ≤ 63 → R (.int n) k := fun F M σ H env k R Q D ⟨hi, h⟩ q => by
  obtain ⟨a, e, hv⟩ := D.pi i hi
  obtain ⟨n, ⟨ns, t, r, h1, h2, h3, h4, h5, h6⟩, hn⟩ := D.fu a e
  exact ⟨_, hv, a.1, .ref a.2, rfl, pen_c h1, .ref a.2, ns.length, rfl, .inl ⟨_, SqL.of h2, by rw [List.length_map]⟩, q _ H _ k (D.post (.int _)) (h _ h3)⟩
theorem as_penR (i : Nat) (o : OkT kt) (hv : Abs K kt tv fv) : AbsS xw K kt (sDPut (tVar i) (tC (.str "rest")) tv) fun B env k => env[i]? = some Sl.pen ∧ fv env k fun d k1 => ∃ r : Int, d = .int r ∧ 0 ≤ r ∧ B.nx env k1 := fun F M σ H env k B D h ⟨hi, g⟩ e =>
  hv F M σ H env k _ _ h g fun v1 H1 d k1 p1 ⟨r, ed, hr, g1⟩ => by
    subst ed
    have ev := int_of p1.dv
    subst ev
    have D1 := h.grow p1.gr p1.fu
    obtain ⟨a, ea, hσ⟩ := D1.pi i hi
    obtain ⟨m1, m2, m3, n, ⟨ns, t, r0, h1, h2, h3, h4, h5, h6⟩, hn⟩ := D1.pn a ea
    refine ⟨_, hσ, a.1, _, rfl, pen_pr o.1 o.2 h1, e.nx M σ _ _ k1 (D1.grow ⟨fun b x nb _ eb => by
      rw [upd_ne (fun z => nb (by rw [z, ea]; rfl))]; exact eb, fun t => Tabs.upd h1 plain_dK t⟩ (fun a2 e2 => ?_)) g1⟩
    rw [ea] at e2
    cases e2
    have ne : a.2 ≠ a.1 := ne_of h2 h1 (fun z => nomatch z)
    exact ⟨n, ⟨ns, t, r, upd_same, by rw [upd_ne ne]; exact h2, h3, h4, h5, hr⟩, hn⟩
theorem as_penT (i : Nat) (o : OkT kt) (hv : Abs K kt tv fv) : AbsS xw K kt (sDPut (tVar i) (tC (.str kt)) tv) fun B env k => env[i]? = some Sl.pen ∧ fv env k fun d k1 => ∃ t : Int, d = .int t ∧ 0 ≤ t ∧ 0 < k1 ∧ t + k1 ≤ 100000000001 ∧ B.nx env (k1 - 1) := fun F M σ H env k B D h ⟨hi, g⟩ e =>
  hv F M σ H env k _ _ h g fun v1 H1 d k1 p1 ⟨t', ed, ht, hk, hb, g1⟩ => by
    subst ed
    have ev := int_of p1.dv
    subst ev
    have D1 := h.grow p1.gr p1.fu
    obtain ⟨a, ea, hσ⟩ := D1.pi i hi
    obtain ⟨m1, m2, m3, n, ⟨ns, t, r0, h1, h2, h3, h4, h5, h6⟩, hn⟩ := D1.pn a ea
    refine ⟨_, hσ, a.1, _, rfl, pen_pt o.1 o.2 h1, e.nx M σ _ _ (k1 - 1) (D1.grow ⟨fun b x nb _ eb => by
      rw [upd_ne (fun z => nb (by rw [z, ea]; rfl))]; exact eb, fun t => Tabs.upd h1 plain_dK t⟩ (fun a2 e2 => ?_)) g1⟩
    rw [ea] at e2
    cases e2
    have ne : a.2 ≠ a.1 := ne_of h2 h1 (fun z => nomatch z)
    exact ⟨t'.toNat, ⟨ns, t', r0, upd_same, by rw [upd_ne ne]; exact h2, h3, ht, by omega, h6⟩, by omega⟩
theorem dp_ints {H : Hp} : ∀ ns : List Int, DpAll K H (ns.map V.int) (ns.map PyData.int)
  | [] => .nil
  | _ :: r => .cons (.int _) (dp_ints r)
theorem plain_ints : ∀ ns : List Int, PyData.plainAll (ns.map PyData.int) = true ∧ PyData.depthAll (ns.map PyData.int) = 0
  | [] => ⟨rfl, rfl⟩
  | n :: r => by
    obtain ⟨h1, h2⟩ := plain_ints r
    exact ⟨by rw [List.map_cons, PyData.plainAll, h1]; rfl, by rw [List.map_cons, PyData.depthAll, h2]; rfl⟩
/-- if stream["cells"] != []: cell = stream["cells"][turn modulo len(stream["cells"])] -/
theorem as_cells (i j c : Nat) : AbsS xw K kt (tIfS (tTest (tOp (rNeP K) (tDGet (tVar i) (tC (.str "cells"))) (tLst tNil)))
    (tAsg (tOp (rIx K) (tDGet (tVar i) (tC (.str "cells"))) (tOp (rI (fun _ j => 0 < j) fun i j => .int (i % j)) (tVar j) (tCB (fun xs H Q => ∃ x n, xs = [x] ∧ LenV K x H n ∧ Q (.int n) H) (tCons (tDGet (tVar i) (tC (.str "cells"))) tNil)))) (gName c)) tNext)
    fun B env k => env[i]? = some Sl.pen ∧ (∃ t : Int, env[j]? = some (.dat (.int t)) ∧ 0 ≤ t) ∧ B.nx env k ∧ ∀ x : Int, B.nx (env.set c (.dat (.int x))) k := fun F M σ H env k B D h ⟨hi, ⟨t0, hj, ht0⟩, g1, g2⟩ e => by
  obtain ⟨a, ea, hσ⟩ := h.pi i hi
  obtain ⟨n, ⟨ns, t, r, h1, h2, h3, h4, h5, h6⟩, hn⟩ := h.fu a ea
  refine ⟨_, hσ, a.1, .ref a.2, rfl, pen_c h1, Nat.zero_le _, fun p hp => ?_⟩
  have s : Same H (upd H p (.lst [])) := same_upd hp
  have D1 := h.same s
  have h1' := s _ _ h1
  have h2' := s _ _ h2
  have e2 : (upd H p (.lst [])) p = some (.lst []) := upd_same
  refine ⟨.list (ns.map PyData.int), .list [], .lst (SqL.of h2') (dp_ints ns), .lst (SqL.of e2) .nil, ?_, _, rfl, ?_⟩
  · have q := plain_ints ns
    simp [shal, PyData.plain, PyData.plainAll, PyData.depth, PyData.depthAll, q.1, q.2]
  · by_cases z : ns = []
    · subst z
      rw [show (!PyData.eqv (.list ([].map PyData.int)) (.list [])) = false by rfl]
      exact e.nx M σ _ env k D1 g1
    · have eb : (!PyData.eqv (.list (ns.map PyData.int)) (.list [])) = true := by
        cases ns with
        | nil => exact absurd rfl z
        | cons x r => rfl
      rw [eb]
      have hlen : 0 < ns.length := List.length_pos_iff.mpr z
      have hix : (t0 % (ns.length : Int)).toNat < ns.length := by
        have := Int.emod_lt_of_pos t0 (show (0 : Int) < ns.length by omega)
        have := Int.emod_nonneg t0 (show (ns.length : Int) ≠ 0 by omega)
        omega
      have hget : (ns.map V.int)[(t0 % (ns.length : Int)).toNat]? = some (.int (ns[(t0 % (ns.length : Int)).toNat])) := by
        rw [List.getElem?_map, List.getElem?_eq_getElem hix]
        rfl
      obtain ⟨v, hv, dv⟩ := h.sl j _ hj
      have ev := int_of dv
      subst ev
      have hpos : (0 : Int) < ns.length := by omega
      refine ⟨_, hσ, a.1, .ref a.2, rfl, pen_c h1', .int t0, hv, _, hσ, a.1, .ref a.2, rfl, pen_c h1', .ref a.2, ns.length, rfl, .inl ⟨_, SqL.of h2', by rw [List.length_map]⟩, t0, ns.length, rfl, rfl, hpos, .inl ⟨a.2, _, _, .int (ns[(t0 % (ns.length : Int)).toNat]), rfl, rfl, SqL.of h2', ?_, ?_⟩⟩
      · show (ixN _ _).bind (fun j => _) = _
        refine Option.bind_eq_some_iff.mpr ⟨(t0 % (ns.length : Int)).toNat, ?_, hget⟩
        have q0 := Int.emod_nonneg t0 (show (ns.length : Int) ≠ 0 by omega)
        have q1 := Int.emod_lt_of_pos t0 hpos
        unfold ixN
        rw [List.length_map, if_pos q0, if_pos q1]
      · exact e.nx M _ _ _ k (D1.set c (.int _)) (g2 _)
end
end SM

set_option Elab.async false
set_option linter.all false
set_option maxRecDepth 100000
set_option maxHeartbeats 4000000
namespace SM
open PySem PySem.Spec PyProof.Rows L2
variable [PW]
variable {xw : XK}
section
variable {K : PySem.W.Frag} {kt : Str} {te ta tb : TE} {f fa fb : DT}
/-- a, b, c = x, y, z -/
theorem as_par3 {i j l : Nat} {ta : TA} {fa : DTA} (h : AbsA K kt ta fa) : AbsS xw K kt (tPar3 i j l ta) fun B env k => fa env k fun ds k1 => ∃ d e c, ds = [d, e, c] ∧ B.nx (((env.set i (.dat d)).set j (.dat e)).set l (.dat c)) k1 := fun F M σ H env k B D h1 g e =>
  h F M σ H env k _ _ h1 g fun vs H' ds k' a gr fu ⟨d, c, c2, eq, r⟩ => by
    subst eq
    cases a with
    | cons a1 a2 =>
      cases a2 with
      | cons a2 a3 =>
        cases a3 with
        | cons a3 a4 =>
          cases a4
          exact ⟨_, _, _, rfl, e.nx M _ H' _ k' ((((h1.grow gr fu).set i a1).set j a2).set l a3) r⟩
/-- a, xs = x, [..] -/
theorem as_par01 {i j : Nat} (ha : Abs K kt ta fa) (hb : AbsF K kt tb fb) : AbsS xw K kt (tPar i j (tCons ta (tCons tb tNil))) fun B env k => fa env k fun d k1 => fb env k1 fun e k2 => B.nx ((env.set i (.dat d)).set j (.own e)) k2 := fun F M σ H env k B D h1 g e =>
  ha F M σ H env k _ _ h1 g fun v1 H1 d k1 p1 g1 => by
    have D1 := h1.grow p1.gr p1.fu
    refine hb F M σ H1 env k1 _ _ D1 g1 fun L H2 c k2 hL r ht gr fu g2 => ?_
    have D2 := D1.set i p1.dv
    exact ⟨_, _, rfl, e.nx (L :: M) _ H2 _ k2 (D2.take hL gr fu r) g2⟩
/-- a, b, xs = x, y, [..] -/
theorem as_par001 {i j l : Nat} {tc : TE} {fc : DT} (ha : Abs K kt ta fa) (hb : Abs K kt tb fb) (hc : AbsF K kt tc fc) : AbsS xw K kt (tPar3 i j l (tCons ta (tCons tb (tCons tc tNil)))) fun B env k => fa env k fun d k1 => fb env k1 fun e k2 => fc env k2 fun c k3 => B.nx (((env.set i (.dat d)).set j (.dat e)).set l (.own c)) k3 := fun F M σ H env k B D h1 g e =>
  ha F M σ H env k _ _ h1 g fun v1 H1 d k1 p1 g1 => by
    have D1 := h1.grow p1.gr p1.fu
    refine hb F M σ H1 env k1 _ _ D1 g1 fun v2 H2 d2 k2 p2 g2 => ?_
    have D2 := D1.grow p2.gr p2.fu
    refine hc F M σ H2 env k2 _ _ D2 g2 fun L H3 c k3 hL r ht gr fu g3 => ?_
    have D3 := (D2.set i (p1.dv.out (D1.out p2.gr))).set j p2.dv
    exact ⟨_, _, _, rfl, e.nx (L :: M) _ H3 _ k3 (D3.take hL gr fu r) g3⟩
/-- a, xs = x, [..] by a tuple -/
theorem as_tup01 {i j : Nat} (ha : Abs K kt ta fa) (hb : AbsF K kt tb fb) : AbsS xw K kt (tAsg (tTup (tCons ta (tCons tb tNil))) (gTup K 2 (gCons (gName i) (gCons (gName j) gNil)))) fun B env k => fa env k fun d k1 => fb env k1 fun e k2 => B.nx ((env.set i (.dat d)).set j (.own e)) k2 := fun F M σ H env k B D h1 g e =>
  ha F M σ H env k _ _ h1 g fun v1 H1 d k1 p1 g1 => by
    have D1 := h1.grow p1.gr p1.fu
    refine hb F M σ H1 env k1 _ _ D1 g1 fun L H2 c k2 hL r ht gr fu g2 => ⟨(show 2 ≤ sizeLine by decide), fun p hp => ?_⟩
    have D3 := ((D1.set i p1.dv).take (i := j) hL gr fu r).same (same_upd (o := .tup [v1, .ref L]) hp)
    exact ⟨p, _, rfl, SqT.of upd_same, rfl, _, _, rfl, _, _, rfl, rfl, e.nx (L :: M) _ _ _ k2 D3 g2⟩
/-- x, i.e. what stands at an index, of a list or a tuple -/
def iSeq (K : PySem.W.Frag) (tl : TE) : TI := fun σ H R => tl σ H fun x H1 => ∃ a, x = .ref a ∧ (((∃ xs, SqL K H1 a xs) ∧ R (Itl K a) H1) ∨ ((∃ xs, SqT K H1 a xs) ∧ R (Itt K a) H1))
theorem pi_seq {X : Cx} {tg l : Expr} {tl : TE} (hl : PE X l tl) : PI X tg l (iSeq X.K tl) := by
  refine ⟨fun pins s σ H R I h => ?_⟩
  refine thn (hl.run pins s σ H _ I h) fun u s1 ⟨x, H1, I1, rx, a, ex, q⟩ => ?_
  subst ex
  cases rx
  rcases q with ⟨⟨xs, hq⟩, q⟩ | ⟨⟨xs, hq⟩, q⟩
  · obtain ⟨its, rv, p, hz⟩ := I1.list hq
    refine wpAny_pyIter_list p.isList ?_
    refine ⟨s1.heap.objs.size, [s1.heap.objs.size], _, _, H1, rfl, I1.kept (t' := s1.toks) fun b o e => Heap.get?_push_of_some _ e, turn_list a _, ⟨_, Heap.get?_push_size _ rfl, rfl, rfl⟩, fun b hb => ?_, q⟩
    have e : b = s1.heap.objs.size := by simpa using hb
    subst e
    exact I1.fpOk (Nat.le_refl _) (I1.hok.fresh (Nat.le_refl _))
  · obtain ⟨its, rv, p, hz⟩ := I1.tuple hq
    refine wpAny_pyIter_tuple (show s1.heap.IsTuple a its.toArray from p) ?_
    refine ⟨s1.heap.objs.size, [s1.heap.objs.size], _, _, H1, rfl, I1.kept (t' := s1.toks) fun b o e => Heap.get?_push_of_some _ e, turn_tuple a _, ⟨_, Heap.get?_push_size _ rfl, rfl, rfl⟩, fun b hb => ?_, q⟩
    have e : b = s1.heap.objs.size := by simpa using hb
    subst e
    exact I1.fpOk (Nat.le_refl _) (I1.hok.fresh (Nat.le_refl _))
theorem ai_seq (h : Abs K kt te f) : AbsI K kt (iSeq K te) fun env k R => f env k fun d k1 => ∃ ds, (d = .list ds ∨ d = .tuple ds) ∧ R ds k1 := fun F M σ H env k R Q D hf q =>
  h F M σ H env k _ _ D hf fun v H' d k' p ⟨ds, e, r⟩ => by
    rcases e with e | e
    all_goals
      subst e
      obtain ⟨dv, gr, fu⟩ := p
    · cases dv with
      | @lst a xs _ nm ea al =>
        refine ⟨a, rfl, .inl ⟨⟨_, SqL.of ea⟩, q _ H' ds k' ⟨⟨xs.length, _, _, walk_list (K := K) (a := a) (xs := xs), al.length, fun Mc M2 xc x2 => ⟨fun H2 o => SqL.of (o _ _ (xc.no nm ea) ea), fun i H2 x H3 hi o tr y => ?_⟩⟩⟩ gr fu r⟩⟩
        obtain ⟨rfl, hx⟩ := y
        obtain ⟨d, hd, dv⟩ := al.get' hx
        exact ⟨d, hd, DV.move xc x2 o dv, Same.refl _⟩
    · cases dv with
      | @tup a xs _ nm ea al =>
        refine ⟨a, rfl, .inr ⟨⟨_, SqT.of ea⟩, q _ H' ds k' ⟨⟨xs.length, _, _, walk_tup (K := K) (a := a) (xs := xs), al.length, fun Mc M2 xc x2 => ⟨fun H2 o => SqT.of (o _ _ (xc.no nm ea) ea), fun i H2 x H3 hi o tr y => ?_⟩⟩⟩ gr fu r⟩⟩
        obtain ⟨rfl, hx⟩ := y
        obtain ⟨d, hd, dv⟩ := al.get' hx
        exact ⟨d, hd, DV.move xc x2 o dv, Same.refl _⟩

/-! ### sorted -/
theorem dvs_zip {H : Hp} {M : Mu} : ∀ {vs : List V} {ds : List PyData}, DVs K H M vs ds → (vs.zip ds).map Prod.fst = vs ∧ (vs.zip ds).map Prod.snd = ds ∧ ∀ p, p ∈ vs.zip ds → DV K H M p.1 p.2
  | _, _, .nil => ⟨rfl, rfl, fun p hp => nomatch hp⟩
  | _, _, .cons a t => by
    obtain ⟨h1, h2, h3⟩ := dvs_zip t
    refine ⟨by rw [List.zip_cons_cons, List.map_cons, h1], by rw [List.zip_cons_cons, List.map_cons, h2], fun p hp => ?_⟩
    rw [List.zip_cons_cons] at hp
    rcases List.mem_cons.mp hp with e | hp
    · rw [e]; exact a
    · exact h3 p hp
theorem dvs_all {H : Hp} {M : Mu} : ∀ {ps : List (V × PyData)}, (∀ p, p ∈ ps → DV K H M p.1 p.2) → DVs K H M (ps.map Prod.fst) (ps.map Prod.snd)
  | [], _ => .nil
  | p :: r, h => .cons (h p List.mem_cons_self) (dvs_all fun q hq => h q (List.mem_cons_of_mem _ hq))
def rSortedD (K : PySem.W.Frag) : List V → Hp → VK → Prop := fun xs H Q => ∃ (a : Addr) (ps : List (V × PyData)), xs = [.ref a] ∧ SqL K H a (ps.map Prod.fst) ∧ (∀ p, p ∈ ps → Dp K H p.1 p.2) ∧ PySem.W.AllAlike (ps.map Prod.snd) ∧ PySem.W.Sortable (ps.map Prod.snd) ∧ ps.length ≤ sizeLine ∧
  (∀ p, p ∈ ps → p.2.depth ≤ 60) ∧ ∀ p, H p = none → Q (.ref p) (upd H p (.lst ((ps.mergeSort (PySem.W.dataLe false Prod.snd)).map Prod.fst)))
theorem vals_each : ∀ {ps : List (V × PyData)} {us : List Value}, Vals (ps.map Prod.fst) us → PySem.W.EachIs (fun u p => RelV p.1 u) us ps
  | [], _, r => by cases r; exact .nil
  | p :: r, _, q => by
    rw [List.map_cons] at q
    cases q with
    | cons q1 q2 => exact .cons q1 (vals_each q2)
theorem each_vals : ∀ {ps : List (V × PyData)} {us : List Value}, PySem.W.EachIs (fun u p => RelV p.1 u) us ps → Vals (ps.map Prod.fst) us
  | _, _, .nil => .nil
  | _, _, .cons q t => .cons q (each_vals t)
theorem cr_sortedD {X : Cx} (hu : X.A.units + 64 < cLine) : CallR X (.builtin "sorted") (rSortedD X.K) := by
  intro pins s σ H vs us Q I r h
  obtain ⟨a, ps, rfl, hs, hd, al, so, hz, dep, q⟩ := h
  obtain ⟨its, rv, hl, _⟩ := I.list hs
  rw [Vals.ref1 r]
  have e := vals_each rv
  have er : PySem.W.EachIs (fun v b => ∃ as, PySem.Reads s.heap v (Prod.snd b) as) its ps := by
    have go : ∀ {ps : List (V × PyData)} {us : List Value}, PySem.W.EachIs (fun u p => RelV p.1 u) us ps → (∀ p, p ∈ ps → Dp X.K H p.1 p.2) → PySem.W.EachIs (fun v b => ∃ as, PySem.Reads s.heap v (Prod.snd b) as) us ps := by
      intro ps us q
      induction q with
      | nil => intro _; exact .nil
      | cons q1 t ih => intro hd; exact .cons (Dp.reads I _ _ _ (hd _ List.mem_cons_self) q1) (ih fun p hp => hd p (List.mem_cons_of_mem _ hp))
    exact go e hd
  refine PySem.W.sorted_data (enc := Prod.snd) (R := fun u p => RelV p.1 u) hl.isList e er al so hz (fun b hb => by have := dep b hb; omega) fun out h1 h2 => ?_
  obtain ⟨ep, he'⟩ := PyProof.Rows.sortedAll_at s.heap its (List.toArray out)
  have hlen : ((ps.mergeSort (PySem.W.dataLe false Prod.snd)).map Prod.fst).length ≤ sizeLine := by rw [List.length_map, List.length_mergeSort]; exact hz
  refine ⟨.ref _, upd H (s.heap.objs.size + 1) (.lst ((ps.mergeSort (PySem.W.dataLe false Prod.snd)).map Prod.fst)), I.laid (t' := s.toks) (fun _ _ => PyProof.Rows.sortedAll_old) (Nat.le_succ _) ⟨hlen, out, ep, each_vals h2, he'⟩, rfl, q _ (I.hok.fresh (Nat.le_succ _))⟩
theorem plain_mem : ∀ {ds : List PyData} {d : PyData}, PyData.plainAll ds = true → d ∈ ds → d.plain = true
  | e :: r, d, h, hd => by
    simp only [PyData.plainAll, Bool.and_eq_true] at h
    rcases List.mem_cons.mp hd with q | q
    · rw [q]; exact h.1
    · exact plain_mem h.2 q
theorem af_sorted {tx : TA} {fx : DTA} (hx : AbsA K kt tx fx) : AbsF K kt (tCB (rSortedD K) tx) fun env k R => fx env k fun as k1 => ∃ ds, as = [.list ds] ∧ PyData.plainAll ds = true ∧ (∀ d, d ∈ ds → d.depth ≤ 60) ∧ PySem.W.AllAlike ds ∧ PySem.W.Sortable ds ∧ ds.length ≤ 100000 ∧
    R (.list (ds.mergeSort (PySem.W.dataLe false id))) k1 := fun F M σ H env k R Q D h q =>
  hx F M σ H env k _ _ D h fun vs H1 as k1 a gr fu ⟨ds, e, pl, dep, al, so, hz, r⟩ => by
    subst e
    obtain ⟨v, rfl, dv⟩ := one_dv a
    cases dv with
    | @lst l xs _ nm ea al2 =>
      obtain ⟨z1, z2, z3⟩ := dvs_zip al2
      have D1 := D.grow gr fu
      refine ⟨l, xs.zip ds, rfl, by rw [z1]; exact SqL.of ea, fun p hp => ?_, by rw [z2]; exact al, by rw [z2]; exact so, ?_, fun p hp => ?_, fun p hp => ?_⟩
      · have hm : p.2 ∈ ds := by rw [← z2]; exact List.mem_map_of_mem hp
        exact (z3 p hp).dp p.2 (plain_mem pl hm)
      · have := congrArg List.length z2
        rw [List.length_map] at this
        rw [this]
        exact Nat.le_trans hz (by decide)
      · exact dep _ (by rw [← z2]; exact List.mem_map_of_mem hp)
      · have e2 : ((xs.zip ds).mergeSort (PySem.W.dataLe false Prod.snd)).map Prod.snd = ds.mergeSort (PySem.W.dataLe false id) := by
          rw [PySem.W.sort_maps (r := PySem.W.dataLe false Prod.snd) (s := PySem.W.dataLe false id) Prod.snd (fun _ _ _ _ => rfl), z2]
        refine q p _ _ k1 (D.fresh gr fu hp) (own_lst upd_same ?_) rfl (gr.trans (Gr.of_same (same_upd hp))) (fun a e => (fu a e).same (same_upd hp)) r
        rw [← e2]
        refine dvs_all fun x hx => ?_
        have hx' : x ∈ xs.zip ds := (List.mergeSort_perm _ _).mem_iff.mp hx
        exact DV.out (Out.of_same (same_upd hp)) _ (DV.more hp _ (z3 x hx'))
/-! ### texts -/
theorem strs_of : ∀ {ys : List Str} {H : Hp} {M : Mu} {xs : List V}, DVs K H M xs (ys.map PyData.str) → xs = ys.map V.str
  | [], _, _, _, h => by cases h; rfl
  | y :: r, _, _, _, h => by
    rw [List.map_cons] at h
    cases h with
    | cons a b =>
      cases a
      rw [strs_of b, List.map_cons]
/-- "..".join(xs) -/
theorem ab_join {x : Str} (h : Abs K kt te f) : Abs K kt (tM1 (fun x xs H Q => ∃ a p, ∃ ys : List Str, x = .str a ∧ xs = [.ref p] ∧ (SqL K H p (ys.map V.str) ∨ SqT K H p (ys.map V.str)) ∧ (ys.map (·.length)).sum + ys.length * a.length ≤ 16777216 ∧ Q (.str (Txt.join a ys)) H) (tC (.str x)) te)
    fun env k R => f env k fun d k1 => ∃ ys : List Str, d = .list (ys.map PyData.str) ∧ (ys.map (·.length)).sum + ys.length * x.length ≤ 16777216 ∧ (Txt.join x ys).length ≤ 16777216 ∧ R (.str (Txt.join x ys)) k1 := fun F M σ H env k R Q D hf q => by
  refine ⟨⟨x, rfl⟩, h F M σ H env k _ _ D hf fun v H' d k' p ⟨ys, e, b1, b2, r⟩ => ?_⟩
  subst e
  obtain ⟨dv, gr, fu⟩ := p
  cases dv with
  | @lst a xs _ nm ea al =>
    have e2 := strs_of al
    subst e2
    exact ⟨x, a, ys, rfl, rfl, .inl (SqL.of ea), b1, q _ H' _ k' ⟨.str _ b2, gr, fu⟩ r⟩
/-- s.upper() -/
theorem ab_upper (h : Abs K kt te f) : Abs K kt (tM0 (fun x xs H Q => ∃ a, x = .str a ∧ xs = [] ∧ a.length ≤ 5592405 ∧ Q (.str (Txt.upper a)) H) te) fun env k R => f env k fun d k1 => ∃ a, d = .str a ∧ a.length ≤ 1000000 ∧ (Txt.upper a).length ≤ 16777216 ∧ R (.str (Txt.upper a)) k1 := fun F M σ H env k R Q D hf q =>
  h F M σ H env k _ _ D hf fun v H' d k' p ⟨a, e, b1, b2, r⟩ => by
    subst e
    obtain ⟨dv, gr, fu⟩ := p
    have ev := str_of dv
    subst ev
    exact ⟨⟨a, rfl⟩, a, rfl, rfl, Nat.le_trans b1 (by decide), q _ H' _ k' ⟨.str _ b2, gr, fu⟩ r⟩
def intF : List PyData → Option PyData
  | [.int i] => some (.int i)
  | [.bool b] => some (.int (if b = true then 1 else 0))
  | _ => none
theorem ca_int : CallA (fun xs H Q => (∃ i, xs = [.int i] ∧ Q (.int i) H) ∨ ∃ k, xs = [.bl k] ∧ Q (.int (if k then 1 else 0)) H) K intF := fun M H vs ds c Q tr hv h q => by
  unfold intF at h
  split at h
  · cases h
    obtain ⟨v, rfl, a⟩ := one_dv hv
    cases a
    exact .inl ⟨_, rfl, q _ H (.int _) (Same.refl H)⟩
  · cases h
    obtain ⟨v, rfl, a⟩ := one_dv hv
    cases a
    rename_i b
    exact .inr ⟨b, rfl, q _ H (.int _) (Same.refl H)⟩
  · cases h
/-! ### an own list that changes -/
/-- x.extend(e) -/
theorem as_ext (i : Nat) (h : Abs K kt te f) : AbsS xw K kt (tDrop (tBM K "list" rExtend (tVar i) (tCons te tNil))) fun B env k => ∃ ds, env[i]? = some (Sl.own (.list ds)) ∧ f env k fun e k1 => ∃ es, e = .list es ∧ ds.length + es.length ≤ 100000 ∧ B.nx (env.set i (.own (.list (ds ++ es)))) k1 := fun F M σ H env k B D h1 ⟨ds, hi, g⟩ e => by
  obtain ⟨L, hL, hM, h0, xs, hx, dx⟩ := h1.ow i _ hi
  refine ⟨.ref L, hL, .inl ⟨rfl, _, SqL.of hx⟩, ?_⟩
  refine h F M σ H env k _ _ h1 g fun v H' d k' p ⟨es, ed, hz, r⟩ => ?_
  subst ed
  obtain ⟨dv, gr, fu⟩ := p
  have D1 := h1.grow gr fu
  have hx' : H' L = some (.lst xs) := by rw [h1.keep gr h0 hx, hx]
  have dx' := DVs.out (h1.out gr) _ dx
  cases dv with
  | @lst b zs _ nm eb al =>
    refine ⟨L, b, xs, zs, rfl, rfl, hx', eb, ?_, ?_⟩
    · rw [dx.length, al.length]
      exact Nat.le_trans hz (by decide)
    · exact e.nx M σ _ _ k' (D1.own hi hL fun u eL => own_lst eL (DVs.out u _ (dx'.append al))) r
/-- x[e] = v: the value first -/
theorem DVs.set {H : Hp} {M : Mu} {v : V} {d : PyData} (hv : DV K H M v d) : ∀ {vs : List V} {ds : List PyData} (i : Nat), DVs K H M vs ds → DVs K H M (vs.set i v) (ds.set i d)
  | _, _, _, .nil => .nil
  | _, _, 0, .cons _ t => .cons hv t
  | _, _, i + 1, .cons a t => .cons a (DVs.set hv i t)
theorem as_put (i : Nat) (hv : Abs K kt ta fa) (hi : Abs K kt tb fb) : AbsS xw K kt (tAsg ta (gSub (tVar i) tb rSetL)) fun B env k => fa env k fun c k1 => ∃ ds, env[i]? = some (Sl.own (.list ds)) ∧ fb env k1 fun x k2 => ∃ (n : Int) (j : Nat), x = .int n ∧ ixN ds.length n = some j ∧ B.nx (env.set i (.own (.list (ds.set j c)))) k2 := fun F M σ H env k B D h1 g e =>
  hv F M σ H env k _ _ h1 g fun v1 H1 c k1 p1 ⟨ds, hi', g1⟩ => by
    have D1 := h1.grow p1.gr p1.fu
    obtain ⟨L, hL, hM, h0, xs, hx, dx⟩ := D1.ow i _ hi'
    refine ⟨.ref L, hL, hi F M σ H1 env k1 _ _ D1 g1 fun v2 H2 x k2 p2 ⟨n, j, ex, hj, r⟩ => ?_⟩
    subst ex
    have ev := int_of p2.dv
    subst ev
    have D2 := D1.grow p2.gr p2.fu
    have hx' : H2 L = some (.lst xs) := by rw [D1.keep p2.gr h0 hx, hx]
    have dx' := DVs.out (D1.out p2.gr) _ dx
    refine ⟨L, xs, n, j, rfl, rfl, hx', by rw [dx.length]; exact hj, ?_⟩
    exact e.nx M σ _ _ k2 (D2.own hi' hL fun u eL => own_lst eL (DVs.out u _ (DVs.set (p1.dv.out (D1.out p2.gr)) j dx'))) r
/-- x.insert(i, e) -/
theorem as_ins (i : Nat) (ha : Abs K kt ta fa) (hb : Abs K kt tb fb) : AbsS xw K kt (tDrop (tBM K "list" (fun x vs H Q => ∃ (l : Addr) (xs : List V) (i : Int) (y : V), x = .ref l ∧ vs = [.int i, y] ∧ H l = some (.lst xs) ∧ xs.length < sizeLine ∧ 0 ≤ i ∧ i < 2 ^ 63 ∧
    Q .non (upd H l (.lst (xs.take i.toNat ++ [y] ++ xs.drop i.toNat)))) (tVar i) (tCons ta (tCons tb tNil)))) fun B env k => ∃ ds, env[i]? = some (Sl.own (.list ds)) ∧ ds.length < 100000 ∧ fa env k fun x k1 => fb env k1 fun c k2 => ∃ n : Int, x = .int n ∧ 0 ≤ n ∧ n < 100000 ∧
      B.nx (env.set i (.own (.list (ds.take n.toNat ++ [c] ++ ds.drop n.toNat)))) k2 := fun F M σ H env k B D h1 ⟨ds, hi, hz, g⟩ e => by
  obtain ⟨L, hL, hM, h0, xs, hx, dx⟩ := h1.ow i _ hi
  refine ⟨.ref L, hL, .inl ⟨rfl, _, SqL.of hx⟩, ?_⟩
  refine ha F M σ H env k _ _ h1 g fun v1 H1 x k1 p1 g1 => hb F M σ H1 env k1 _ _ (h1.grow p1.gr p1.fu) g1 fun v2 H2 c k2 p2 ⟨n, ex, n0, n1, r⟩ => ?_
  subst ex
  have ev := int_of p1.dv
  subst ev
  have D1 := h1.grow p1.gr p1.fu
  have D2 := D1.grow p2.gr p2.fu
  have gr := p1.gr.trans p2.gr
  have hx' : H2 L = some (.lst xs) := by rw [h1.keep gr h0 hx, hx]
  have dx' := DVs.out (h1.out gr) _ dx
  refine ⟨L, xs, n, v2, rfl, rfl, hx', ?_, n0, by omega, ?_⟩
  · rw [dx.length]
    exact Nat.lt_of_lt_of_le hz (by decide)
  · exact e.nx M σ _ _ k2 (D2.own hi hL fun u eL => own_lst eL (DVs.out u _ (((dx'.take n.toNat).append (.cons p2.dv .nil)).append (dx'.drop n.toNat)))) r
theorem DVs.erase {H : Hp} {M : Mu} : ∀ {vs : List V} {ds : List PyData} (i : Nat), DVs K H M vs ds → DVs K H M (vs.eraseIdx i) (ds.eraseIdx i)
  | _, _, _, .nil => .nil
  | _, _, 0, .cons _ t => t
  | _, _, i + 1, .cons a t => .cons a (DVs.erase i t)
/-- x.pop(i) -/
theorem as_popAt (i : Nat) (ha : Abs K kt ta fa) : AbsS xw K kt (tDrop (tBM K "list" rPopAt (tVar i) (tCons ta tNil))) fun B env k => ∃ ds, env[i]? = some (Sl.own (.list ds)) ∧ fa env k fun x k1 => ∃ n : Nat, x = .int (n : Int) ∧ n < ds.length ∧ n < 100000 ∧ B.nx (env.set i (.own (.list (ds.eraseIdx n)))) k1 := fun F M σ H env k B D h1 ⟨ds, hi, g⟩ e => by
  obtain ⟨L, hL, hM, h0, xs, hx, dx⟩ := h1.ow i _ hi
  refine ⟨.ref L, hL, .inl ⟨rfl, _, SqL.of hx⟩, ?_⟩
  refine ha F M σ H env k _ _ h1 g fun v1 H1 x k1 p1 ⟨n, ex, hn, hn2, r⟩ => ?_
  subst ex
  have ev := int_of p1.dv
  subst ev
  have D1 := h1.grow p1.gr p1.fu
  have hx' : H1 L = some (.lst xs) := by rw [h1.keep p1.gr h0 hx, hx]
  have dx' := DVs.out (h1.out p1.gr) _ dx
  have hlt : n < xs.length := by rw [dx.length]; exact hn
  refine ⟨L, xs, n, n, xs[n], rfl, rfl, hx', by omega, by omega, ?_, List.getElem?_eq_getElem hlt, ?_⟩
  · have e0 : ¬ ((n : Int) < 0) := by omega
    simp only [seqIndex?, e0, if_false]
    simp [hlt]
  · exact e.nx M σ _ _ k1 (D1.own hi hL fun u eL => own_lst eL (DVs.out u _ (DVs.erase n dx'))) r
end
end SM

set_option Elab.async false
set_option linter.all false
set_option maxRecDepth 100000
set_option maxHeartbeats 4000000
namespace SM
open PySem PySem.Spec PyProof.Rows L2
variable [PW]

/-! ### {k: v, ..} as data -/
abbrev DTQ := List Sl → Nat → (List (PyData × PyData) → Nat → Prop) → Prop
def AbsPs (K : PySem.W.Frag) (kt : Str) (trs : List (TE × TE)) (f : DTQ) : Prop := ∀ (F : Fr) (M : Mu) (σ : L2.St) (H : Hp) (env : List Sl) (k : Nat) (R : List (PyData × PyData) → Nat → Prop) (Q : List (V × V) → Hp → Prop),
  Dat K kt F M σ H env k → f env k R → (∀ ps H' ds k', DVs K H' M (ps.map Prod.fst) (ds.map Prod.fst) → DVs K H' M (ps.map Prod.snd) (ds.map Prod.snd) → Gr F.pen H H' → (∀ a, F.pen = some a → Fuel kt H' a k') → R ds k' → Q ps H') → tPairs trs σ H Q
def dispD : List (PyData × PyData) → List (PyData × PyData) → Option (List (PyData × PyData))
  | acc, [] => some acc
  | acc, p :: r => (toKey p.1).bind fun j => dispD (putD acc j p.2) r
section
variable {K : PySem.W.Frag} {kt : Str} {tk tv : TE} {fk fv : DT} {trs : List (TE × TE)} {fp : DTQ}
theorem aps_nil : AbsPs K kt [] fun _ k R => R [] k := fun F M σ H env k R Q D h q => q [] H [] k .nil .nil Gr.refl D.fu h
theorem aps_cons (hk : Abs K kt tk fk) (hv : Abs K kt tv fv) (hr : AbsPs K kt trs fp) : AbsPs K kt ((tk, tv) :: trs) fun env k R => fk env k fun x k1 => fv env k1 fun y k2 => fp env k2 fun r k3 => R ((x, y) :: r) k3 := fun F M σ H env k R Q D h q =>
  hk F M σ H env k _ _ D h fun x H1 d k1 p1 h1 => hv F M σ H1 env k1 _ _ (D.grow p1.gr p1.fu) h1 fun y H2 e k2 p2 h2 => by
    have D1 := D.grow p1.gr p1.fu
    have D2 := D1.grow p2.gr p2.fu
    refine hr F M σ H2 env k2 _ _ D2 h2 fun ps H3 ds k3 a1 a2 gr fu h3 => ?_
    exact q _ H3 ((d, e) :: ds) k3 (.cons ((p1.dv.out (D1.out p2.gr)).out (D2.out gr)) a1) (.cons (p2.dv.out (D2.out gr)) a2) ((p1.gr.trans p2.gr).trans gr) fu h3
theorem disp_keys {H : Hp} {M : Mu} : ∀ {ps : List (V × V)} {ds acc es : List (PyData × PyData)} {xs : List (Key × V)}, DVs K H M (ps.map Prod.fst) (ds.map Prod.fst) → DVs K H M (ps.map Prod.snd) (ds.map Prod.snd) → DKs K H M xs acc → dispD acc ds = some es →
    ∃ kvs : List (Key × V), ps = kvs.map (fun kv => (kV kv.1, kv.2)) ∧ kvs.length = ds.length ∧ DKs K H M (mergeK xs kvs) es
  | [], [], _, _, _, _, _, a, e => by
    cases e
    exact ⟨[], rfl, rfl, a⟩
  | [], _ :: _, _, _, _, h, _, _, _ => nomatch h
  | _ :: _, [], _, _, _, h, _, _, _ => nomatch h
  | (x, y) :: ps, (d, c) :: ds, acc, es, xs, h1, h2, a, e => by
    obtain ⟨j, e1, e2⟩ := Option.bind_eq_some_iff.mp (show (toKey d).bind _ = some es from e)
    cases h1 with
    | cons b1 b2 =>
      cases h2 with
      | cons c1 c2 =>
        obtain ⟨kvs, rfl, hl, q⟩ := disp_keys b2 c2 (a.put (k := j) c1) e2
        have ex : x = kV j := key_of b1 e1
        refine ⟨(j, y) :: kvs, ?_, ?_, q⟩
        · rw [ex]
          rfl
        · rw [List.length_cons, List.length_cons, hl]
theorem af_disp (hp : AbsPs K kt trs fp) : AbsF K kt (tDisp trs) fun env k R => fp env k fun ds k1 => ds.length ≤ 15 ∧ ∃ es, dispD [] ds = some es ∧ R (.dict es) k1 := fun F M σ H env k R Q D h q => by
  intro L hL
  have hLM : L ∉ M := D.new hL
  have hn : ∀ a, F.pen = some a → a.1 ≠ L ∧ a.2 ≠ L := fun a e => ⟨fun z => hLM (by rw [← z]; exact D.sub _ (D.pn a e).1), fun z => hLM (by rw [← z]; exact D.sub _ (D.pn a e).2.1)⟩
  have s0 : Same H (upd H L (.dK [])) := fun b o e => by rw [upd_ne (ne_of_none e hL)]; exact e
  have D0 := D.more (o := .dK []) hL
  refine hp _ (L :: M) σ _ env k _ _ D0 h fun ps H2 ds k' a1 a2 gr fu ⟨hz, es, he, r⟩ => ?_
  have hpL : some L ≠ F.pen.map (·.1) := fun z => by
    obtain ⟨qq, e1, e2⟩ := Option.map_eq_some_iff.mp z.symm
    exact (hn qq e1).1 e2
  have eL : H2 L = some (.dK []) := gr.st L _ hpL (fun z => D.new hL (D.sub _ (F.tm _ z).1)) upd_same
  obtain ⟨kvs, rfl, hl, dk⟩ := disp_keys a1 a2 (xs := []) .nil he
  have u : Out (L :: M) H2 (upd H2 L (.dK (mergeK [] kvs))) := fun bb o nb e => by rw [upd_ne (fun z => nb (by rw [z]; exact List.mem_cons_self))]; exact e
  refine ⟨eL, kvs, rfl, by omega, q L _ (.dict es) k' hL (own_dct upd_same (DKs.out u _ dk)) rfl ⟨fun b o hb ht e => ?_, fun t => Tabs.upd eL plain_dK (gr.lv (t.ext s0))⟩ (fun a e => (fu a e).but (hn a e).1 (hn a e).2) r⟩
  have nb : b ≠ L := ne_of_none e hL
  rw [upd_ne nb]
  exact gr.st b o hb ht (s0 b o e)
theorem af_dnewK : AbsF K kt tDNewK fun env k R => R (.dict []) k := fun F M σ H env k R Q D h q => by
  intro L hL
  have s0 : Same H (upd H L (.dK [])) := fun b o e => by rw [upd_ne (ne_of_none e hL)]; exact e
  exact q L _ (.dict []) k hL (own_dct upd_same .nil) rfl (Gr.of_same s0) (fun a e => (D.fu a e).same s0) h
end
end SM

set_option Elab.async false
set_option linter.all false
set_option maxRecDepth 100000
set_option maxHeartbeats 4000000
namespace SM
open PySem PySem.Spec PyProof.Rows L2

/-! ### what is drawn is neither wide nor deep -/
mutual
/-- each text is of plain signs, each number is at most so great -/
def okD (N : Nat) : PyData → Bool
  | .none | .bool _ => true
  | .int i => decide (i.natAbs ≤ N)
  | .str z => z.cps.toList.all fun c => decide (c < 128)
  | .list xs | .tuple xs => okAll N xs
  | .dict kvs => okKv N kvs
def okAll (N : Nat) : List PyData → Bool
  | [] => true
  | x :: r => okD N x && okAll N r
def okKv (N : Nat) : List (PyData × PyData) → Bool
  | [] => true
  | (k, v) :: r => okD N k && okD N v && okKv N r
end
theorem okAll_iff {N : Nat} : ∀ {xs : List PyData}, okAll N xs = true ↔ ∀ x, x ∈ xs → okD N x = true
  | [] => ⟨fun _ _ h => (nomatch h), fun _ => rfl⟩
  | x :: r => by
    rw [okAll, Bool.and_eq_true, okAll_iff (xs := r)]
    exact ⟨fun h y hy => (List.mem_cons.mp hy).elim (fun e => by rw [e]; exact h.1) (h.2 y), fun h => ⟨h x List.mem_cons_self, fun y hy => h y (List.mem_cons_of_mem _ hy)⟩⟩
mutual
theorem okD_mono {N M : Nat} (h : N ≤ M) : ∀ d : PyData, okD N d = true → okD M d = true
  | .none, _ => rfl
  | .bool _, _ => rfl
  | .int i, q => by
    simp only [okD, decide_eq_true_eq] at q ⊢
    omega
  | .str z, q => by simpa only [okD] using q
  | .list xs, q => by
    simp only [okD] at q ⊢
    exact okAll_mono h xs q
  | .tuple xs, q => by
    simp only [okD] at q ⊢
    exact okAll_mono h xs q
  | .dict kvs, q => by
    simp only [okD] at q ⊢
    exact okKv_mono h kvs q
theorem okAll_mono {N M : Nat} (h : N ≤ M) : ∀ xs : List PyData, okAll N xs = true → okAll M xs = true
  | [], _ => rfl
  | x :: r, q => by
    simp only [okAll, Bool.and_eq_true] at q ⊢
    exact ⟨okD_mono h x q.1, okAll_mono h r q.2⟩
theorem okKv_mono {N M : Nat} (h : N ≤ M) : ∀ kvs : List (PyData × PyData), okKv N kvs = true → okKv M kvs = true
  | [], _ => rfl
  | (k, v) :: r, q => by
    simp only [okKv, Bool.and_eq_true] at q ⊢
    exact ⟨⟨okD_mono h k q.1.1, okD_mono h v q.1.2⟩, okKv_mono h r q.2⟩
end
/-- numbers of at most sixty signs -/
theorem int_short {N : Nat} (hN : N < 10 ^ 61) {i : Int} (h : i.natAbs ≤ N) : (PyData.shown (.int i)).length ≤ 62 ∧ i.natAbs.log2 < 1920 := by
  have h2 : i.natAbs < 10 ^ 61 := Nat.lt_of_le_of_lt h hN
  refine ⟨?_, ?_⟩
  · have e := int_text_length_le10 (k := 61) (by decide) h2
    show (Str.ofString (toString i)).length ≤ 62
    rw [PySem.ofString_length]
    exact e
  · by_cases z : i.natAbs = 0
    · rw [z]
      decide
    · exact (Nat.log2_lt z).mpr (Nat.lt_of_lt_of_le h2 (by decide +kernel))
mutual
theorem okD_show {N : Nat} (hN : N < 10 ^ 61) : ∀ d : PyData, okD N d = true → d.showable = true ∧ d.leavesShort 62 = true
  | .none, _ => ⟨rfl, rfl⟩
  | .bool _, _ => ⟨rfl, rfl⟩
  | .int i, q => by
    simp only [okD, decide_eq_true_eq] at q
    obtain ⟨h1, h2⟩ := int_short hN q
    simp only [PyData.showable, PyData.leavesShort, decide_eq_true_eq]
    exact ⟨h2, h1⟩
  | .str z, q => by
    simp only [okD, List.all_eq_true, decide_eq_true_eq] at q
    simp only [PyData.showable, PyData.leavesShort, List.all_eq_true, decide_eq_true_eq, true_and]
    exact fun c hc => Nat.lt_of_lt_of_le (q c hc) (by decide)
  | .list xs, q => by
    simp only [okD] at q
    simp only [PyData.showable, PyData.leavesShort]
    exact okAll_show hN xs q
  | .tuple xs, q => by
    simp only [okD] at q
    simp only [PyData.showable, PyData.leavesShort]
    exact okAll_show hN xs q
  | .dict kvs, q => by
    simp only [okD] at q
    simp only [PyData.showable, PyData.leavesShort]
    exact okKv_show hN kvs q
theorem okAll_show {N : Nat} (hN : N < 10 ^ 61) : ∀ xs : List PyData, okAll N xs = true → PyData.showableAll xs = true ∧ PyData.leavesShortAll 62 xs = true
  | [], _ => ⟨rfl, rfl⟩
  | x :: r, q => by
    simp only [okAll, Bool.and_eq_true] at q
    obtain ⟨h1, h2⟩ := okD_show hN x q.1
    obtain ⟨h3, h4⟩ := okAll_show hN r q.2
    simp only [PyData.showableAll, PyData.leavesShortAll, h1, h2, h3, h4, Bool.and_self, and_self]
theorem okKv_show {N : Nat} (hN : N < 10 ^ 61) : ∀ kvs : List (PyData × PyData), okKv N kvs = true → PyData.showableKv kvs = true ∧ PyData.leavesShortKv 62 kvs = true
  | [], _ => ⟨rfl, rfl⟩
  | (k, v) :: r, q => by
    simp only [okKv, Bool.and_eq_true] at q
    obtain ⟨h1, h2⟩ := okD_show hN k q.1.1
    obtain ⟨h3, h4⟩ := okD_show hN v q.1.2
    obtain ⟨h5, h6⟩ := okKv_show hN r q.2
    simp only [PyData.showableKv, PyData.leavesShortKv, h1, h2, h3, h4, h5, h6, Bool.and_self, and_self]
end
theorem okD_shown {N : Nat} (hN : N < 10 ^ 61) {d : PyData} (h : okD N d = true) (hw : d.weight ≤ 250000) : d.showable = true ∧ d.shown.length ≤ 16777216 := by
  obtain ⟨h1, h2⟩ := okD_show hN d h
  have := PyData.shown_le 62 (by decide) d h2
  refine ⟨h1, ?_⟩
  omega
theorem depthAll_iff {n : Nat} : ∀ {xs : List PyData}, PyData.depthAll xs ≤ n ↔ ∀ x, x ∈ xs → x.depth ≤ n
  | [] => ⟨fun _ _ h => (nomatch h), fun _ => Nat.zero_le _⟩
  | x :: r => by
    rw [PyData.depthAll, Nat.max_le, depthAll_iff (xs := r)]
    exact ⟨fun h y hy => (List.mem_cons.mp hy).elim (fun e => by rw [e]; exact h.1) (h.2 y), fun h => ⟨h x List.mem_cons_self, fun y hy => h y (List.mem_cons_of_mem _ hy)⟩⟩
theorem weightAll_append : ∀ xs ys : List PyData, PyData.weightAll (xs ++ ys) = PyData.weightAll xs + PyData.weightAll ys
  | [], ys => (Nat.zero_add _).symm
  | x :: r, ys => by
    rw [List.cons_append, PyData.weightAll, PyData.weightAll, weightAll_append r ys]
    omega
theorem weightAll_set : ∀ {xs : List PyData} {i : Nat} {x : PyData} (y : PyData), xs[i]? = some x → PyData.weightAll (xs.set i y) + x.weight = PyData.weightAll xs + y.weight
  | [], _, _, _, h => nomatch h
  | z :: r, 0, x, y, h => by
    cases h
    rw [List.set_cons_zero, PyData.weightAll, PyData.weightAll]
    omega
  | z :: r, i + 1, x, y, h => by
    have := weightAll_set (xs := r) (i := i) y h
    rw [List.set_cons_succ, PyData.weightAll, PyData.weightAll]
    omega
theorem weight_mem : ∀ {xs : List PyData} {x : PyData}, x ∈ xs → x.weight + 1 ≤ PyData.weightAll xs
  | z :: r, x, h => by
    rw [PyData.weightAll]
    rcases List.mem_cons.mp h with e | h
    · rw [e]
      omega
    · have := weight_mem h
      omega
theorem length_weight : ∀ xs : List PyData, xs.length ≤ PyData.weightAll xs
  | [] => Nat.zero_le _
  | z :: r => by
    have := length_weight r
    rw [PyData.weightAll, List.length_cons]
    omega
end SM

set_option Elab.async false
set_option linter.all false
set_option maxRecDepth 100000
set_option maxHeartbeats 4000000
namespace SM
open PySem PySem.Spec PyProof.Rows L2
variable [PW]

/-! ### numbers, some of which are bools -/
def b1 (b : Bool) : Int := if b = true then 1 else 0
def rW (g : Int → Int → V) : R2 := fun x y H Q => (∃ i j, x = .int i ∧ y = .int j ∧ Q (g i j) H) ∨ (∃ b j, x = .bl b ∧ y = .int j ∧ Q (g (b1 b) j) H) ∨ ∃ i b, x = .int i ∧ y = .bl b ∧ Q (g i (b1 b)) H
theorem op_addW {X : Cx} : OpR X (binaryOp .Add) (rW fun i j => .int (i + j)) := by
  intro pins s σ H x y v u Q I rx ry h
  rcases h with ⟨i, j, rfl, rfl, q⟩ | ⟨b, j, rfl, rfl, q⟩ | ⟨i, b, rfl, rfl, q⟩
  · obtain ⟨t, rfl⟩ := rx
    obtain ⟨t', rfl⟩ := ry
    exact add_int ⟨.int (i + j), H, I.tok _, ⟨_, rfl⟩, q⟩
  · cases rx
    obtain ⟨t', rfl⟩ := ry
    exact PySem.IntBool.add_bool_int ⟨.int (b1 b + j), H, I.tok _, ⟨_, rfl⟩, q⟩
  · obtain ⟨t, rfl⟩ := rx
    cases ry
    exact add_int_bool ⟨.int (i + b1 b), H, I.tok _, ⟨_, rfl⟩, q⟩
theorem op_subW {X : Cx} : OpR X (binaryOp .Sub) (rW fun i j => .int (i - j)) := by
  intro pins s σ H x y v u Q I rx ry h
  rcases h with ⟨i, j, rfl, rfl, q⟩ | ⟨b, j, rfl, rfl, q⟩ | ⟨i, b, rfl, rfl, q⟩
  · obtain ⟨t, rfl⟩ := rx
    obtain ⟨t', rfl⟩ := ry
    exact sub_int ⟨.int (i - j), H, I.tok _, ⟨_, rfl⟩, q⟩
  · cases rx
    obtain ⟨t', rfl⟩ := ry
    exact PySem.IntBool.sub_bool_int ⟨.int (b1 b - j), H, I.tok _, ⟨_, rfl⟩, q⟩
  · obtain ⟨t, rfl⟩ := rx
    cases ry
    exact PySem.IntBool.sub_int_bool ⟨.int (i - b1 b), H, I.tok _, ⟨_, rfl⟩, q⟩
def wF (g : Int → Int → Int) : PyData → PyData → Option PyData
  | .int i, .int j => some (.int (g i j))
  | .bool b, .int j => some (.int (g (b1 b) j))
  | .int i, .bool b => some (.int (g i (b1 b)))
  | _, _ => none
section
variable {K : PySem.W.Frag} {kt : Str} {te : TE} {f : DT}
theorem oa_W {g : Int → Int → Int} : OpA K (rW fun i j => .int (g i j)) (wF g) := fun M H x y d e c Q tr hx hy h q => by
  unfold wF at h
  split at h
  · cases h
    cases hx
    cases hy
    exact .inl ⟨_, _, rfl, rfl, q _ H (.int _) (Same.refl H)⟩
  · cases h
    cases hx
    cases hy
    exact .inr (.inl ⟨_, _, rfl, rfl, q _ H (.int _) (Same.refl H)⟩)
  · cases h
    cases hx
    cases hy
    exact .inr (.inr ⟨_, _, rfl, rfl, q _ H (.int _) (Same.refl H)⟩)
  · cases h
/-! ### str(n) -/
def rStr : List V → Hp → VK → Prop := fun xs H Q => (∃ i : Int, xs = [.int i] ∧ i.natAbs.log2 < 1920 ∧ Q (.str (toString i)) H) ∨ ∃ b : Bool, xs = [.bl b] ∧ Q (.str (if b then "True" else "False")) H
theorem call_strW {X : Cx} : CallR X (.type "str") rStr := by
  intro pins s σ H xs us Q I r h
  rcases h with ⟨i, rfl, hz, q⟩ | ⟨b, rfl, q⟩
  · obtain ⟨u, rfl, t, rfl⟩ := vals1 r
    exact PySem.P.str_of_int hz ⟨.str _, H, I.tok _, ⟨_, rfl⟩, q⟩
  · obtain ⟨u, rfl, r1⟩ := vals1 r
    cases r1
    exact PySem.P.str_of_bool ⟨.str _, H, I.tok _, ⟨_, rfl⟩, q⟩
def strF : List PyData → Option PyData
  | [.int i] => if (decide (i.natAbs.log2 < 1920) && decide ((PyData.shown (.int i)).length ≤ 16777216)) = true then some (.str (PyData.shown (.int i))) else none
  | [.bool b] => some (.str (PyData.shown (.bool b)))
  | _ => none
theorem ca_str : CallA rStr K strF := fun M H vs ds c Q tr hv h q => by
  unfold strF at h
  split at h
  · rename_i i
    by_cases z : (decide (i.natAbs.log2 < 1920) && decide ((PyData.shown (.int i)).length ≤ 16777216)) = true
    · rw [if_pos z] at h
      cases h
      simp only [Bool.and_eq_true, decide_eq_true_eq] at z
      obtain ⟨v, rfl, a⟩ := one_dv hv
      cases a
      exact .inl ⟨_, rfl, z.1, q _ H (.str _ z.2) (Same.refl H)⟩
    · rw [if_neg z] at h
      cases h
  · cases h
    obtain ⟨v, rfl, a⟩ := one_dv hv
    cases a
    rename_i b
    exact .inr ⟨b, rfl, q _ H (by cases b <;> exact .str _ (by decide)) (Same.refl H)⟩
  · cases h
/-! ### xs[::-1] -/
theorem DVs.reverse {H : Hp} {M : Mu} : ∀ {vs : List V} {ds : List PyData}, DVs K H M vs ds → DVs K H M vs.reverse ds.reverse
  | _, _, .nil => .nil
  | _, _, .cons a b => by
    rw [List.reverse_cons, List.reverse_cons]
    exact (DVs.reverse b).append (.cons a .nil)
theorem af_revL (h : Abs K kt te f) : AbsF K kt (tRevL K te) fun env k R => f env k fun d k1 => ∃ xs, d = .list xs ∧ R (.list xs.reverse) k1 := fun F M σ H env k R Q D hf q =>
  h F M σ H env k _ _ D hf fun v H1 d k1 p ⟨ds, e, r⟩ => by
    subst e
    obtain ⟨dv, gr, fu⟩ := p
    cases dv with
    | @lst a vs _ n ea al =>
      refine ⟨a, vs, rfl, SqL.of ea, fun p hp => ?_⟩
      have s : Same H1 (upd H1 p (.lst vs.reverse)) := fun b o e => by rw [upd_ne (ne_of_none e hp)]; exact e
      exact q p _ _ k1 (D.fresh gr fu hp) (own_lst upd_same (DVs.out (Out.of_same s) _ (DVs.more hp _ al.reverse))) rfl (gr.trans (Gr.of_same s)) (fun a e => (fu a e).same s) r
end
end SM

set_option Elab.async false
set_option linter.all false
set_option maxRecDepth 100000
set_option maxHeartbeats 4000000
namespace SM
open PySem PySem.Spec PyProof.Rows L2

/-! ### plain texts -/
theorem plainT_iff {N : Nat} {z : Str} : okD N (.str z) = true ↔ ∀ c, c ∈ z.cps.toList → c < 128 := by
  simp only [okD, List.all_eq_true, decide_eq_true_eq]
theorem plainT_add {N : Nat} {x y : Str} (h : okD N (.str x) = true) (h' : okD N (.str y) = true) : okD N (.str (x ++ y)) = true := by
  rw [plainT_iff] at *
  intro c hc
  rw [PySem.Str.cps_append, Array.toList_append, List.mem_append] at hc
  exact hc.elim (h c) (h' c)
theorem plainT_cut {N : Nat} {x : Str} {lo hi : Option Int} (h : okD N (.str x) = true) : okD N (.str (cutS x lo hi)) = true := by
  rw [plainT_iff] at *
  intro c hc
  exact h c (List.mem_of_mem_drop (List.mem_of_mem_take (by simpa [cutS] using hc)))
theorem cutS_length (x : Str) (lo hi : Option Int) : (cutS x lo hi).length ≤ x.length := by
  show (cutS x lo hi).cps.size ≤ x.cps.size
  unfold cutS
  rw [List.size_toArray, List.length_take, List.length_drop, Array.length_toList]
  omega
theorem one_add (c : Nat) (l : List Nat) : (⟨(c :: l).toArray⟩ : Str) = (⟨#[c]⟩ : Str) ++ ⟨l.toArray⟩ := by
  show _ = (⟨#[c] ++ l.toArray⟩ : Str)
  rw [show (#[c] : Array Nat) = [c].toArray from rfl, List.append_toArray] <;> rfl
theorem upper_list : ∀ l : List Nat, (∀ c, c ∈ l → c < 128) → (Txt.upper ⟨l.toArray⟩).length = l.length ∧ ∀ c, c ∈ (Txt.upper ⟨l.toArray⟩).cps.toList → c < 128
  | [], _ => by
    have e : Txt.upper ⟨([] : List Nat).toArray⟩ = ⟨#[]⟩ := by decide +kernel
    rw [e]
    exact ⟨rfl, fun c hc => (nomatch hc)⟩
  | c :: l, h => by
    obtain ⟨h1, h2⟩ := upper_list l fun x hx => h x (List.mem_cons_of_mem _ hx)
    have hc := h c List.mem_cons_self
    rw [one_add, PySem.W.KOpn.upper_app, PySem.W.KOpn.upper_one hc]
    refine ⟨?_, fun x hx => ?_⟩
    · rw [show ∀ a b : Str, (a ++ b).length = a.length + b.length from fun a b => by
        show (a.cps ++ b.cps).size = _
        rw [Array.size_append] <;> rfl, h1, List.length_cons]
      show 1 + l.length = _
      omega
    · rw [PySem.Str.cps_append, Array.toList_append, List.mem_append] at hx
      rcases hx with q | q
      · have : x = if 97 ≤ c ∧ c ≤ 122 then c - 32 else c := by simpa using q
        rw [this]
        split <;> omega
      · exact h2 x q
theorem plainT_upper {N : Nat} {x : Str} (h : okD N (.str x) = true) : okD N (.str (Txt.upper x)) = true ∧ (Txt.upper x).length = x.length := by
  rw [plainT_iff] at *
  have := upper_list x.cps.toList h
  rw [show (⟨x.cps.toList.toArray⟩ : Str) = x from by simp] at this
  exact ⟨this.2, by rw [this.1]; exact Array.length_toList⟩
theorem plainT_int {N : Nat} (i : Int) : okD N (.str (PyData.shown (.int i))) = true := by
  rw [plainT_iff]
  intro c hc
  refine Decidable.byContradiction fun q => ?_
  exact int_text_free' c ⟨by omega, by omega⟩ i hc
theorem int_weight {i : Int} (h : i.natAbs < 10 ^ 61) : (PyData.int i).weight ≤ 204 := by
  show (if (i == 0) = true then 0 else i.natAbs.log2 + 1) ≤ 204
  split
  · exact Nat.zero_le _
  · rename_i q
    have z : i.natAbs ≠ 0 := fun z => q (by rw [Int.natAbs_eq_zero.mp z]; rfl)
    have := (Nat.log2_lt z).mpr (Nat.lt_of_lt_of_le h (show 10 ^ 61 ≤ 2 ^ 203 by decide +kernel))
    omega
end SM

set_option Elab.async false
set_option linter.all false
set_option maxRecDepth 100000
set_option maxHeartbeats 4000000
namespace SM
open PySem PySem.Spec PyProof.Rows L2
/-! ### () * k -/
theorem tuple_mul0 (l : Addr) (items : Array Value) (n : Nat) (sl : Array (Option Value)) (dd : Option Addr) (x : Int) (u : Tok) (c0 : (decide (x < -(2 ^ 63)) || decide (x ≥ 2 ^ 63)) = false) (c1 : (items.isEmpty || x == 1) = true) :
    Meets (Builtin.«tuple.__mul__» ⟨[.ref l, .int x u], []⟩) (fun _ R s => s.heap.get? l = some { cls := .type "tuple", dict := dd, data := .seq items n, slots := sl } ∧ R (.ok (.ret (Value.ref l))) s) :=
  .of_wp fun prog w A R s h => by
    obtain ⟨hp, g, d, tk, os⟩ := s
    obtain ⟨hl, h⟩ := h
    have f1 := AutoSeq1.idx_int
    wp_walk using wpAny_loadPart' hl
    refine wpAny_ite_false (decide_eq_false (by rw [c0]; exact Bool.false_ne_true)) ?_
    wp_walk using wpAny_loadPart' hl
    exact ⟨_, rfl, h⟩
def rRepA (K : PySem.W.Frag) : R2 := fun x y H Q => rRepT K x y H Q ∨ ∃ l k, x = .ref l ∧ y = .int k ∧ SqT K H l [] ∧ 2 ≤ k ∧ k ≤ 1000 ∧ Q (.ref l) H
theorem op_repA {X : Cx} : OpR X (binaryOp .Mult) (rRepA X.K) := by
  intro pins s σ H x y v u Q I rx ry h
  rcases h with h | ⟨l, k, rfl, rfl, hT, h1, h2, q⟩
  · exact op_repT pins s σ H x y v u Q I rx ry h
  cases rx
  obtain ⟨t, rfl⟩ := ry
  obtain ⟨its, r, ⟨⟨cls, dd, data, sl⟩, ho, hc, n, hd⟩, hs⟩ := I.tuple hT
  simp only at hc hd
  subst hc hd
  cases r
  have c0 : (decide (k < -(2 ^ 63)) || decide (k ≥ 2 ^ 63)) = false := by
    rw [decide_eq_false (by omega), decide_eq_false (by omega)] <;> rfl
  refine wpAny_binaryOp_repeat_ref (T := "tuple") (U := "int") (by decide) ⟨_, ho, rfl⟩ (fun s' => typeIs_int s' k t) noFill_tuple_mul F.fills_int_mul F.slot_int_rmul repeat_tuple F.slot_int_index.lookup
    (call_meets F.slot_int_rmul (typeIs_int s k t) F.entry_int_rmul (F.args_int_rmul_2 _ _) (int_rmul_tuple k t l _ n dd sl)
      ⟨ho, rfl, ⟨_, ho, rfl⟩, call_meets F.slot_tuple_mul ⟨_, ho, rfl⟩ F.entry_tuple_mul (F.args_tuple_mul_2 _ _) (tuple_mul0 l _ n sl dd k t c0 rfl) ⟨ho, ?_⟩⟩)
  exact ⟨.ref l, H, I, rfl, q⟩
variable [PW]
section
variable {K : PySem.W.Frag} {kt : Str}
theorem DVs.rep {H : Hp} {M : Mu} {vs : List V} {ds : List PyData} (a : DVs K H M vs ds) : ∀ k : Nat, DVs K H M (List.replicate k vs).flatten (List.replicate k ds).flatten
  | 0 => .nil
  | k + 1 => by
    rw [List.replicate_succ, List.replicate_succ, List.flatten_cons, List.flatten_cons]
    exact a.append (DVs.rep a k)
def repF : PyData → PyData → Option PyData
  | .tuple xs, .int k => if (decide (2 ≤ k) && decide (k ≤ 1000) && decide (xs.length ≤ 1000)) = true then some (.tuple (List.replicate k.toNat xs).flatten) else none
  | _, _ => none
theorem oa_rep : OpA K (rRepA K) repF := fun M H x y d e c Q tr hx hy h q => by
  unfold repF at h
  split at h
  · rename_i xs k
    by_cases z : (decide (2 ≤ k) && decide (k ≤ 1000) && decide (xs.length ≤ 1000)) = true
    · rw [if_pos z] at h
      cases h
      simp only [Bool.and_eq_true, decide_eq_true_eq] at z
      cases hy
      cases hx with
      | @tup a vs _ n1 e1 a1 =>
        by_cases hn : vs = []
        · subst hn
          cases a1
          refine .inr ⟨a, k, rfl, rfl, SqT.of e1, z.1.1, z.1.2, q _ H ?_ (Same.refl H)⟩
          rw [show (List.replicate k.toNat ([] : List PyData)).flatten = [] by simp]
          exact .tup n1 e1 .nil
        · refine .inl ⟨a, k, vs, rfl, rfl, SqT.of e1, hn, z.1.1, z.1.2, by rw [a1.length]; exact z.2, fun p hp => q _ _ ?_ (same_upd hp)⟩
          exact .tup (fun z => tr p z hp) upd_same (DVs.out (Out.of_same (same_upd hp)) _ (DVs.rep a1 k.toNat))
    · rw [if_neg z] at h
      cases h
  · cases h
end
end SM

set_option Elab.async false
set_option linter.all false
set_option maxRecDepth 100000
set_option maxHeartbeats 4000000
namespace SM
open PySem PySem.Spec PyProof.Rows L2
/-! ### repr of data -/
def encK : Key → PyData
  | .inl i => .int i
  | .inr x => .str x
theorem encK_kP (k : Key) : encK k = kP k := by cases k <;> rfl
theorem encK_reads {P : Program} {w : World} {h : Heap} (k : Key) (v : Value) (e : (mixKind P w).is k v = true) : Reads h v (encK k) [] := by
  rcases keyIs_shape e with ⟨i, t, rfl, rfl⟩ | ⟨x, t, rfl, rfl⟩
  · exact Reads.int i t
  · exact Reads.str x t
section
variable {X : Cx} {pins : List (Addr × Obj)} {σ : L2.St} {H : Hp} {s : Shared} {M : Mu}
mutual
theorem DV.reads (I : Inv X pins σ H s) (hs : H sysModules = none) : ∀ (d : PyData) (v : V) (u : Value), DV X.K H M v d → RelV v u → ∃ as, Reads s.heap u d as ∧ sysModules ∉ as
  | .none, _, _, h, r => by
    cases h
    cases r
    exact ⟨_, Reads.none, fun z => (nomatch z)⟩
  | .bool b, _, _, h, r => by
    cases h
    cases r
    exact ⟨_, Reads.bool b, fun z => (nomatch z)⟩
  | .int i, _, _, h, r => by
    cases h
    obtain ⟨t, rfl⟩ := r
    exact ⟨_, Reads.int i t, fun z => (nomatch z)⟩
  | .str x, _, _, h, r => by
    cases h
    obtain ⟨t, rfl⟩ := r
    exact ⟨_, Reads.str x t, fun z => (nomatch z)⟩
  | .list ds, _, _, h, r => by
    cases h with
    | lst n hs2 ha =>
      cases r
      obtain ⟨its, rv, ⟨o, m, ho, hc, _, hd⟩, _⟩ := I.list (SqL.of hs2)
      obtain ⟨as, hr, hn⟩ := DVs.reads I hs ds _ its ha rv
      refine ⟨_, Reads.list ho hc hd hr, fun z => ?_⟩
      rcases List.mem_cons.mp z with q | q
      · rw [← q, hs] at hs2
        cases hs2
      · exact hn q
  | .tuple ds, _, _, h, r => by
    cases h with
    | tup n hs2 ha =>
      cases r
      obtain ⟨its, rv, ⟨o, ho, hc, m, hd⟩, _⟩ := I.tuple (SqT.of hs2)
      obtain ⟨as, hr, hn⟩ := DVs.reads I hs ds _ its ha rv
      exact ⟨_, Reads.tuple ho hc hd hr, hn⟩
  | .dict ds, _, _, h, r => by
    cases h with
    | dct n hs2 ha =>
      cases r
      obtain ⟨z, hd, vs, rel, dd⟩ := dk_of I.hok hs2
      obtain ⟨as, hr, hn⟩ := DKs.reads I hs ds _ vs ha rel
      refine ⟨_, PyProof.V.reads_dictOf (knd := mixKind X.prog X.w) (enc := encK) encK_reads dd hr, fun z => ?_⟩
      rcases List.mem_cons.mp z with q | q
      · rw [← q] at hd
        cases hd
      · exact hn q
theorem DVs.reads (I : Inv X pins σ H s) (hs : H sysModules = none) : ∀ (ds : List PyData) (vs : List V) (us : List Value), DVs X.K H M vs ds → Vals vs us → ∃ as, ReadsAll s.heap us ds as ∧ sysModules ∉ as
  | [], _, _, h, r => by
    cases h
    cases r
    exact ⟨_, ReadsAll.nil, fun z => (nomatch z)⟩
  | d :: ds, _, _, h, r => by
    cases h with
    | cons h1 h2 =>
      cases r with
      | cons r1 r2 =>
        obtain ⟨as, q1, n1⟩ := DV.reads I hs d _ _ h1 r1
        obtain ⟨bs, q2, n2⟩ := DVs.reads I hs ds _ _ h2 r2
        exact ⟨_, ReadsAll.cons q1 q2, fun z => (List.mem_append.mp z).elim n1 n2⟩
theorem DKs.reads (I : Inv X pins σ H s) (hs : H sysModules = none) : ∀ (ds : List (PyData × PyData)) (kvs : List (Key × V)) (us : List (Key × Value)), DKs X.K H M kvs ds → KV kvs us → ∃ as, PyProof.V.PairsRead s.heap encK us ds as ∧ sysModules ∉ as
  | [], _, _, h, r => by
    cases h
    cases r
    exact ⟨_, .nil, fun z => (nomatch z)⟩
  | (kd, d) :: ds, _, _, h, r => by
    cases h with
    | cons h1 h2 =>
      cases r with
      | @cons p q ps qs r1 r2 =>
        obtain ⟨as, q1, n1⟩ := DV.reads I hs d _ _ h1 r1.2
        obtain ⟨bs, q2, n2⟩ := DKs.reads I hs ds _ _ h2 r2
        obtain ⟨k2, u2⟩ := q
        have e : kP k2 = encK k2 := (encK_kP k2).symm
        obtain ⟨r0, _⟩ := r1
        simp only at r0
        subst r0
        rw [e]
        exact ⟨_, .cons q1 q2, fun z => (List.mem_append.mp z).elim n1 n2⟩
end
end
def rReprD (K : PySem.W.Frag) : List V → Hp → VK → Prop := fun xs H Q => ∃ (x : V) (d : PyData) (M : Mu), xs = [x] ∧ DV K H M x d ∧ d.showable = true ∧ d.depth ≤ 60 ∧ d.shown.length ≤ 16777216 ∧ Q (.str d.shown) H
theorem cr_reprD {X : Cx} (hu : X.A.units + 64 < cLine) (hg : NoRepr X.A) (hsy : ∃ o, X.base.get? sysModules = some o) : CallR X (.builtin "repr") (rReprD X.K) := by
  intro pins s σ H xs us Q I r h
  obtain ⟨x, d, M, rfl, dv, h1, h2, h3, q⟩ := h
  obtain ⟨o, ho⟩ := hsy
  have hs : H sysModules = none := (I.bs _ _ ho).2
  obtain ⟨u, rfl, r1⟩ := vals1 r
  obtain ⟨as, hr, hn⟩ := DV.reads I hs d x u dv r1
  cases dv with
  | non =>
    cases r1
    exact PySem.P.repr_of_none ⟨.str _, H, I.tok _, ⟨_, rfl⟩, q⟩
  | bl b =>
    cases r1
    exact PySem.P.repr_of_bool ⟨.str _, H, I.tok _, ⟨_, rfl⟩, q⟩
  | int i =>
    obtain ⟨t, rfl⟩ := r1
    exact PySem.P.repr_of_int (by simpa only [PyData.showable, decide_eq_true_eq] using h1) ⟨.str _, H, I.tok _, ⟨_, rfl⟩, q⟩
  | str z _ =>
    obtain ⟨t, rfl⟩ := r1
    exact PySem.P.repr_of_str ⟨.str _, H, I.tok _, ⟨_, rfl⟩, q⟩ h3
  | lst n e a =>
    cases r1
    exact repr_of_reads' hr h1 (fun _ => hn) hg (by omega) (fun _ _ e => e) (fun h' t tk hk => ⟨.str _, H, I.kept (t' := tk) hk, ⟨_, rfl⟩, q⟩) h3
  | tup n e a =>
    cases r1
    exact repr_of_reads' hr h1 (fun _ => hn) hg (by omega) (fun _ _ e => e) (fun h' t tk hk => ⟨.str _, H, I.kept (t' := tk) hk, ⟨_, rfl⟩, q⟩) h3
  | dct n e a =>
    cases r1
    exact repr_of_reads' hr h1 (fun _ => hn) hg (by omega) (fun _ _ e => e) (fun h' t tk hk => ⟨.str _, H, I.kept (t' := tk) hk, ⟨_, rfl⟩, q⟩) h3
end SM

set_option Elab.async false
set_option linter.all false
set_option maxRecDepth 100000
set_option maxHeartbeats 4000000
namespace SM
open PySem PySem.Spec PyProof.Rows L2
/-! ### t[::-1] -/
section
variable {prog : Program} {w : World} {A : Around} {E : Value → Shared → Prop} {s : Shared}
theorem back_places (n : Nat) : Builtin.Slice.sliceAdjust none none (-1) (n : Int) = ((n : Int) - 1, -1) := by
  simp [Builtin.Slice.sliceAdjust]
theorem back_count (n : Nat) : Builtin.Slice.slicePlaces ((n : Int) - 1) (-1) (-1) = n := by
  unfold Builtin.Slice.slicePlaces
  rw [if_neg (show ¬ (-1 : Int) > 0 by decide)]
  by_cases h : (n : Int) - 1 > -1
  · rw [if_pos h, show (- -1 : Int) = 1 by decide, Int.ediv_one]
    omega
  · rw [if_neg h]
    show (0 : Int).toNat = n
    omega
theorem back_applied {L : Addr} {a b c : Value} {n : Nat} {Q : Int × Int × Nat → Shared → Prop} (x : s.heap.IsSliceOf L a b c) (pa : IsPart a none) (pb : IsPart b none) (pc : IsPart c (some (-1)))
    (h : Q ((n : Int) - 1, -1, n) s) : wpAny (model prog w) A (Builtin.Slice.sliceApplied (.ref L) (pure (n : Int))) Q E s := by
  obtain ⟨ob, e1, e2, e3⟩ := id x
  unfold Builtin.Slice.sliceApplied Builtin.Slice.sliceFields
  refine wpAny_bind (wpAny_bind (wpAny_field e1 e3 (x := a) rfl (wpAny_bind (wpAny_field e1 e3 (x := b) rfl (wpAny_bind (wpAny_field e1 e3 (x := c) rfl (wpAny_pure ?_)))))))
  refine wpAny_bind (HT.slicePart_ pc ?_)
  show wpAny _ _ (if ((-1 : Int) == 0) = true then _ else _) _ _ s
  rw [if_neg (by decide)]
  refine wpAny_bind (HT.slicePart_ pa (wpAny_bind (HT.slicePart_ pb (wpAny_bind (wpAny_pure ?_)))))
  show wpAny _ _ (match Builtin.Slice.sliceAdjust none none (-1) (n : Int) with | (lo, hi) => pure (lo, (-1 : Int), Builtin.Slice.slicePlaces lo hi (-1))) _ _ s
  rw [back_places]
  show wpAny _ _ (pure ((n : Int) - 1, (-1 : Int), Builtin.Slice.slicePlaces ((n : Int) - 1) (-1) (-1))) _ _ s
  rw [back_count]
  exact wpAny_pure h
theorem fm_congr {α β : Type} {f g : α → Option β} : ∀ {l : List α}, (∀ x, x ∈ l → f x = g x) → l.filterMap f = l.filterMap g
  | [], _ => rfl
  | a :: l, h => by
    rw [List.filterMap_cons, List.filterMap_cons, h a List.mem_cons_self, fm_congr fun x hx => h x (List.mem_cons_of_mem _ hx)]
theorem back_pick (xs : Array Value) : ((List.range xs.size).filterMap fun (m : Nat) => xs[(((xs.size : Int) - 1) + (m : Int) * (-1)).toNat]?).toArray = xs.toList.reverse.toArray := by
  have e : ((List.range xs.size).filterMap fun (m : Nat) => xs[(((xs.size : Int) - 1) + (m : Int) * (-1)).toNat]?) = ((List.range xs.size).map fun k => xs.size - 1 - k).filterMap (xs[·]?) := by
    rw [List.filterMap_map]
    refine fm_congr fun m hm => ?_
    have := List.mem_range.mp hm
    show xs[(((xs.size : Int) - 1) + (m : Int) * (-1)).toNat]? = xs[xs.size - 1 - m]?
    rw [show (((xs.size : Int) - 1) + (m : Int) * (-1)).toNat = xs.size - 1 - m by omega]
  rw [e, PySem.W.krv_range, List.filterMap_reverse, PySem.W.krv_all]
theorem getItem_back {t L : Addr} {its : Array Value} {a b c : Value} {Q : Value → Shared → Prop} (hT : IsTup s.heap t its) (x : s.heap.IsSliceOf L a b c) (pa : IsPart a none) (pb : IsPart b none) (pc : IsPart c (some (-1)))
    (h : Q (.ref s.heap.objs.size) { s with heap := s.heap.push { cls := .type "tuple", data := .seq its.toList.reverse.toArray } }) (z : its.size ≤ sizeLine) : wpAny (model prog w) A (getItem (.ref t) (.ref L)) Q E s := by
  have sz : sizeOk (.seq its.toList.reverse.toArray) := by
    show its.toList.reverse.toArray.size ≤ sizeLine
    rw [List.size_toArray, List.length_reverse, Array.length_toList]
    exact z
  obtain ⟨ob, e1, e2, e3⟩ := id x
  have tS : s.TypeIs (.ref L) "slice" := ⟨ob, e1, e2⟩
  unfold getItem
  try with_reducible refine wpAny_holding ?_
  first | refine wpAny_bind (wpAny_pure ?_) | skip
  refine wpAny_bind (wpAny_sequenceKey hT.typeIs (by decide) ?_)
  refine wpAny_bind (wpAny_callSpecial?_slot (name := Str.ofString "__getitem__") hT.typeIs PyProof.Rows.slot_tuple_getitem
    (wpAny_call_entry PyProof.Rows.slot_tuple_getitem hT.typeIs entry_tuple_getitem ?_ (args_tuple_getitem _ _)))
  show wpAny _ _ (Builtin.Tuple.tupleItemsOf (.ref t) >>= _) _ _ s
  refine wpAny_bind (tupleItemsOf_ hT ?_)
  refine wpAny_bind (wpAny_typeOf tS ?_)
  rw [if_pos (by decide)]
  refine wpAny_bind (back_applied x pa pb pc ?_)
  have no : ¬ ((((its.size : Int) - 1) == 0 && (-1 : Int) == 1 && its.size == its.size) = true) := by
    intro q
    rw [Bool.and_eq_true, Bool.and_eq_true] at q
    exact absurd q.1.2 (by decide)
  show wpAny _ _ (if ((((its.size : Int) - 1) == 0 && (-1 : Int) == 1 && its.size == its.size) = true) then _ else _) _ _ s
  rw [if_neg no, back_pick]
  first
    | exact wpAny_bind (m := Builtin.Tuple.tupleExact _) (wpAny_newObj_type (wpAny_pure ⟨_, rfl, wpAny_pure h⟩) sz)
    | exact wpAny_bind (m := Builtin.Tuple.tupleExact _) (wpAny_newObj_type (wpAny_bind (wpAny_pure (wpAny_pure ⟨_, rfl, wpAny_pure h⟩))) sz)
    | exact wpAny_bind (wpAny_bind (m := Builtin.Tuple.tupleExact _) (wpAny_newObj_type (wpAny_pure (wpAny_pure ⟨_, rfl, wpAny_pure h⟩)) sz))
    | exact wpAny_bind (wpAny_bind (m := Builtin.Tuple.tupleExact _) (wpAny_newObj_type (wpAny_pure ⟨_, rfl, wpAny_pure h⟩) sz))
end
def tRevT (K : PySem.W.Frag) (te : TE) : TE := fun σ H Q => te σ H fun x H1 => ∃ a xs, x = .ref a ∧ SqT K H1 a xs ∧ ∀ p, H1 p = none → Q (.ref p) (upd H1 p (.tup xs.reverse))
theorem pe_revT {X : Cx} {e : Expr} {te : TE} {k : Nat} {p1 p2 p3 pos : Pos} (he : PE X e te) : PE X (.Subscript e (.Slice none none (some (.UnaryOp .USub (.Constant (.int 1) k p1) p2)) p3) pos) (tRevT X.K te) := by
  refine ⟨fun pins s σ H Q I h => ?_⟩
  refine Subscript_ (thn (he.run pins s σ H _ I h) fun v s1 ⟨x, H1, I1, r1, a, xs, ex, hx, q⟩ => ?_)
  subst ex
  cases r1
  have ps : PO X (some (.UnaryOp .USub (.Constant (.int 1) k p1) p2)) (tPart (tUn (rU fun i => .int (-i)) (tC (.int 1)))) := po_some (pe_un un_neg pe_int)
  refine wpAny_Slice (thn (po_none.run pins s1 σ H1 (fun o G => o = none ∧ G = H1) I1 ⟨rfl, rfl⟩) fun va s2 ⟨oa, H2, I2, pa, ea, g2⟩ => ?_)
  subst ea g2
  refine thn (po_none.run pins s2 σ H2 (fun o G => o = none ∧ G = H2) I2 ⟨rfl, rfl⟩) fun vb s3 ⟨ob, H3, I3, pb, eb, g3⟩ => ?_
  subst eb g3
  refine thn (ps.run pins s3 σ H3 (fun o G => o = some (-1) ∧ G = H3) I3 ⟨1, rfl, -1, rfl, rfl, rfl⟩) fun vc s4 ⟨oc, H4, I4, pc, ec, g4⟩ => ?_
  subst ec g4
  have I5 : Inv X pins σ H4 { s4 with heap := s4.heap.push { cls := .type "slice", data := .fields #[va, vb, vc] } } := I4.kept (t' := s4.toks) fun b ob q => Heap.get?_push_of_some _ q
  obtain ⟨its, r, ht, hz⟩ := I5.tuple hx
  have hl := r.length
  show wpAny (model X.prog X.w) X.A (subscriptTail e (.Slice none none (some (.UnaryOp .USub (.Constant (.int 1) k p1) p2)) p3) (.ref a) (.ref s4.heap.objs.size)) (EP X pins σ Q) X.xe { s4 with heap := s4.heap.push { cls := .type "slice", data := .fields #[va, vb, vc] } }
  refine tail_any (ops := [.ref a, .ref s4.heap.objs.size]) ht.typeIs (PyProof.Rows.slot_tuple_getitem.lookup) ?_ (by with_unfolding_all rfl)
  refine getItem_back ht (Heap.IsSliceOf.new _ va vb vc) pa pb pc ?_ (by rw [List.size_toArray, ← hl]; exact hz)
  refine ⟨.ref _, _, I5.laid (t' := s4.toks) (o := .tup xs.reverse) (fun b ob q => Heap.get?_push_of_some _ q) (Nat.le_refl _) ?_, rfl, q _ (I5.hok.fresh (Nat.le_refl _))⟩
  exact ⟨by rw [List.length_reverse]; exact hz, _, r.reverse, IsTup.new _ _⟩
variable [PW]
theorem ab_revT {K : PySem.W.Frag} {kt : Str} {te : TE} {f : DT} (h : Abs K kt te f) : Abs K kt (tRevT K te) fun env k R => f env k fun d k1 => ∃ xs, d = .tuple xs ∧ R (.tuple xs.reverse) k1 := fun F M σ H env k R Q D hf q =>
  h F M σ H env k _ _ D hf fun v H1 d k1 p ⟨ds, e, r⟩ => by
    subst e
    have D1 := D.grow p.gr p.fu
    obtain ⟨dv, gr, fu⟩ := p
    cases dv with
    | @tup a vs _ n ea al =>
      refine ⟨a, vs, rfl, SqT.of ea, fun p hp => ?_⟩
      have s : Same H1 (upd H1 p (.tup vs.reverse)) := same_upd hp
      exact q _ _ _ k1 ⟨.tup (fun z => D1.tr p z hp) upd_same (DVs.out (Out.of_same s) _ al.reverse), gr.trans (Gr.of_same s), fun a e => (fu a e).same s⟩ r
def reprF : List PyData → Option PyData
  | [d] => if (d.showable && decide (d.depth ≤ 60) && decide (d.shown.length ≤ 16777216)) = true then some (.str d.shown) else none
  | _ => none
theorem ca_repr {K : PySem.W.Frag} : CallA (rReprD K) K reprF := fun M H vs ds c Q tr hv h q => by
  unfold reprF at h
  split at h
  · rename_i d
    by_cases z : (d.showable && decide (d.depth ≤ 60) && decide (d.shown.length ≤ 16777216)) = true
    · rw [if_pos z] at h
      cases h
      simp only [Bool.and_eq_true, decide_eq_true_eq] at z
      obtain ⟨v, rfl, a⟩ := one_dv hv
      exact ⟨v, d, M, rfl, a, z.1.1, z.1.2, z.2, q _ H (.str _ z.2) (Same.refl H)⟩
    · rw [if_neg z] at h
      cases h
  · cases h
end SM

set_option Elab.async false
set_option linter.all false
set_option maxRecDepth 100000
set_option maxHeartbeats 4000000
namespace SM
open PySem PySem.Spec PyProof.Rows L2

/-! ### the end -/
section
variable {P : Program} {w : World} {K : PySem.W.Frag} {mg mb : Str → Option Value} {CX : CXT} {k : Nat} {fa a : Addr} {fd : FuncData} {x : Str} {sp : Sp} {z : Shared} {vs : List Value} {ns : List Int}
/-- what is asked of the call of the law -/
abbrev Said2 (z : Shared) : Result → Shared → Prop := fun r y => r = .ok (.ret (.bool true)) ∧ OldK z.heap y.heap ∧ y.os = z.os ∧ AllBare y.gens
/-- the script alone is tracked, or nothing -/
theorem end_core2 (KX : K.In z.heap) (names : z.heap.Ns mainGlobals mg) (bn : z.heap.Ns builtinsNs mb) (bns : ∀ x : Str, x ≠ "__name__" → mb x = bootBuiltins x) (roof : z.heap.NoLimit) (still : z.gens = #[])
    (ha : z.heap.get? a = some { cls := .type "list", data := .seq vs.toArray }) (room : Room k callerA) (sy : ∃ mm, z.heap.Ns sysModules mm) (G : ∀ base : Heap, K.In base → base.Ns mainGlobals mg → (∃ o, base.get? sysModules = some o) → FnG P w K mg base CX k fa fd [x] sp) (binds : ∀ (s : Shared) (u : Value), BindsTo s fd ⟨[u], []⟩ [(x, u)])
    (thru : ∀ H e y, CX [] H z (fun _ _ _ => False) e y → False) {H : Hp} (only : Only H) (want : sp [.ref a] H (fun v _ => v = .bl true) fun _ _ _ => False) (hok : HOk P w H z.heap) (one : ∀ b, H b ≠ none → b = a) (own : H a ≠ none → K.lookup a = none) :
    codeAny (model P w) callerA (.call (.ref fa) ⟨[.ref a], []⟩) (Said2 z) z := by
  have low : ∀ {b : Addr} {o : Obj}, z.heap.get? b = some o → H b = none → (hidT z.heap H).get? b = some o := fun e n => hidT_get e n
  have free : ∀ {b : Addr} {o : Obj} {es : Array DictEntry} {ep : Nat}, z.heap.get? b = some o → o.data = .dict es ep → H b = none := fun {b o es ep} e d => Classical.byContradiction fun n => by
    have q := one b n
    subst q
    rw [ha] at e
    cases e
    cases (show Data.seq vs.toArray _ = Data.dict es ep from d)
  have nsp : ∀ {b : Addr} {m : Str → Option Value}, z.heap.Ns b m → (hidT z.heap H).Ns b m := fun {b m} ⟨o, es, ep, e, d, r⟩ => ⟨o, es, ep, low e (free e d), d, r⟩
  have kb : K.In (hidT z.heap H) := fun b o e => low (KX b o e) (Classical.byContradiction fun n => by
    have q := one b n
    subst q
    rw [own n] at e
    cases e)
  have md : Mod K mg (hidT z.heap H) := ⟨kb, nsp names, ⟨mb, nsp bn, bns⟩, let ⟨mc, h1, h2⟩ := roof; ⟨mc, nsp h1, h2⟩⟩
  have nil : ∀ b : Addr, b ∈ ([] : List Addr) → False := fun b h => by cases h
  have at0 : Env0 P w K mg (hidT z.heap H) callerA [] z H := ⟨rfl, md, fun b o e => of_hidT e, Nat.le_of_eq (hidT_size _ _), trivial, fun b h => (nil b h).elim, hok, .of_eq still⟩
  refine codeAny_mono ((G _ kb (nsp names) (let ⟨_, h1⟩ := sy; let ⟨o, _, _, e, _⟩ := nsp h1; ⟨o, e⟩)).runs callerA room rfl [] z H ⟨[.ref a], []⟩ [.ref a] [.ref a] _ _ at0 (binds z (.ref a)) (.cons rfl .nil) want) fun r y got => ?_
  match r, got with
  | .error e, got => exact (thru H e y got).elim
  | .ok .next, got => exact False.elim got
  | .ok .brk, got => exact False.elim got
  | .ok .cont, got => exact False.elim got
  | .ok (.ret u), ⟨v, H2, os, bare, un, hok2, rel, q⟩ =>
    cases (show v = .bl true from q)
    cases (show u = Value.bool true from rel)
    refine ⟨rfl, OldK.of_keep fun b o e => ?_, os, bare⟩
    rcases only b with n | ⟨ob, xs, n⟩
    · exact un.keep b o e n (nil b) (by simp)
    · obtain ⟨e1, _⟩ := hok b _ n
      obtain ⟨e2, _⟩ := hok2 b _ (un.frzs b ob _ n)
      rw [e] at e1
      cases e1
      exact e2
theorem end_call2 (KX : K.In z.heap) (names : z.heap.Ns mainGlobals mg) (bn : z.heap.Ns builtinsNs mb) (bns : ∀ x : Str, x ≠ "__name__" → mb x = bootBuiltins x) (roof : z.heap.NoLimit) (still : z.gens = #[])
    (ha : z.heap.get? a = some { cls := .type "list", data := .seq vs.toArray }) (nums : IntsAre vs ns) (few : ns.length ≤ sizeLine) (room : Room k callerA) (sy : ∃ mm, z.heap.Ns sysModules mm) (G : ∀ base : Heap, K.In base → base.Ns mainGlobals mg → (∃ o, base.get? sysModules = some o) → FnG P w K mg base CX k fa fd [x] sp)
    (binds : ∀ (s : Shared) (u : Value), BindsTo s fd ⟨[u], []⟩ [(x, u)]) (want : ∀ H : Hp, Only H → SqL K H a (ns.map V.int) → sp [.ref a] H (fun v _ => v = .bl true) fun _ _ _ => False) (thru : ∀ H e y, CX [] H z (fun _ _ _ => False) e y → False) :
    codeAny (model P w) callerA (.call (.ref fa) ⟨[.ref a], []⟩) (Said2 z) z := by
  have rel := vals_ints nums
  cases hk : K.lookup a with
  | some o =>
    have e := (KX a o hk).symm.trans ha
    cases e
    have sq : SqL K (fun _ => none) a (ns.map V.int) := .inr ⟨_, vs.toArray, _, hk, rfl, rfl, rfl, by rw [List.size_toArray, nums.length]; exact few, by simpa using rel⟩
    exact end_core2 KX names bn bns roof still ha room sy G binds thru (H := fun _ => none) (fun _ => .inl rfl) (want _ (fun _ => .inl rfl) sq) (fun b u q => by cases (show (none : Option HO) = some u from q)) (fun b q => absurd rfl q) fun q => absurd rfl q
  | none =>
    let T : Hp := fun b => if b = a then some (.frz { cls := .type "list", data := .seq vs.toArray } (.lst (ns.map V.int))) else none
    have Ta : T a = some (.frz { cls := .type "list", data := .seq vs.toArray } (.lst (ns.map V.int))) := if_pos rfl
    have Tn : ∀ {b : Addr}, b ≠ a → T b = none := fun q => if_neg q
    have only : Only T := fun b => (Decidable.em (b = a)).elim (fun q => .inr ⟨{ cls := .type "list", data := .seq vs.toArray }, ns.map V.int, by rw [q]; exact Ta⟩) fun q => .inl (Tn q)
    refine end_core2 KX names bn bns roof still ha room sy G binds thru (H := T) only (want T only (.inl (.inr ⟨_, Ta⟩))) (fun b u q => ?_) (fun b q => Classical.byContradiction fun n => q (Tn n)) fun _ => hk
    by_cases n : b = a
    · subst n
      rw [Ta] at q
      cases q
      exact ⟨ha, by rw [List.length_map]; exact few, vs, _, rel, ha⟩
    · rw [Tn n] at q
      cases q
end
theorem walk_s {l : PySem.W.OpenLaw} {n k : Nat} {q : Program} {loose : List Str} {XP : (Str → Option Value) → Heap → Prop} {YP : World → Heap → Prop} {d : DefRec} {K : Params → PySem.W.Frag} {CX : World → CXT} {sp : World → Sp} {x : Str}
    (none_in : importsNone q = true) (most : l.most = some n) (few : n ≤ sizeLine) (plain : d.params.defaults = []) (room : Room k callerA) (inK : ∀ (w : World) (h : Heap), YP w h → (K w.params).In h)
    (F : ∀ (w : World) (mg : Str → Option Value) (fa : Addr) (h : Heap), (K w.params).In h → h.Ns mainGlobals mg → mg d.name = some (.ref fa) → ∃ fd : FuncData, (∀ (s : Shared) (u : Value), BindsTo s fd ⟨[u], []⟩ [(x, u)]) ∧
      ∀ base : Heap, (K w.params).In base → base.Ns mainGlobals mg → (∃ o, base.get? sysModules = some o) → FnG l.prog w (K w.params) mg base (CX w) k fa fd [x] (sp w))
    (want : ∀ (w : World) (H : Hp) (a : Addr) (ns : List Int), ns.length ≤ n → Only H → SqL (K w.params) H a (ns.map V.int) → sp w [.ref a] H (fun v _ => v = .bl true) fun _ _ _ => False)
    (thru : ∀ (w : World) (H : Hp) (s : Shared) (e : Value) (y : Shared), CX w [] H s (fun _ _ _ => False) e y → False) : PySem.W.WalkO q loose XP YP l.row.toRowW d [] (fun f vs => PySem.call f vs) := by
  refine Att.attach_call most plain fun w s0 s1 mg mb fa o pm cd doc a vs ns G Y ho hd hcd hmg hobj hints hlen hg => ?_
  obtain ⟨fd, hb, hF⟩ := F w mg fa _ (inK w _ Y) G.T.g hmg
  exact end_call2 (inK w _ Y) G.T.g G.T.b G.T.builtins G.T.nolimit hg hobj hints (Nat.le_trans hlen few) room (let ⟨mm, h1, _⟩ := (G.T.seer none_in).mods; ⟨mm, h1⟩) hF hb (fun H hO hS => want w H a ns hlen hO hS) fun H e y => thru w H s1 e y
end SM

set_option Elab.async false
set_option linter.all false
set_option maxRecDepth 100000
set_option maxHeartbeats 4000000
namespace SM
open PySem PySem.Spec PyProof.Rows L2
open PySem.SeqAt
variable [PW]
variable {xw : XK}

/-! ### what is never reached; a key that a dict lacks -/
section
variable {K : PySem.W.Frag} {kt : Str} {ta tb : TE} {fa fb : DT}
theorem as_never : AbsS xw K kt tNever fun _ _ _ => False := fun F M σ H env k B D h g e => g.elim
def ninDF : PyData → PyData → Option PyData
  | e, .dict ds => (toKey e).map fun k => .bool (!(lookD ds k).isSome)
  | _, _ => none
theorem ninDF_str (z : Str) (ds : List (PyData × PyData)) : ninDF (.str z) (.dict ds) = some (.bool (!(lookD ds (.inr z)).isSome)) := rfl
theorem ab_dnin (ha : Abs K kt ta fa) (hb : Abs K kt tb fb) : Abs K kt (tDNotIn ta tb) fun env k R => fa env k fun d k1 => fb env k1 fun e k2 => ∃ c, ninDF d e = some c ∧ R c k2 := fun F M σ H env k R Q D h q =>
  ha F M σ H env k _ _ D h fun v1 H1 d k1 p1 h1 => hb F M σ H1 env k1 _ _ (D.grow p1.gr p1.fu) h1 fun v2 H2 e k2 p2 ⟨c, hc, h2⟩ => by
    have D1 := D.grow p1.gr p1.fu
    have dv := p1.dv.out (D1.out p2.gr)
    have dw := p2.dv
    unfold ninDF at hc
    split at hc
    · obtain ⟨k3, hk, rfl⟩ := Option.map_eq_some_iff.mp hc
      cases dw with
      | dct n ed al =>
        rcases al.look k3 with ⟨z, z2⟩ | ⟨d', v, z, z2, _⟩
        · refine ⟨_, none, rfl, .inl ⟨_, k3, .inl ed, key_of dv hk, z2.symm⟩, q _ H2 _ k2 ⟨?_, p1.gr.trans p2.gr, p2.fu⟩ h2⟩
          rw [z]
          exact .bl _
        · refine ⟨_, some v, rfl, .inl ⟨_, k3, .inl ed, key_of dv hk, z2.symm⟩, q _ H2 _ k2 ⟨?_, p1.gr.trans p2.gr, p2.fu⟩ h2⟩
          rw [z]
          exact .bl _
    · cases hc
end
/-- xs != [] -/
def rNeE (K : PySem.W.Frag) : R2 := fun x y H Q => ∃ a b xs, x = .ref a ∧ y = .ref b ∧ SqL K H a xs ∧ SqL K H b [] ∧ Q (.bl (!xs.isEmpty)) H
theorem op_neE {X : Cx} (hu : X.A.units + 64 < cLine) : OpR X (compareOp .NotEq) (rNeE X.K) := by
  intro pins s σ H x y v u Q I rx ry h
  obtain ⟨a, b, xs, rfl, rfl, ha, hb, q⟩ := h
  cases rx
  cases ry
  obtain ⟨its, rv, p, _⟩ := I.list ha
  obtain ⟨its2, rv2, p2, _⟩ := I.list hb
  cases rv2
  cases rv with
  | nil =>
    have r := RcNeAt.lists (A := X.A) (e := fun _ => true) p.isList p2.isList rfl (by omega) (fun j hj => absurd hj (by simp))
    exact r _ _ _ _ ⟨.bl _, H, I, by first | rfl | simp, q⟩
  | cons r t =>
    exact RcNeAt.lists_lengths (A := X.A) p.isList p2.isList (by simp) (by omega) _ _ _ _ ⟨.bl _, H, I, rfl, q⟩
def neEF : PyData → PyData → Option PyData
  | .list xs, .list [] => some (.bool (!xs.isEmpty))
  | _, _ => none
theorem neEF_nil (xs : List PyData) : neEF (.list xs) (.list []) = some (.bool (!xs.isEmpty)) := rfl
theorem oa_neE {K : PySem.W.Frag} : OpA K (rNeE K) neEF := fun M H x y d e c Q tr hx hy h q => by
  unfold neEF at h
  split at h
  · rename_i zs
    cases h
    cases hx with
    | @lst a vs _ n e al =>
      cases hy with
      | @lst b us _ n2 e2 al2 =>
        cases al2
        refine ⟨a, b, vs, rfl, rfl, SqL.of e, SqL.of e2, ?_⟩
        have g : vs.isEmpty = zs.isEmpty := by
          have := al.length
          cases vs <;> cases zs <;> first | rfl | (simp at this)
        rw [g]
        exact q _ H (.bl _) (Same.refl H)
  · cases h
end SM

set_option Elab.async false
set_option linter.all false
set_option maxRecDepth 100000
set_option maxHeartbeats 4000000
namespace SM
open PySem PySem.Spec PyProof.Rows L2
variable [PW]
variable {xw : XK}

/-! ### defs that may raise -/
abbrev SPX := List Arg → Nat → (PyData → Nat → Prop) → (Exn → Nat → Prop) → Prop
/-- what a def promises that may raise, by data -/
def liftX (K : PySem.W.Frag) (kt : Str) (n : Nat) (S : SPX) : Sp := fun vs H Q E => ∃ (M : Mu) (pen : Pen) (ps : List Arg) (k : Nat) (R : PyData → Nat → Prop) (RX : Exn → Nat → Prop), Tr M H ∧ ArgsR K H M pen vs ps ∧ ps.length = n ∧
  (∀ a, pen = some a → a.1 ∈ M ∧ a.2 ∈ M ∧ Fuel kt H a k) ∧ S ps k R RX ∧ (∀ v H' d k', Post K kt M pen H H' v d k' → R d k' → Q v H') ∧
  ∀ cls dd H' x k', ExnR K H' M cls dd x → Gr pen H H' → (∀ a, pen = some a → Fuel kt H' a k') → RX x k' → E cls dd H'
def bodyX (R : PyData → Nat → Prop) (RX : Exn → Nat → Prop) : BE := { nx := fun _ k => ∃ k', k' ≤ k ∧ R .none k', rt := fun d k => ∃ k', k' ≤ k ∧ R d k', xk := fun x k => ∃ k', k' ≤ k ∧ RX x k' }
section
variable {K : PySem.W.Frag} {kt : Str} {te : TE} {f : DT} {ta : TA} {fa : DTP}
theorem ExnR.less {H : Hp} {M M2 : Mu} {cls : Value} {dd : Option Addr} {x : Exn} (u : ∀ b, b ∈ M2 → b ∈ M) (h : ExnR K H M cls dd x) : ExnR K H M2 cls dd x := by
  obtain ⟨h1, h2⟩ := h
  refine ⟨h1, ?_⟩
  split at h2
  · exact h2
  · obtain ⟨p, v, a, b, c, d⟩ := h2
    exact ⟨p, v, a, b, fun z => c (u _ z), DV.less u _ d⟩
theorem body_okX {ts : TS} {g : DTS} {N : List Str} {n : Nat} {S : SPX} {vs : List V} {H : Hp} {Q : VK} {E : XK} (h : AbsS E K kt ts g) (hs : ∀ ps k R RX, ps.length = n → S ps k R RX → g (bodyX R RX) (env0 N ps) k) (l : liftX K kt n S vs H Q E) : ts { nx := fun _ H' => Q .non H', rt := Q } (start N vs) H := by
  obtain ⟨M, pen, ps, k, R, RX, tr, a, hn, hp, hS, q, qx⟩ := l
  refine h _ M _ H _ k (bodyX R RX) _ (Dat.begin tr a hp) (hs ps k R RX hn hS) ⟨fun M' σ' H' env' k' D ⟨k2, hk, r⟩ => ?_, fun v H' d k' dv o fu ⟨k2, hk, r⟩ => ?_, fun _ _ _ _ _ _ h => h.elim, fun _ _ _ _ _ _ h => h.elim, fun _ _ _ _ _ _ _ _ _ _ _ _ h => h.elim, fun cls dd H' x k' r o fu ⟨k2, hk, rx⟩ => ?_⟩
  · exact q .non H' .none k2 ⟨.non, D.gr.gr, fun a e => (D.fu a e).le hk⟩ r
  · exact q v H' d k2 ⟨dv, o.gr, fun a e => (fu a e).le hk⟩ r
  · exact qx cls dd H' x k2 r o.gr (fun a e => (fu a e).le hk) rx
variable {n : Nat} {S : SPX}
/-- behind a call that may raise -/
theorem call_X {F : Fr} {M : Mu} {σ : L2.St} {H : Hp} {env : List Sl} {k : Nat} {B : BE} {D : Ends} {Q : VK} {R : PyData → Nat → Prop} (ha : AbsP K kt ta fa) (h : Dat K kt F M σ H env k) (e : EndsOk xw K kt F B D)
    (g : fa env k fun ps k1 => ps.length = n ∧ S ps k1 R B.xk) (q : ∀ v H' d k', Post K kt M F.pen H H' v d k' → R d k' → Q v H') : tCall (liftX K kt n S) [] xw ta σ H Q :=
  ha F M σ H env k _ _ h g fun vs H1 ps k1 a1 g1 f1 ⟨hn, hs⟩ => by
    have D1 := h.grow g1 f1
    show liftX K kt n S (vs ++ []) H1 Q xw
    rw [List.append_nil]
    exact ⟨M, F.pen, ps, k1, R, B.xk, D1.trr, a1, hn, fun a e => ⟨D1.sub _ (D1.pn a e).1, D1.sub _ (D1.pn a e).2.1, f1 a e⟩, hs, fun v H' d k' p r => q v H' d k' ⟨p.dv, g1.trans p.gr, p.fu⟩ r,
      fun cls dd H' x k' r gr fu b => e.xk cls dd H' x k' (r.less h.sub) (D1.grow gr fu).gr fu b⟩
theorem as_setX (i : Nat) (ha : AbsP K kt ta fa) : AbsS xw K kt (tAsg (tCall (liftX K kt n S) [] xw ta) (gName i)) fun B env k => fa env k fun ps k1 => ps.length = n ∧ S ps k1 (fun d k2 => B.nx (env.set i (.dat d)) k2) B.xk := fun F M σ H env k B D h g e =>
  call_X ha h e g fun v H' d k' p r => e.nx M _ H' _ k' ((h.grow p.gr p.fu).set i p.dv) r
theorem as_dropX (ha : AbsP K kt ta fa) : AbsS xw K kt (tDrop (tCall (liftX K kt n S) [] xw ta)) fun B env k => fa env k fun ps k1 => ps.length = n ∧ S ps k1 (fun _ k2 => B.nx env k2) B.xk := fun F M σ H env k B D h g e =>
  call_X ha h e g fun v H' d k' p r => e.nx M σ H' env k' (h.grow p.gr p.fu) r
theorem as_retX (ha : AbsP K kt ta fa) : AbsS xw K kt (tRet (tCall (liftX K kt n S) [] xw ta)) fun B env k => fa (env.map frzS) k fun ps k1 => ps.length = n ∧ S ps k1 B.rt B.xk := fun F M σ H env k B D h g e => by
  have D1 := h.frzAll
  exact call_X (M := F.M0) ha D1 e g fun v H' d k' p r => e.rt v H' d k' p.dv (D1.grow p.gr p.fu).gr p.fu r
/-- raise C() -/
theorem as_raise0 {C : Addr} : AbsS xw K kt (fun _ σ H => (fun (_ : L2.St) (H : Hp) (Q : XK) => Q (.ref C) none H) σ H fun cls d H' => xw cls d H') fun B env k => B.xk ⟨C, none⟩ k := fun F M σ H env k B D h g e =>
  e.xk _ _ H ⟨C, none⟩ k ⟨rfl, rfl⟩ h.gr h.fu g
end
/-- an error class of the text that has no __init__ of its own -/
structure XCls (K : PySem.W.Frag) (mg : Str → Option Value) (x : Str) (C : Addr) (bm : List Value) (n : String) : Prop where
  g : mg x = some (.ref C)
  k : PySem.W.keepIn K (.ref C) = true
  q : PySem.W.excIn K C bm n = true
  s : PySem.W.subIn K (.ref C) (.type "BaseException") = some true
  t : PySem.W.typeIn K (.ref C) = some (.type "type")
/-- C(), to be raised -/
theorem pmk_new {X : Cx} {C : Addr} {bm : List Value} {B n i : String} {x : Str} {p pos : Pos} (F : ExcBaseFacts B n i bm) (T : XCls X.K X.mg x C bm n) (hg : Gl X x) (hdb : (x == ("__debug__" : Str)) = false := by decide) : L2.PMk X (.Call (.Name x p) [] [] pos) (fun _ H Q => Q (.ref C) none H) := by
  intro pins s σ H Q I h
  refine wpAny_Call_Name_kw (ld_glob I hg T.g ?_ hdb)
  refine PySem.W.callWith_K0 I.kIn T.k ?_
  show wpAny _ _ (call (.ref C) []) _ _ _
  obtain ⟨bm', N, nm, qn, bs, hdct, sn, sub, ab, col, dd, k0, k1, k2, k3, k5, mN, hC, hN, hni, TT⟩ := exc_obj I.kIn T.q
  refine wpAny_call_exc_subT F TT hC hN hni (fun h' e hm => ?_) (Nat.zero_le _)
  exact mk_of I hm (raises_own T.s T.t) h (I.hok.gone hm.new)
section
variable {P : Program} {w : World} {K : PySem.W.Frag} {mg : Str → Option Value} {base : Heap} {N : List Str} {qual : Str} {scope : Scope} {f : Addr} {cd : Value} {A : Around} {outer : List Env} {s : Shared} {H : Hp} {E : XK}
theorem takesX : Takes (cxOf (L2.CX P w) P w K mg base N qual scope f cd A outer s H E) (fun cls d _ H => E cls d H) := takes_of rfl rfl rfl rfl
theorem passX : Passes (L2.CX P w) (cxOf (L2.CX P w) P w K mg base N qual scope f cd A outer s H E) E := fun pins σ H s e s' I c => passAt takesX σ pins H s e s' I c
theorem ownX : PassesOwn (model P w) (A.deeper (envOfC qual scope s.heap.objs.size f cd)) (envOfC qual scope s.heap.objs.size f cd) (cxOf (L2.CX P w) P w K mg base N qual scope f cd A outer s H E).xe := passes_of (X := cxOf (L2.CX P w) P w K mg base N qual scope f cd A outer s H E) rfl
/-- raise C() -/
theorem ps_raise0 {C : Addr} {bm : List Value} {B n i : String} {x : Str} {p pos pos' : Pos} (F : ExcBaseFacts B n i bm) (T : XCls K mg x C bm n) (hg : Gl (cxOf (L2.CX P w) P w K mg base N qual scope f cd A outer s H E) x) (hdb : (x == ("__debug__" : Str)) = false := by decide) :
    PS (cxOf (L2.CX P w) P w K mg base N qual scope f cd A outer s H E) (.Raise (some (.Call (.Name x p) [] [] pos)) none pos') (fun _ σ H => (fun (_ : L2.St) (H : Hp) (Q : XK) => Q (.ref C) none H) σ H fun cls d H' => E cls d H') :=
  L2.ps_raise rfl takesX (pmk_new F T hg hdb)
end
/-- a def of the text that keeps a promise and may raise -/
theorem Def.okX {K : PySem.W.Frag} {kt : Str} {mg : Str → Option Value} {base : Heap} {x : Str} {st : Stmt} {ps N : List Str} {k n : Nat} {Sp : SPX} (D : Def K mg x st ps) (S : FnScope N ps (defScope st)) (hn : n = ps.length)
    (hb : ∀ (f : Addr) (cdv : Value) (A : Around) (outer : List Env) (s : Shared) (H : Hp) (E : XK), Room k (A.deeper (envOfC x (defScope st) s.heap.objs.size f cdv)) → NoRepr (A.deeper (envOfC x (defScope st) s.heap.objs.size f cdv)) →
      ∃ t g, PSs (cxOf (L2.CX PW.prog PW.world) PW.prog PW.world K mg base N x (defScope st) f cdv A outer s H E) (defBody st) t ∧ AbsS E K kt t g ∧ ∀ qs j R RX, qs.length = n → Sp qs j R RX → g (bodyX R RX) (env0 N qs) j) : Ok PW.prog PW.world K mg base (L2.CX PW.prog PW.world) x ps (k + 1) (liftX K kt n Sp) := by
  obtain ⟨f, fd, F, g, b⟩ := D
  refine ⟨f, fd, ?_, g, F.kp, b⟩
  obtain ⟨oc, od, kV, doc, pm, an, cdv, ct, osl, rfl, lk, cd⟩ := F.ex
  refine fng_of lk cd S (fun vs H Q E h => ?_) fun A outer s H vs Q E hr quiet h => ?_
  · obtain ⟨M, pen, qs, j, R, RX, _, a, hl, _⟩ := h
    rw [a.length, hl, hn]
  · obtain ⟨t, g, hm, ha, hs⟩ := hb f cdv A outer s H E hr quiet
    exact ⟨t, hm, body_okX ha hs h⟩
end SM

set_option Elab.async false
set_option linter.all false
set_option maxRecDepth 100000
set_option maxHeartbeats 4000000
namespace SM
open PySem PySem.Spec PyProof.Rows L2

/-! ### an error that was caught and is kept -/
/-- at a: an error of the class at C, its dict at d -/
def xco (a C : Addr) (d : Option Addr) : HO := .ext fun h => ∃ (o : Obj) (vs : Array Value), h.get? a = some o ∧ o.cls = .ref C ∧ o.dict = d ∧ o.data = .fields vs
theorem xco_at {P : Program} {w : World} {H : Hp} {h : Heap} {a C : Addr} {d : Option Addr} (hok : HOk P w H h) (e : H a = some (xco a C d)) : ∃ (o : Obj) (vs : Array Value), h.get? a = some o ∧ o.cls = .ref C ∧ o.dict = d ∧ o.data = .fields vs := by
  have x : ObjOk P w H h a (.ext fun h => ∃ (o : Obj) (vs : Array Value), h.get? a = some o ∧ o.cls = .ref C ∧ o.dict = d ∧ o.data = .fields vs) := hok a _ e
  exact x.1
section
variable {X : Cx} {pins : List (Addr × Obj)} {σ : L2.St} {H : Hp} {s : Shared} {a C : Addr} {d : Option Addr} {ob : Obj} {vs : Array Value}
theorem inv_pinned {qs : List (Addr × Obj)} (I : Inv X qs σ H s) (sub : ∀ p, p ∈ pins → p ∈ qs) : Inv X pins σ H s :=
  ⟨I.ok, I.os, I.bare, I.base, I.loc, I.cell, I.free, I.freeC, fun p hp => (List.mem_append.mp hp).elim (fun z => I.pin p (List.mem_append_left _ z)) fun z => I.pin p (List.mem_append_right _ (sub p z)), I.hok, I.len⟩
/-- what was pinned is tracked -/
theorem inv_kept (I : Inv X ((a, ob) :: pins) σ H s) (hc : ob.cls = .ref C) (hd : ob.dict = d) (hf : ob.data = .fields vs) (old : X.s_0.heap.get? a = none) (apart : ∀ p, p ∈ X.pn ++ pins → p.1 ≠ a) : Inv X pins σ (upd H a (xco a C d)) s := by
  obtain ⟨here, none_, notL, notF, _⟩ := I.pin (a, ob) (List.mem_append_right _ List.mem_cons_self)
  have here' : s.heap.get? a = some ob := here
  have none' : H a = none := none_
  have away : ∀ {b : Addr} {u : HO}, H b = some u → (upd H a (xco a C d)) b = some u := fun {b u} e => by
    rw [upd_ne (ne_of_none e none')]
    exact e
  refine ⟨I.ok, I.os, I.bare, ⟨I.base.keep, I.base.slot, fun b o e n x => ?_, I.base.there, fun b xs e => away (I.base.tups b xs e), fun b o u e => away (I.base.frzs b o u e), fun b ps e => ?_⟩, I.loc, I.cell, ?_, fun x c e => ?_, fun p hp => ?_, fun b u e => ?_, I.len⟩
  · rw [upd_ne (fun z => by rw [z, old] at e; cases e)]
    exact I.base.free b o e n x
  · obtain ⟨more, q⟩ := I.base.tbls b ps e
    exact ⟨more, away q⟩
  · rw [upd_ne (fun z => notL z.symm)]
    exact I.free
  · have : c ≠ a := fun z => by
      obtain ⟨v, oc, e1, e2⟩ := I.cell x c e
      rw [z, here'] at e1
      cases e1
      first
        | (rw [hf] at e2; cases e2)
        | (obtain ⟨e2, _⟩ := e2; rw [hf] at e2; cases e2)
    rw [upd_ne this]
    exact I.freeC x c e
  · obtain ⟨p1, p2, p3, p4, p5⟩ := I.pin p ((List.mem_append.mp hp).elim (fun z => List.mem_append_left _ z) fun z => List.mem_append_right _ (List.mem_cons_of_mem _ z))
    refine ⟨p1, ?_, p3, p4, p5⟩
    rw [upd_ne (apart p hp)]
    exact p2
  · by_cases hb : b = a
    · subst hb
      rw [upd_same] at e
      cases e
      exact ⟨⟨ob, vs, here', hc, hd, hf⟩, ⟨ob, here'⟩, fun h1 h2 ⟨o, ws, q1, q2⟩ k => ⟨o, ws, k o q1, q2⟩⟩
    · rw [upd_ne hb] at e
      exact (I.hok b u e).stay (fun c u' _ q => q) (fun c q => away q) fun c xs q => away q
end
/-- what 'except x as n: y = n' wishes: slot i is n's, slot j is y's -/
def wKeep (K : PySem.W.Frag) (c : Value) (i j : Nat) (Wout : WX) (D : Ends) : WX := fun cls d σ H =>
  ∃ b, PySem.W.exmOne K cls c = some b ∧ (b = true → ∃ C, cls = .ref C ∧ ∀ a, H a = none → D.nx ((((σ.set i (some (.ref a))).set j (some (.ref a)))).set i none) (upd H a (xco a C d))) ∧ (b = false → Wout cls d σ H)
section
variable {X : Cx} {x n y : Str} {c : Value} {i j : Nat} {body : List Stmt} {np pos pos' p1 p2 p3 : Pos} {tb : WX → TS} {Wout : WX}
theorem ps_keep (hex : X.ex = []) (hs : X.stack = X.env :: X.outer) (hf : X.env.frame = some X.env.locals) (hN : X.N.Nodup) (hi : X.N[i]? = some n) (hj : X.N[j]? = some y) (hln : X.env.kindOf n = some .local) (hlj : Loc X.env.scope y) (hvi : Vis X.env.scope n) (hc : Names X x c) (tk : Takes X Wout)
    (hb : ∀ (W : WX) (pn : List (Addr × Obj)) (xe : Value → Shared → Prop), Takes (X.tr pn xe) W → PassesOwn (model X.prog X.w) X.A X.env xe → PSs (X.tr pn xe) body (tb W))
    (hfn : X.fn y = true ∨ X.env.scope.names.lookup y = some .local) (h1 : (n == ("__debug__" : Str)) = false := by decide) (h2 : (n == ("__classdict__" : Str)) = false := by decide)
    (h3 : ∀ env : Env, swapsWith (.Name n p2) (some (.Name y p1)) p3.line env = pure false := by intro env; rfl) :
    PS X (.Try body [.ExceptHandler (some (.Name x np)) (some n) [.Assign [.Name y p1] (.Name n p2) p3] pos'] [] [] pos) (fun D σ H => tb (wKeep X.K c i j Wout D) D σ H) := by
  refine ⟨fun pins s σ H D I h => ?_⟩
  have ok := I.ok
  have frames : X.A.frames = some (X.env :: X.outer) := by rw [ok.frames, hs]
  have place : Loc X.env.scope n := .inl hln
  refine wpAny_Try_except ?_
  refine wpAny_mono ((hb (wKeep X.K c i j Wout D) (X.pn ++ pins) (fun e z1 => wpAny (model X.prog X.w) X.A (noteFrame e X.env) (fun _ z2 => wpAny (model X.prog X.w) X.A (setFlight e none) (fun _ z3 =>
    wpAny (model X.prog X.w) X.A (handleBy e X.env [.ExceptHandler (some (.Name x np)) (some n) [.Assign [.Name y p1] (.Name n p2) p3] pos']) (L2.SP X pins D) X.xe z3) X.xe z2) X.xe z1) (fun u z got => ?_) PassesOwn.looking).run [] s σ H D (I.toTry _) h) (fun fl z got => ?_) (fun e z got => got)
  · obtain ⟨a, B, sI, qs, τ, G, cls, d, rfl, J0, nb, up, sky, na, os, ag, b, same, yes, no⟩ := got
    have J : Inv X pins τ G sI := J0.ofTry ok
    have sky' : Sky B (X.env :: X.outer) a (Zc cls d) X.env.locals z.heap := by rw [← hs]; exact sky
    show wpAny (model X.prog X.w) X.A (noteFrame (.ref a) X.env) _ _ _
    refine Sky.land Zc.steady frames hf sky' fun g3 fl3 up3 => ?_
    have J3 : Inv X pins τ G { z with heap := g3 } := J.landed nb fl3.1 (up.trans up3) os ag
    have fresh : B.get? a = none := fl3.2.1
    obtain ⟨o3, v3, e3, z3, d3⟩ := fl3.there
    have aside : ∀ {g : Heap} {o : Obj} {vs : Array Value}, g.FunFrames B (X.env :: X.outer) → g.get? a = some o → o.data = .fields vs → a ∉ frs (X.env :: X.outer) := fun {g o vs} ff e dd hm => by
      obtain ⟨_, o', e', hnf⟩ := ff.mem hm
      rw [e] at e'
      cases e'
      exact hnf _ dd
    have notFr := aside fl3.2.2.1 e3 d3
    have notL : a ≠ X.env.locals := fun q => notFr (List.mem_filterMap.mpr ⟨X.env, List.mem_cons_self, by rw [hf, q]⟩)
    have notF : a ∉ X.fs := fun hm => by
      obtain ⟨e, he, q⟩ := List.mem_filterMap.mp hm
      exact notFr (List.mem_filterMap.mpr ⟨e, List.mem_cons_of_mem _ he, q⟩)
    have inB : ∀ {b : Addr} {o : Obj}, sI.heap.get? b = some o → b ≠ a := fun {b o} e q => by
      subst q
      have := nb b o e (by rw [hs]; exact notFr)
      rw [fresh] at this
      cases this
    have apart : ∀ p, p ∈ X.pn ++ pins → p.1 ≠ a := fun p hp => inB (J.pin p hp).1
    have old : X.s_0.heap.get? a = none := by
      cases q : X.s_0.heap.get? a with
      | none => rfl
      | some o =>
        obtain ⟨o', e'⟩ := J.base.there a o q (by rw [hex]; exact List.not_mem_nil)
        exact absurd rfl (inB e')
    have S3 := J3.suite e3 d3 na notL notF
    refine wpAny_handleBy_cons (codeAny_handlers_test ?_) (by intro q; cases q)
    have LT : PySem.W.Looks (model X.prog X.w) g3 (typeOf (.ref a)) cls := fun A Q E t k q => wpAny_typeOf_ref (k _ _ e3) (by rw [z3.1]; exact q)
    have LM := PySem.W.exm_one (M := model X.prog X.w) (J3.kIn) LT same
    have asked : ∀ {Q : Value → Shared → Prop} {E : Value → Shared → Prop}, Q c { z with heap := g3 } → wpAny (model X.prog X.w) (X.A.mark (some (.ref a))) (eval (.Name x np) X.env) Q E { z with heap := g3 } := fun {Q E} q => by
      obtain ⟨hg, hdbg, hm | ⟨hm, hv, hnn⟩⟩ := hc
      · exact ld_glob (X := X.suite a ((a, o3) :: (X.pn ++ pins))) S3 hg hm q hdbg
      · exact ld_blt (X := X.suite a ((a, o3) :: (X.pn ++ pins))) S3 hg hm hv q hnn hdbg
    refine asked (LM.here ?_)
    cases b with
    | true =>
      obtain ⟨C, rfl, then_⟩ := yes rfl
      refine codeAny_handlers_suite_as ?_
      refine HandSPX.lands_againZ fl3 fun g4 fl4 up4 => ?_
      have J4 : Inv X pins τ G { z with heap := g4 } := J.landed nb fl4.1 ((up.trans up3).trans up4) os ag
      obtain ⟨o4, v4, e4, z4, d4⟩ := fl4.there
      have S4 := J4.suite e4 d4 na notL notF
      refine store_ok (X := X.suite a ((a, o4) :: (X.pn ++ pins))) (v := .ref a) S4 hN hi place rfl (fun t5 S5 => ?_) (.inr hln)
      have suite : PSs (X.suite a ((a, o4) :: (X.pn ++ pins))) [.Assign [.Name y p1] (.Name n p2) p3] (tAsg (tVar i) (gName j)) := pss_one (ps_set (i := j) hN hj hlj (pe_var hi hvi h1 h2) (h3 _) hfn)
      have here : (τ.set i (some (V.ref a)))[i]? = some (some (.ref a)) := by
        have := J4.len
        have hlt : i < X.N.length := (List.getElem?_eq_some_iff.mp hi).1
        rw [List.getElem?_set_self (by omega)]
      refine wpAny_mono (suite.run [] t5 _ G { nx := fun σ' H' => σ' = (τ.set i (some (.ref a))).set j (some (.ref a)) ∧ H' = G, rt := fun _ _ => False } S5 ⟨_, here, rfl, rfl⟩) (fun fl t6 got => ?_) (fun _ _ q => False.elim q)
      match fl, got with
      | .next, ⟨σ6, H6, S6, q6⟩ =>
        obtain ⟨rfl, rfl⟩ := q6
        have J6 : Inv X ((a, o4) :: pins) ((τ.set i (some (.ref a))).set j (some (.ref a))) H6 t6 := ⟨ok, S6.os, S6.bare, S6.base, S6.loc, S6.cell, S6.free, S6.freeC, fun p hp => S6.pin p (List.mem_append_left _ (by
          rcases List.mem_append.mp hp with q | q
          · exact List.mem_cons_of_mem _ (List.mem_append_left _ q)
          · rcases List.mem_cons.mp q with q | q
            · rw [q]; exact List.mem_cons_self
            · exact List.mem_cons_of_mem _ (List.mem_append_right _ q))), S6.hok, S6.len⟩
        show wpAny (model X.prog X.w) X.A (do bindName X.env n .none; unbindBehindTheSuite X.env n pos') _ _ _
        exact gone_ok J6 hN hi hln fun t7 J7 => ⟨_, _, inv_kept J7 z4.1 z4.2 d4 old apart, then_ a na⟩
      | .brk, ⟨_, _, _, q6⟩ => exact q6.elim
      | .cont, ⟨_, _, _, q6⟩ => exact q6.elim
      | .ret _, ⟨_, _, _, _, _, q6⟩ => exact q6.elim
    | false =>
      show wpAny _ X.A (handleBy (.ref a) X.env []) _ _ _
      refine wpAny_handleBy_nil ?_
      obtain ⟨k1, k2, k3, oe, ws, T, oT, ts', he, hz, hd, hw, hr⟩ := id fl3
      unfold PySem.passOn
      refine wpAny_bind (wpAny_field he hd hw ?_)
      rw [if_neg (show ¬ ((Value.ref T == Value.none) = true) from by simp)]
      have last : wpAny (model X.prog X.w) X.A (setFlight (.ref a) X.env.frame) (fun _ z4 => wpAny (model X.prog X.w) X.A (throw (.ref a) : Sem Flow) (L2.SP X pins D) X.xe z4) X.xe { z with heap := g3 } := by
        rw [hf]
        refine HandSPX.setFlight_upZ fl3 fun g4 hh4 up4 => wpAny_throw (tk _ _ ?_)
        exact ⟨a, B, sI, pins, τ, G, cls, d, rfl, J, nb, (up.trans up3).trans up4, .inr (.inr (by rw [hs]; exact hh4)), na, os, ag, no rfl⟩
      first
        | exact wpAny_bind (wpAny_pure (wpAny_bind last))
        | exact wpAny_bind last
  · match fl, got with
    | .next, ⟨τ, G, J, q⟩ => exact wpAny_execs_nil ⟨τ, G, J.ofTry ok, q⟩
    | .brk, ⟨τ, G, J, q⟩ => exact ⟨τ, G, J.ofTry ok, q⟩
    | .cont, ⟨τ, G, J, q⟩ => exact ⟨τ, G, J.ofTry ok, q⟩
    | .ret u, ⟨v, τ, G, J, r, q⟩ => exact ⟨v, τ, G, J.ofTry ok, r, q⟩
end
end SM

set_option Elab.async false
set_option linter.all false
set_option maxRecDepth 100000
set_option maxHeartbeats 4000000
namespace SM
open PySem PySem.Spec PyProof.Rows L2

/-! ### what is asked of an error -/
section
open PySem.W PySem.Calls
variable {prog : Program} {w : World} {A : Around} {E : Value → Shared → Prop} {s : Shared} {K : Frag} {x D : Addr} {ox : Obj} {od : Option Obj}
/-- the kind of such an error, asked by its name, with or without a dict of its own -/
theorem kind_asked {Q : Option Value → Shared → Prop} (C : ExcC K D) (X : K.In s.heap) (I : InstAt s.heap x ox D od) (h : Q (some (.ref D)) { s with toks := s.toks + 1 }) :
    wpAny (model prog w) A (getAttr? (.ref x) "__class__") Q E s := by
  have hf : findObj K D od "__class__" = some (.bind (.builtin "getset_descriptor.__get__") (.builtin "object.__class__")) := by
    obtain ⟨cd, hc, _⟩ := any_some C.hd
    unfold findObj
    rw [hc, Option.bind_some, C.ha, Option.bind_some]
    simp [C.hn, C.ht]
  obtain ⟨hp, g, d, t, os⟩ := s
  have z0 := I.type (M := model prog w)
  have z1 := looks_findIn (M := model prog w) X C.hg
  have z2 := looks_findIn (M := model prog w) X C.hk
  have z3 := looks_find (M := model prog w) X I hf
  have below : Looks (model prog w) hp (isInstance (.ref x) (.type "BaseException")) true := z0.andThen (looks_subIn X C.hs)
  have o1 : (Value.builtin "BaseException.__getattribute__" == Value.builtin "object.__getattribute__") = false := by decide +kernel
  have o2 : (onTheHeap (Value.ref D) && Value.builtin "BaseException.__getattribute__" == Value.builtin "object.__getattribute__") = false := by rw [o1]; rfl
  have o3 : (false && onTheHeap (Value.builtin "BaseException.__getattribute__")) = false := rfl
  unfold getAttr? getAttrBy? getAttrBy
  refine wpAny_bind (wpAny_mkText (wpAny_bind (wpAny_attempt (wpAny_holding (wpAny_bind (z0.at (wpAny_bind (z1.at ?_))))))))
  show wpAny _ _ (if (onTheHeap (Value.ref D) && Value.builtin "BaseException.__getattribute__" == Value.builtin "object.__getattribute__") = true then _ else _) _ _ _
  rw [o2, if_neg Bool.false_ne_true]
  unfold getAttrByItsOwn hookBefore
  refine wpAny_bind ?_
  rw [if_pos (show onTheHeap (Value.ref D) = true from rfl)]
  refine z2.at (wpAny_bind (wpAny_attempt (wpAny_holding ?_)))
  unfold callGetattribute
  rw [o3, if_neg Bool.false_ne_true]
  unfold boundAndCalled
  rw [PySem.F.excAttr_ValueError.ga.bind (.ref x)]
  refine wpAny_bind (wpAny_pure ?_)
  show wpAny _ _ (call (.builtin "BaseException.__getattribute__") [.ref x, .str "__class__" t]) _ _ _
  refine wpAny_call (codeAny_call_builtin PySem.F.excAttr_ValueError.ga.plain PySem.F.entry_bexc_ga ?_)
  refine @check_slot (model prog w) _ _ ⟨hp, g, d, t + 1, os⟩ "BaseException.__getattribute__" "BaseException" "__getattribute__" (.ref x) [.str "__class__" t] [] _ (by decide +kernel) (by decide +kernel) below (PySem.F.args_bexc_ga (.ref x) (.str "__class__" t)) ?_
  unfold Builtin.«object.__getattribute__»
  refine wpAny_bind (wpAny_of_eq (a := ((Value.ref x : Value), [Value.str "__class__" t])) (by first | rfl | (simp only [slotArgs]; rfl)) ?_)
  refine wpAny_bind (wpAny_pure (wpAny_bind (z0.at (wpAny_bind (z3.at ?_)))))
  show wpAny _ _ (holding [Value.builtin "object.__class__"] (call (.builtin "getset_descriptor.__get__") [.builtin "object.__class__", .ref x, .ref D]) >>= ret) _ _ _
  refine wpAny_bind (wpAny_holding (wpAny_call (class_get (s := ⟨hp, g, d, t + 1, os⟩) (ox := ox) (od := od) X I C.hm ?_)))
  refine wpAny_pure ?_
  show wpAny _ _ (handedOut (.ref D)) _ _ _
  rw [handedOut_of (v := .ref D) rfl]
  first
    | exact wpAny_pure (wpAny_pure h)
    | exact wpAny_pure h
    | exact wpAny_pure (wpAny_bind (wpAny_pure (wpAny_pure h)))
theorem kit_error (C : ExcC K D) : KitX K (.ref x) (.ref D) (fun h => ∃ ox od, InstAt h x ox D od) where
  ty := fun _ _ _ ⟨_, _, I⟩ => I.type
  it := fun _ _ X _ => by
    obtain ⟨cdD, hcD, _⟩ := any_some C.hd
    unfold clsIn at hcD
    split at hcD
    · rename_i c' d' cd' sl' ho
      intro A' Q' E' s' k q
      unfold isType loadHead
      exact wpAny_bind (wpAny_loadPart (k _ _ (X _ _ ho)) (wpAny_pure q))
    · cases hcD
  ne := fun h tp dd its n sl X htp => by
    obtain ⟨cdD, hcD, _⟩ := any_some C.hd
    refine Bool.eq_false_iff.mpr fun q => ?_
    have e : D = tp := Value.ref.inj (beq_iff_eq.mp q)
    subst e
    unfold clsIn at hcD
    split at hcD
    · rename_i c' d' cd' sl' ho
      have z := (X _ _ ho).symm.trans htp
      cases z
    · cases hcD
  ca := fun X ⟨_, _, I⟩ k => kind_asked C X I k
end
/-- a kept error of the class at C, its fields fs -/
def XcR (H : Hp) (a C : Addr) (fs : List (Str × V)) : Prop := (fs = [] ∧ H a = some (xco a C none)) ∨ ∃ d, H a = some (xco a C (some d)) ∧ H d = some (.xd fs)
theorem XcR.inst {X : Cx} {pins : List (Addr × Obj)} {σ : L2.St} {H : Hp} {s : Shared} {a C : Addr} {fs : List (Str × V)} (I : Inv X pins σ H s) (h : XcR H a C fs) : ∃ ox od, PySem.W.InstAt s.heap a ox C od := by
  rcases h with ⟨_, h⟩ | ⟨d, h1, h2⟩
  · obtain ⟨o, vs, e1, e2, e3, e4⟩ := xco_at I.hok h
    obtain ⟨c, dd, dt, sl⟩ := o
    cases (show c = .ref C from e2)
    cases (show dd = none from e3)
    cases (show dt = .fields vs from e4)
    exact ⟨_, none, e1, rfl, rfl, trivial⟩
  · obtain ⟨o, vs, e1, e2, e3, e4⟩ := xco_at I.hok h1
    have x : ObjOk X.prog X.w H s.heap d (.xd fs) := I.hok d _ h2
    obtain ⟨mA, hns, _⟩ := x
    obtain ⟨od, hod, _⟩ := lookIn_ns hns
    obtain ⟨c, dd, dt, sl⟩ := o
    cases (show c = .ref C from e2)
    cases (show dd = some d from e3)
    cases (show dt = .fields vs from e4)
    exact ⟨_, some od, e1, rfl, rfl, hod⟩
/-- isinstance(error, class) -/
def rIsX (K : PySem.W.Frag) : List V → Hp → VK → Prop := fun xs H Q => ∃ (a D : Addr) (fs : List (Str × V)) (c : V) (u : Value) (b : Bool), xs = [.ref a, c] ∧ XcR H a D fs ∧ ExcC K D ∧ ClsV c u ∧ PySem.W.kitOne K (.ref D) u = some b ∧ Q (.bl b) H
theorem call_isX {X : Cx} : CallR X (.builtin "isinstance") (rIsX X.K) := by
  intro pins s σ H xs us Q I r h
  obtain ⟨a, D, fs, c, u, b, rfl, he, C, k, kb, q⟩ := h
  obtain ⟨u1, u2, rfl, r1, r2⟩ := vals2 r
  have e2 := k.eq r2
  subst e2
  obtain rfl : u1 = Value.ref a := r1
  exact PySem.W.kia_one (kit_error C) I.kIn (he.inst I) kb (fun z => nomatch z) fun tk => ⟨.bl b, H, I.tok tk, rfl, q⟩
/-- isinstance(error, (class, ..)) -/
def rIsXT (K : PySem.W.Frag) : List V → Hp → VK → Prop := fun xs H Q => ∃ (a tp D : Addr) (fs : List (Str × V)) (cs : List V) (us : List Value) (b : Bool), xs = [.ref a, .ref tp] ∧ H tp = some (.tup cs) ∧ XcR H a D fs ∧ ExcC K D ∧ Paired ClsV cs us ∧ PySem.W.kitAny K (.ref D) us = some b ∧ Q (.bl b) H
theorem call_isXT {X : Cx} : CallR X (.builtin "isinstance") (rIsXT X.K) := by
  intro pins s σ H xs us Q I r h
  obtain ⟨a, tp, D, fs, cs, ws, b, rfl, hT, he, C, k, kb, q⟩ := h
  obtain ⟨u1, u2, rfl, r1, r2⟩ := vals2 r
  obtain rfl : u1 = Value.ref a := r1
  cases (show u2 = Value.ref tp from r2)
  obtain ⟨_, its, rv, o, h1, h2, n, h3⟩ := (show ObjOk X.prog X.w H s.heap tp (.tup cs) from I.hok tp _ hT)
  have e3 := ClsV.all k rv
  subst e3
  obtain ⟨oc, od, dt, sl⟩ := o
  cases (show oc = _ from h2)
  cases (show dt = _ from h3)
  exact PySem.W.kia_tup (kit_error C) I.kIn (he.inst I) h1 kb (fun z => nomatch z) fun tk => ⟨.bl b, H, I.tok tk, rfl, q⟩
/-- error.f -/
def tXcF (K : PySem.W.Frag) (f : Str) (te : TE) : TE := fun σ H Q => te σ H fun x H1 => ∃ (a D : Addr) (fs : List (Str × V)) (v : V), x = .ref a ∧ XcR H1 a D fs ∧ XfC K D ∧ PySem.W.findIn K (.ref D) f = some none ∧ fs.lookup f = some v ∧ Q v H1
theorem pe_xcF {X : Cx} {e : Expr} {te : TE} {pos : Pos} {f : Str} (he : PE X e te) (hb : attributeBase e f X.env (eval e X.env) = eval e X.env := by rfl) : PE X (.Attribute e f pos) (tXcF X.K f te) := by
  refine ⟨fun pins s σ H Q I h => ?_⟩
  refine attr_of hb (thn (he.run pins s σ H _ I h) fun u s1 hh => ?_)
  obtain ⟨x, H1, I1, rx, a, D, fs, v, ex, hE, T, hno, l, q⟩ := hh
  subst ex
  obtain rfl : u = Value.ref a := rx
  rcases hE with ⟨rfl, _⟩ | ⟨d, h1, h2⟩
  · cases l
  · obtain ⟨o, vs, e1, e2, e3, e4⟩ := xco_at I1.hok h1
    have xx : ObjOk X.prog X.w H1 s1.heap d (.xd fs) := I1.hok d _ h2
    obtain ⟨mA, hns, hr⟩ := xx
    obtain ⟨od, hod, hl⟩ := lookIn_ns hns
    obtain ⟨u, hu, ru⟩ := RelO.some_of (v := v) (o := mA f) (by rw [← l]; exact hr f)
    obtain ⟨c, dd, dt, sl⟩ := o
    cases (show c = .ref D from e2)
    cases (show dd = some d from e3)
    cases (show dt = .fields vs from e4)
    have J : PySem.W.InstAt s1.heap a _ D (some od) := ⟨e1, rfl, rfl, hod⟩
    exact PySem.HandSPX.exc_get I1.kIn J T.ga T.gg T.exC (PySem.W.findObj_own T.hdC hno rfl (by rw [hl, hu])) (handed_of ru) ⟨v, H1, I1.tok _, ru, q⟩
/-- a class by its name -/
theorem pe_class {X : Cx} {x : Str} {C : Addr} {pos : Pos} (hg : Gl X x) (hm : X.mg x = some (.ref C)) (hd : (x == ("__debug__" : Str)) = false := by decide) : PE X (.Name x pos) (tC (.ref C)) := pe_glob (v := .ref C) hg hm rfl hd
end SM

set_option Elab.async false
set_option linter.all false
set_option maxRecDepth 100000
set_option maxHeartbeats 4000000
namespace SM
open PySem PySem.Spec PyProof.Rows L2

/-! ### calls in a try -/
section
variable {X : Cx} {CX : CXT} {k : Nat} {f : Addr} {fd : FuncData} {ps : List Str} {sp : Sp} {E : L2.St → XK} {x : Str} {p pos : Pos} {e : Expr} {es : List Expr} {t : TA}
theorem run_gS {pins : List (Addr × Obj)} {σ : L2.St} {H : Hp} {s : Shared} {Q : VK} {us : List Value} {vs : List V} (G : FnG X.prog X.w X.K X.mg X.base CX k f fd ps sp) (room : Room k X.A) (quiet : NoRepr X.A) (binds : Binds X.K fd ps []) (thru : PassesAt CX X σ (E σ))
    (I : Inv X pins σ H s) (rel : Vals vs us) (want : sp vs H Q (E σ)) : wpAny (model X.prog X.w) X.A (call (.ref f) us) (EP X pins σ Q) X.xe s := by
  have long : (us ++ []).length = ps.length := by rw [List.append_nil, ← rel.length, G.size vs H Q (E σ) want]
  have bound := binds s us I.kIn long
  rw [List.append_nil] at bound
  refine wpAny_call (codeAny_mono (G.runs X.A room quiet X.stack s H ⟨us, []⟩ us vs Q (E σ) I.env0 bound rel want) fun r s2 got => ?_)
  match r, got with
  | .error e, got => exact thru pins H s e s2 I got
  | .ok (.ret u), got => exact I.after got
/-- f(e, ..), where what is wished of an error depends on the slots -/
theorem pe_callGS (G : FnG X.prog X.w X.K X.mg X.base CX k f fd ps sp) (room : Room k X.A) (quiet : NoRepr X.A) (glob : Gl X x) (there : X.mg x = some (.ref f)) (kept : PySem.W.keepIn X.K (.ref f) = true) (binds : Binds X.K fd ps []) (thru : ∀ σ, PassesAt CX X σ (E σ))
    (ha : PA X (e :: es) t) (h1 : (x == ("__debug__" : Str)) = false := by decide) (h2 : starEach (e :: es) X.env = (false, eval e X.env) :: starEach es X.env := by rfl) (h3 : (backTo pos (starEach es X.env)).any (·.1) = false := by rfl) :
    PE X (.Call (.Name x p) (e :: es) [] pos) (tCallS sp E t) := by
  refine ⟨fun pins s σ H Q I want => wpAny_Call_Name_kw (ld_glob I glob there ?_ h1)⟩
  exact PySem.W.callWith_K (h₀ := X.base) I.ok.mod.kin kept (thn (ha.run pos pins s σ H _ I want) fun us s1 ⟨vs, H1, I1, rel, q⟩ => ⟨I1.kIn, run_gS G room quiet binds (thru σ) I1 rel q⟩) h2 h3
end
theorem takesN {X : Cx} : Takes X (fun _ _ _ _ => False) := L2.takes0
end SM

set_option Elab.async false
set_option linter.all false
set_option maxRecDepth 100000
set_option maxHeartbeats 4000000
namespace SM
open PySem PySem.Spec PyProof.Rows L2
variable [PW]
variable {xw : XK}

/-! ### min, max, dict(pairs), texts, by data -/
section
variable {K : PySem.W.Frag} {kt : Str} {te ta tb : TE} {f fa fb : DT} {tx : TA} {fx : DTA}
def minF : List PyData → Option PyData
  | [.int i, .int j] => some (.int (if j < i then j else i))
  | _ => none
def maxF : List PyData → Option PyData
  | [.int i, .int j] => some (.int (if j > i then j else i))
  | _ => none
theorem two_dv {M : Mu} {H : Hp} {vs : List V} {d e : PyData} (h : DVs K H M vs [d, e]) : ∃ v w, vs = [v, w] ∧ DV K H M v d ∧ DV K H M w e := by
  cases h with
  | cons a t =>
    cases t with
    | cons b t =>
      cases t
      exact ⟨_, _, rfl, a, b⟩
theorem ca_min : CallA (fun xs H Q => ∃ i j, xs = [.int i, .int j] ∧ Q (.int (if j < i then j else i)) H) K minF := fun M H vs ds c Q tr hv h q => by
  unfold minF at h
  split at h <;> cases h
  obtain ⟨v, w, rfl, a, b⟩ := two_dv hv
  cases a
  cases b
  exact ⟨_, _, rfl, q _ H (.int _) (Same.refl H)⟩
theorem ca_max : CallA (fun xs H Q => ∃ i j, xs = [.int i, .int j] ∧ Q (.int (if j > i then j else i)) H) K maxF := fun M H vs ds c Q tr hv h q => by
  unfold maxF at h
  split at h <;> cases h
  obtain ⟨v, w, rfl, a, b⟩ := two_dv hv
  cases a
  cases b
  exact ⟨_, _, rfl, q _ H (.int _) (Same.refl H)⟩
/-- the pairs of a list: keys and what belongs to them -/
def pairsD : List PyData → Option (List (Key × PyData))
  | [] => some []
  | .tuple [k, c] :: r => (toKey k).bind fun j => (pairsD r).map ((j, c) :: ·)
  | _ => none
def foldD (acc : List (PyData × PyData)) : List (Key × PyData) → List (PyData × PyData)
  | [] => acc
  | (j, c) :: r => foldD (putD acc j c) r
theorem pairs_dv {M : Mu} {H : Hp} : ∀ {ds : List PyData} {ks : List (Key × PyData)} {vs : List V}, pairsD ds = some ks → DVs K H M vs ds → ∃ (ps : List Addr) (kvs : List (Key × V)), vs = ps.map V.ref ∧ Paired (fun p kv => SqT K H p [kV kv.1, kv.2]) ps kvs ∧
    ∀ (xs : List (Key × V)) (acc : List (PyData × PyData)), DKs K H M xs acc → DKs K H M (mergeK xs kvs) (foldD acc ks)
  | [], ks, vs, e, h => by
    cases h
    cases e
    exact ⟨[], [], rfl, .nil, fun xs acc a => a⟩
  | d :: r, ks, vs, e, h => by
    unfold pairsD at e
    split at e
    · rename_i heq
      cases heq
    · rename_i k c r' heq
      cases heq
      obtain ⟨j, e1, e2⟩ := Option.bind_eq_some_iff.mp e
      obtain ⟨ks', e3, rfl⟩ := Option.map_eq_some_iff.mp e2
      cases h with
      | cons a t =>
        obtain ⟨ps, kvs, rfl, h2, h3⟩ := pairs_dv e3 t
        cases a with
        | @tup p xs _ nm ea al =>
          obtain ⟨v, w, rfl, b1, b2⟩ := two_dv al
          have ev := key_of b1 e1
          subst ev
          refine ⟨p :: ps, (j, w) :: kvs, rfl, .cons (SqT.of ea) h2, fun xs acc ac => ?_⟩
          exact h3 _ _ (ac.put b2)
    · cases e
theorem foldD_length : ∀ (ks : List (Key × PyData)) (acc : List (PyData × PyData)), (foldD acc ks).length ≤ acc.length + ks.length
  | [], acc => Nat.le_refl _
  | (j, c) :: r, acc => by
    have h1 := foldD_length r (putD acc j c)
    have h2 := putD_length acc j c
    show (foldD (putD acc j c) r).length ≤ _
    rw [List.length_cons]
    omega
/-- dict([(k, v), ..]) -/
theorem af_dictP (hx : AbsA K kt tx fx) : AbsF K kt (tCB (fun xs H Q => ∃ (a : Addr) (ps : List Addr) (kvs : List (Key × V)), xs = [.ref a] ∧ SqL K H a (ps.map V.ref) ∧ Paired (fun p kv => SqT K H p [kV kv.1, kv.2]) ps kvs ∧ ∀ p, H p = none → Q (.ref p) (upd H p (.dK (mergeK [] kvs)))) tx)
    fun env k R => fx env k fun as k1 => ∃ ds ks, as = [.list ds] ∧ pairsD ds = some ks ∧ R (.dict (foldD [] ks)) k1 := fun F M σ H env k R Q D h q =>
  hx F M σ H env k _ _ D h fun vs H1 as k1 al g1 f1 ⟨ds, ks, e, hk, r⟩ => by
    subst e
    obtain ⟨v, rfl, dv⟩ := one_dv al
    have D1 := D.grow g1 f1
    cases dv with
    | @lst a xs _ nm ea al2 =>
      obtain ⟨ps, kvs, rfl, h2, h3⟩ := pairs_dv hk al2
      refine ⟨a, ps, kvs, rfl, SqL.of ea, h2, fun p hp => ?_⟩
      have s : Same H1 (upd H1 p (.dK (mergeK [] kvs))) := same_upd hp
      have dk := h3 [] [] .nil
      exact q p _ _ k1 (D.fresh g1 f1 hp) (own_dct upd_same (DKs.out (Out.of_same s) _ (DKs.ext (Ext.cons hp) _ dk))) rfl (g1.trans (Gr.of_same s)) (fun a e => (f1 a e).same s) r
/-! texts -/
theorem strs_dv {H : Hp} {M : Mu} : ∀ {ys : List Str}, (∀ y, y ∈ ys → y.length ≤ 16777216) → DVs K H M (ys.map V.str) (ys.map PyData.str)
  | [], _ => .nil
  | y :: r, h => .cons (.str y (h y List.mem_cons_self)) (strs_dv fun z hz => h z (List.mem_cons_of_mem _ hz))
/-- x.split(t) -/
theorem af_split {t : Str} (ht : (t.length == 0) = false) (h : Abs K kt te f) : AbsF K kt (tM1 (fun x xs H Q => ∃ a b, x = .str a ∧ xs = [.str b] ∧ (b.length == 0) = false ∧ a.length + 2 ≤ sizeLine ∧ rNewStrs (Txt.split a b) H Q) te (tC (.str t)))
    fun env k R => f env k fun d k1 => ∃ a, d = .str a ∧ a.length ≤ 1000000 ∧ (∀ y, y ∈ Txt.split a t → y.length ≤ 16777216) ∧ R (.list ((Txt.split a t).map PyData.str)) k1 := fun F M σ H env k R Q D hf q =>
  h F M σ H env k _ _ D hf fun v H' d k' p ⟨a, e, hl, hy, r⟩ => by
    subst e
    obtain ⟨dv, gr, fu⟩ := p
    have ev := str_of dv
    subst ev
    have sz : a.length + 2 ≤ sizeLine := by
      rw [sizeLine_eq]
      omega
    refine ⟨⟨a, rfl⟩, a, t, rfl, rfl, ht, sz, fun p hp => ?_⟩
    have s : Same H' (upd H' p (.lst ((Txt.split a t).map V.str))) := same_upd hp
    exact q p _ _ k' (D.fresh gr fu hp) (own_lst upd_same (strs_dv hy)) rfl (gr.trans (Gr.of_same s)) (fun a e => (fu a e).same s) r
/-- x.partition(t) -/
theorem ab_part {t : Str} (ht : (t.length == 0) = false) (h : Abs K kt te f) : Abs K kt (tM1 (fun x xs H Q => ∃ a b, x = .str a ∧ xs = [.str b] ∧ (b.length == 0) = false ∧ a.length ≤ sizeLine ∧ ∀ p, H p = none → Q (.ref p) (upd H p (.tup [.str (Txt.partition a b).1, .str (Txt.partition a b).2.1, .str (Txt.partition a b).2.2]))) te (tC (.str t)))
    fun env k R => f env k fun d k1 => ∃ a, d = .str a ∧ a.length ≤ 1000000 ∧ ((Txt.partition a t).1.length ≤ 16777216 ∧ (Txt.partition a t).2.1.length ≤ 16777216 ∧ (Txt.partition a t).2.2.length ≤ 16777216) ∧ R (.tuple [.str (Txt.partition a t).1, .str (Txt.partition a t).2.1, .str (Txt.partition a t).2.2]) k1 := fun F M σ H env k R Q D hf q =>
  h F M σ H env k _ _ D hf fun v H' d k' p ⟨a, e, hl, ⟨y1, y2, y3⟩, r⟩ => by
    subst e
    obtain ⟨dv, gr, fu⟩ := p
    have ev := str_of dv
    subst ev
    have sz : a.length ≤ sizeLine := by
      rw [sizeLine_eq]
      omega
    refine ⟨⟨a, rfl⟩, a, t, rfl, rfl, ht, sz, fun p hp => ?_⟩
    have D1 := D.grow gr fu
    exact q _ _ _ k' ⟨.tup (D1.new hp) upd_same (.cons (.str _ y1) (.cons (.str _ y2) (.cons (.str _ y3) .nil))), gr.trans (Gr.of_same (same_upd hp)), fun a e => (fu a e).same (same_upd hp)⟩ r
/-- int of a text -/
def intSF : List PyData → Option PyData
  | [.str a] => if a.length ≤ 640 then (PySem.intText? a).map PyData.int else none
  | _ => none
theorem ca_intS : CallA (fun xs H Q => ∃ a n, xs = [.str a] ∧ PySem.intText? a = some n ∧ a.length ≤ 640 ∧ Q (.int n) H) K intSF := fun M H vs ds c Q tr hv h q => by
  unfold intSF at h
  split at h
  · rename_i a
    by_cases hl : a.length ≤ 640
    · rw [if_pos hl] at h
      obtain ⟨n, e, rfl⟩ := Option.map_eq_some_iff.mp h
      obtain ⟨v, rfl, dv⟩ := one_dv hv
      have ev := str_of dv
      subst ev
      exact ⟨a, n, rfl, e, hl, q _ H (.int _) (Same.refl H)⟩
    · rw [if_neg hl] at h
      cases h
  · cases h
/-- f"{x}" -/
def fmtF : PyData → Option Str
  | .str y => some y
  | .int i => if i.natAbs.log2 < 1920 then some (toString i) else none
  | _ => none
theorem ab_fmt (h : Abs K kt te f) : Abs K kt (tFmt te) fun env k R => f env k fun d k1 => ∃ y, fmtF d = some y ∧ y.length ≤ 16777216 ∧ R (.str y) k1 := fun F M σ H env k R Q D hf q =>
  h F M σ H env k _ _ D hf fun v H' d k' p ⟨y, e, hl, r⟩ => by
    obtain ⟨dv, gr, fu⟩ := p
    have sz : y.length ≤ sizeLine := by
      rw [sizeLine_eq]
      exact hl
    unfold fmtF at e
    split at e
    · cases e
      have ev := str_of dv
      subst ev
      exact .inl ⟨y, rfl, sz, q _ H' _ k' ⟨.str _ hl, gr, fu⟩ r⟩
    · split at e
      · rename_i h1
        cases e
        have ev := int_of dv
        subst ev
        exact .inr ⟨_, rfl, h1, q _ H' _ k' ⟨.str _ hl, gr, fu⟩ r⟩
      · cases e
    · cases e
/-- the parts of an f-text, joined -/
abbrev DTJ := Str → List Sl → Nat → (Str → Nat → Prop) → Prop
def AbsJ (K : PySem.W.Frag) (kt : Str) (ts : List TE) (f : DTJ) : Prop := ∀ (acc : Str) (F : Fr) (M : Mu) (σ : L2.St) (H : Hp) (env : List Sl) (k : Nat) (R : Str → Nat → Prop) (Q : Str → Hp → Prop),
  Dat K kt F M σ H env k → acc.length ≤ 16777216 → f acc env k R → (∀ y H' k', y.length ≤ 16777216 → Gr F.pen H H' → (∀ a, F.pen = some a → Fuel kt H' a k') → R y k' → Q y H') → tJs ts acc σ H Q
theorem aj_nil : AbsJ K kt [] fun acc _ k R => R acc k := fun acc F M σ H env k R Q D hl h q => q acc H k hl Gr.refl D.fu h
theorem aj_cons {ts : List TE} {fj : DTJ} (h : Abs K kt te f) (hj : AbsJ K kt ts fj) : AbsJ K kt (te :: ts) fun acc env k R => f env k fun d k1 => ∃ y, d = .str y ∧ (acc ++ y).length ≤ 16777216 ∧ fj (acc ++ y) env k1 R := fun acc F M σ H env k R Q D hl hf q =>
  h F M σ H env k _ _ D hf fun v H1 d k1 p ⟨y, e, hy, r⟩ => by
    subst e
    have ev := str_of p.dv
    subst ev
    have sz : (acc ++ y).length ≤ sizeLine := by
      rw [sizeLine_eq]
      exact hy
    exact ⟨y, rfl, sz, hj _ F M σ H1 env k1 R Q (D.grow p.gr p.fu) hy r fun z H2 k2 hz g2 f2 r2 => q z H2 k2 hz (p.gr.trans g2) f2 r2⟩
theorem ab_joined {ts : List TE} {fj : DTJ} (hj : AbsJ K kt ts fj) : Abs K kt (fun σ H Q => tJs ts Str.empty σ H fun out H1 => Q (.str out) H1) fun env k R => fj Str.empty env k fun y k1 => R (.str y) k1 := fun F M σ H env k R Q D h q =>
  hj Str.empty F M σ H env k _ _ D (Nat.zero_le _) h fun y H' k' hy gr fu r => q _ H' _ k' ⟨.str _ hy, gr, fu⟩ r
/-- d[k] of a dict of the written part -/
theorem ab_kdict {p : Addr} {w : Str → Option Str} (hw : ∀ z y, w z = some y → KDct K PW.world p z (.str y) ∧ y.length ≤ 16777216) (h : Abs K kt te f) : Abs K kt (tOp (rIxD K PW.world) (tC (.ref p)) te) fun env k R => f env k fun d k1 => ∃ z y, d = .str z ∧ w z = some y ∧ R (.str y) k1 := fun F M σ H env k R Q D hf q =>
  h F M σ H env k _ _ D hf fun v H' d k' pp ⟨z, y, e, hz, r⟩ => by
    subst e
    have ev := str_of pp.dv
    subst ev
    obtain ⟨h1, h2⟩ := hw z y hz
    exact ⟨p, z, _, rfl, rfl, h1, q _ H' _ k' ⟨.str _ h2, pp.gr, pp.fu⟩ r⟩
/-- if pen["cells"] != []: cell = abs(pen["cells"][at modulo len(pen["cells"])]) -/
theorem as_cellsA (i j c : Nat) : AbsS xw K kt (tIfS (tTest (tOp (rNeP K) (tDGet (tVar i) (tC (.str "cells"))) (tLst tNil)))
    (tAsg (tCB (fun xs H Q => ∃ i, xs = [.int i] ∧ Q (.int (if i < 0 then -i else i)) H) (tCons (tOp (rIx K) (tDGet (tVar i) (tC (.str "cells"))) (tOp (rI (fun _ j => 0 < j) fun i j => .int (i % j)) (tVar j) (tCB (fun xs H Q => ∃ x n, xs = [x] ∧ LenV K x H n ∧ Q (.int n) H) (tCons (tDGet (tVar i) (tC (.str "cells"))) tNil)))) tNil)) (gName c)) tNext)
    fun B env k => env[i]? = some Sl.pen ∧ (∃ t : Int, env[j]? = some (.dat (.int t)) ∧ 0 ≤ t) ∧ B.nx env k ∧ ∀ x : Int, 0 ≤ x → B.nx (env.set c (.dat (.int x))) k := fun F M σ H env k B D h ⟨hi, ⟨t0, hj, ht0⟩, g1, g2⟩ e => by
  obtain ⟨a, ea, hσ⟩ := h.pi i hi
  obtain ⟨n, ⟨ns, t, r, h1, h2, h3, h4, h5, h6⟩, hn⟩ := h.fu a ea
  refine ⟨_, hσ, a.1, .ref a.2, rfl, pen_c h1, Nat.zero_le _, fun p hp => ?_⟩
  have s : Same H (upd H p (.lst [])) := same_upd hp
  have D1 := h.same s
  have h1' := s _ _ h1
  have h2' := s _ _ h2
  have e2 : (upd H p (.lst [])) p = some (.lst []) := upd_same
  refine ⟨.list (ns.map PyData.int), .list [], .lst (SqL.of h2') (dp_ints ns), .lst (SqL.of e2) .nil, ?_, _, rfl, ?_⟩
  · have q := plain_ints ns
    simp [shal, PyData.plain, PyData.plainAll, PyData.depth, PyData.depthAll, q.1, q.2]
  · by_cases z : ns = []
    · subst z
      rw [show (!PyData.eqv (.list ([].map PyData.int)) (.list [])) = false by rfl]
      exact e.nx M σ _ env k D1 g1
    · have eb : (!PyData.eqv (.list (ns.map PyData.int)) (.list [])) = true := by
        cases ns with
        | nil => exact absurd rfl z
        | cons x r => rfl
      rw [eb]
      have hlen : 0 < ns.length := List.length_pos_iff.mpr z
      have hix : (t0 % (ns.length : Int)).toNat < ns.length := by
        have := Int.emod_lt_of_pos t0 (show (0 : Int) < ns.length by omega)
        have := Int.emod_nonneg t0 (show (ns.length : Int) ≠ 0 by omega)
        omega
      have hget : (ns.map V.int)[(t0 % (ns.length : Int)).toNat]? = some (.int (ns[(t0 % (ns.length : Int)).toNat])) := by
        rw [List.getElem?_map, List.getElem?_eq_getElem hix]
        rfl
      obtain ⟨v, hv, dv⟩ := h.sl j _ hj
      have ev := int_of dv
      subst ev
      have hpos : (0 : Int) < ns.length := by omega
      refine ⟨_, hσ, a.1, .ref a.2, rfl, pen_c h1', .int t0, hv, _, hσ, a.1, .ref a.2, rfl, pen_c h1', .ref a.2, ns.length, rfl, .inl ⟨_, SqL.of h2', by rw [List.length_map]⟩, t0, ns.length, rfl, rfl, hpos, .inl ⟨a.2, _, _, .int (ns[(t0 % (ns.length : Int)).toNat]), rfl, rfl, SqL.of h2', ?_, ?_⟩⟩
      · show (ixN _ _).bind (fun j => _) = _
        refine Option.bind_eq_some_iff.mpr ⟨(t0 % (ns.length : Int)).toNat, ?_, hget⟩
        have q0 := Int.emod_nonneg t0 (show (ns.length : Int) ≠ 0 by omega)
        have q1 := Int.emod_lt_of_pos t0 hpos
        unfold ixN
        rw [List.length_map, if_pos q0, if_pos q1]
      · generalize ns[(t0 % (ns.length : Int)).toNat] = w
        exact ⟨w, rfl, e.nx M _ _ _ k (D1.set c (.int _)) (g2 _ (by split <;> omega))⟩
end
end SM

set_option Elab.async false
set_option linter.all false
set_option maxRecDepth 100000
set_option maxHeartbeats 4000000
namespace SM
open PySem PySem.Spec PyProof.Rows L2
section
variable [PW] {K : PySem.W.Frag} {kt : Str}
/-- // by a divisor of up to sixty digits -/
def lineD : Int := 10 ^ 60
def divWF := fIC (fun _ j => decide (0 < j) && decide (j ≤ lineD)) fun i j => .int (i / j)
theorem oa_divW : OpA K (rI CDivW fun i j => .int (i / j)) divWF := oa_IC fun i j h => by
  simp only [Bool.and_eq_true, decide_eq_true_eq] at h
  have e : lineD.natAbs < 2 ^ 200 := by decide +kernel
  have h1 := h.1
  have h2 := h.2
  exact wide_div h1 (b := 200) (Nat.lt_of_le_of_lt (by omega) e) (by decide) (by decide)
/-- x = [.. for .. in d]: d, a dict with tuple keys, is locked on the way -/
theorem as_setLcN {xw : XK} {te : TE} {f : DT} (i j : Nat) (h : AbsF K kt te f) : AbsS xw K kt (tLock (tAsg te (gName j))) fun B env k => ∃ ds, env[i]? = some (Sl.own (.tuple [.dict ds])) ∧ f (env.set i (.tab ds)) k fun d k1 => B.nx (env.set j (.dat d)) k1 := fun F M σ H env k B D h1 g e =>
  as_set (xw := xw) j (af_lockN i h).ab F M σ H env k B D h1 g e
end
end SM

set_option Elab.async false
set_option linter.all false
set_option maxRecDepth 100000
set_option maxHeartbeats 4000000
namespace SM
open PySem PySem.Spec PyProof.Rows L2
section
variable [PW]
/-! comprehensions with two sources -/
def compD2 (fg : DTG) (ft : DTT) (fi1 : DTA) (fg1 : DTG) (ft1 : DTT) (fe : DT) (vs1 : List Nat) (env0 : List Sl) : List PyData → List PyData → Nat → (PyData → Nat → Prop) → Prop
  | [], acc, k, R => R (.list acc) k
  | d :: r, acc, k, R => fg d env0 k fun env2 k2 => ft env2 k2 fun b k3 => (b = true → fi1 env2 k3 fun ds1 k4 => acc.length + ds1.length ≤ 100000 ∧ compD fg1 ft1 fe (wipeE env2 vs1) ds1 acc k4 fun e k5 => ∃ acc', e = .list acc' ∧ acc'.length ≤ 100000 ∧ compD2 fg ft fi1 fg1 ft1 fe vs1 env0 r acc' k5 R) ∧
      (b = false → compD2 fg ft fi1 fg1 ft1 fe vs1 env0 r acc k3 R)
theorem comp2_pure {fg : DTG} {ft : DTT} {fi1 : DTA} {fg1 : DTG} {ft1 : DTT} {fe : DT} {vs1 : List Nat} {env0 : List Sl} (items : PyData → List PyData) : ∀ {ds acc : List PyData} {k : Nat} {R : PyData → Nat → Prop},
    (∀ d, d ∈ ds → ∀ (acc : List PyData) (k : Nat) (S : PyData → Nat → Prop) (N : Nat → Prop), acc.length + (items d).length ≤ 100000 → S (.list (acc ++ items d)) k →
      fg d env0 k fun env2 k2 => ft env2 k2 fun b k3 => (b = true → fi1 env2 k3 fun ds1 k4 => acc.length + ds1.length ≤ 100000 ∧ compD fg1 ft1 fe (wipeE env2 vs1) ds1 acc k4 S) ∧ (b = false → N k3)) →
    acc.length + (ds.map items).flatten.length ≤ 100000 → R (.list (acc ++ (ds.map items).flatten)) k → compD2 fg ft fi1 fg1 ft1 fe vs1 env0 ds acc k R
  | [], acc, k, R, _, _, r => by
    rw [List.map_nil, List.flatten_nil, List.append_nil] at r
    exact r
  | d :: ds, acc, k, R, h, hl, r => by
    rw [List.map_cons, List.flatten_cons] at r hl
    rw [List.length_append] at hl
    have e : (acc ++ items d).length = acc.length + (items d).length := List.length_append
    refine h d List.mem_cons_self acc k _ _ (by omega) ⟨acc ++ items d, rfl, by omega, ?_⟩
    refine comp2_pure items (fun x hx => h x (List.mem_cons_of_mem _ hx)) (by omega) ?_
    rw [List.append_assoc]
    exact r
variable {K : PySem.W.Frag} {kt : Str}
theorem af_lc2 {wi wi1 : TI} {fi fi1 : DTA} {g g1 : TG} {fg fg1 : DTG} {tt tt1 : TT} {ft ft1 : DTT} {te : TE} {fe : DT} {vs vs1 : List Nat} (hi : AbsI K kt wi fi) (hg : AbsG K kt vs g fg) (ht : AbsT K kt tt ft) (hi1 : AbsI K kt wi1 fi1) (hg1 : AbsG K kt vs1 g1 fg1) (ht1 : AbsT K kt tt1 ft1) (he : Abs K kt te fe) :
    AbsF K kt (tLc2 wi g tt wi1 g1 tt1 te vs vs1) fun env k R => fi env k fun ds k1 => ds.length ≤ 100000 ∧ compD2 fg ft fi1 fg1 ft1 fe vs1 (wipeE env vs) ds [] k1 R := fun F M σ H env k R Q D h q => by
  refine hi F M σ H env k _ _ D h fun J H1 ds k1 src gr fu ⟨hz, r⟩ => ?_
  intro L hL
  have D1 := D.grow gr fu
  have hLM : L ∉ M := D1.new hL
  have hn : ∀ a, F.pen = some a → a.1 ≠ L ∧ a.2 ≠ L := fun a e => ⟨fun z => hLM (by rw [← z]; exact D1.sub _ (D1.pn a e).1), fun z => hLM (by rw [← z]; exact D1.sub _ (D1.pn a e).2.1)⟩
  obtain ⟨n, G, Y, wk, hlen, hGY⟩ := src.ex
  obtain ⟨hG, hY⟩ := hGY (L :: M) (L :: M) (Ext.cons hL) (Ext.cons hL)
  have ou : ∀ {H' : Hp}, Gr F.pen H1 H' → Out (L :: M) H1 H' := fun g b o nb e => D1.out g b o (fun z => nb (List.mem_cons_of_mem _ z)) e
  have s0 : Same H1 (upd H1 L (.lst [])) := fun b o e => by rw [upd_ne (ne_of_none e hL)]; exact e
  let F' : Fr := ⟨L :: F.M0, L :: M, L :: M, fun _ => none, F.pen, fun q hq => ⟨List.mem_cons_of_mem _ (F.tm q hq).1, List.mem_cons_of_mem _ (D1.sub _ (F.tm q hq).1)⟩⟩
  have Lp : ∀ {Ha Hb : Hp}, Gr F.pen Ha Hb → ∀ {o : HO}, Ha L = some o → Hb L = some o := fun g o e => g.st L _ (fun z => by
    obtain ⟨qq, e1, e2⟩ := Option.map_eq_some_iff.mp z.symm
    exact (hn qq e1).1 e2) (fun z => hLM (D1.sub _ (F.tm _ z).1)) e
  let Pv : Nat → Hp → Prop := fun i H' => ∃ k' xs acc, Dat K kt F' (L :: M) (L2.wipe σ vs) H' (wipeE env vs) k' ∧ Gr F.pen H1 H' ∧ H' L = some (.lst xs) ∧ DVs K H' (L :: M) xs acc ∧ acc.length ≤ 100000 ∧ compD2 fg ft fi1 fg1 ft1 fe vs1 (wipeE env vs) (ds.drop i) acc k' R
  refine ⟨fun i m H => m = n - i ∧ i ≤ n ∧ Pv i H, ⟨n, by simp, Nat.zero_le _, k1, [], [], (D1.wipe vs).more hL, Gr.of_same s0, upd_same, .nil, Nat.zero_le _, r⟩, ?_⟩
  rintro i m H' ⟨rfl, hin, k', xs, acc, D', g', eL, da, hacc, r'⟩
  have gH := hG H' (ou g')
  by_cases hlt0 : i < n
  · refine .inr ⟨wk.goes i H' hlt0 gH, Pv (i + 1), fun H'' p' => ⟨n - (i + 1), by omega, rfl, hlt0, p'⟩, fun x H2 y0 => ?_⟩
    have y := wk.yields i H' x H2 hlt0 gH y0
    obtain ⟨d, hd, dv, s⟩ := hY i H' x H2 hlt0 (ou g') D'.tr y
    have hlt : i < ds.length := by omega
    have ed : ds.drop i = d :: ds.drop (i + 1) := by
      rw [List.drop_eq_getElem_cons hlt]
      congr 1
      rw [List.getElem?_eq_getElem hlt] at hd
      exact Option.some.inj hd
    rw [ed] at r'
    have D2 := D'.same s
    refine hg F' (L :: M) x d _ H2 _ k' _ _ D2 dv r' fun σ3 H3 env3 k3 D3 s3 w3 r3 => ⟨?_, ?_⟩
    · rw [w3]
      exact wipe_wipe σ vs
    · refine ht F' (L :: M) σ3 H3 env3 k3 _ _ D3 r3 fun b H4 k4 g4 f4 ⟨q1, q2⟩ => ?_
      have D4 := D3.grow g4 f4
      have g14 : Gr F.pen H1 H4 := ((g'.trans (Gr.of_same s)).trans (Gr.of_same s3)).trans g4
      have gp : Gr F.pen H' H4 := ((Gr.of_same s).trans (Gr.of_same s3)).trans g4
      have Do4 := D'.grow gp f4
      cases b with
      | false =>
        show Pv (i + 1) H4
        exact ⟨k4, xs, acc, Do4, g14, Lp gp eL, DVs.out (D'.out gp) _ da, hacc, q2 rfl⟩
      | true =>
        show wi1 σ3 H4 _
        refine hi1 F' (L :: M) σ3 H4 env3 k4 _ _ D4 (q1 rfl) fun J1 H5 ds1 k5 src1 gr5 fu5 ⟨hz1, r5⟩ => ?_
        obtain ⟨n1, G1, Y1, wk1, hlen1, hGY1⟩ := src1.ex
        obtain ⟨hG1, hY1⟩ := hGY1 (L :: M) (L :: M) Ext.refl Ext.refl
        have D5 := D4.grow gr5 fu5
        have Do5 := Do4.grow gr5 fu5
        let P1 : Nat → Hp → Prop := fun j Hj => ∃ kj xs acc1, Dat K kt F' (L :: M) (L2.wipe σ vs) Hj (wipeE env vs) kj ∧ Dat K kt F' (L :: M) (L2.wipe σ3 vs1) Hj (wipeE env3 vs1) kj ∧ Gr F.pen H1 Hj ∧ Out (L :: M) H5 Hj ∧ Hj L = some (.lst xs) ∧ DVs K Hj (L :: M) xs acc1 ∧ acc1.length ≤ acc.length + j ∧
          compD fg1 ft1 fe (wipeE env3 vs1) (ds1.drop j) acc1 kj fun e k6 => ∃ acc', e = .list acc' ∧ acc'.length ≤ 100000 ∧ compD2 fg ft fi1 fg1 ft1 fe vs1 (wipeE env vs) (ds.drop (i + 1)) acc' k6 R
        refine ⟨fun j m Hj => m = n1 - j ∧ j ≤ n1 ∧ P1 j Hj, ⟨n1, by simp, Nat.zero_le _, k5, xs, acc, Do5, D5.wipe vs1, g14.trans gr5, Out.refl, Lp (gp.trans gr5) eL, DVs.out (D'.out (gp.trans gr5)) _ da, Nat.le_refl _, r5⟩, ?_⟩
        rintro j m Hj ⟨rfl, hjn, kj, xsj, accj, Doj, Dij, gj, oj, eLj, daj, hlj, rj⟩
        have gHj := hG1 Hj oj
        by_cases hlt1 : j < n1
        · refine .inr ⟨wk1.goes j Hj hlt1 gHj, P1 (j + 1), fun H'' p' => ⟨n1 - (j + 1), by omega, rfl, hlt1, p'⟩, fun x1 H6 y1 => ?_⟩
          obtain ⟨d1, hd1, dv1, s6⟩ := hY1 j Hj x1 H6 hlt1 oj Dij.tr (wk1.yields j Hj x1 H6 hlt1 gHj y1)
          have hlt2 : j < ds1.length := by omega
          have ed1 : ds1.drop j = d1 :: ds1.drop (j + 1) := by
            rw [List.drop_eq_getElem_cons hlt2]
            congr 1
            rw [List.getElem?_eq_getElem hlt2] at hd1
            exact Option.some.inj hd1
          rw [ed1] at rj
          refine hg1 F' (L :: M) x1 d1 _ H6 _ kj _ _ (Dij.same s6) dv1 rj fun σ7 H7 env7 k7 D7 s7 w7 r7 => ⟨?_, ?_⟩
          · rw [w7]
            exact wipe_wipe σ3 vs1
          · refine ht1 F' (L :: M) σ7 H7 env7 k7 _ _ D7 r7 fun b1 H8 k8 g8 f8 ⟨p1, p2⟩ => ?_
            have D8 := D7.grow g8 f8
            have gj8 : Gr F.pen Hj H8 := ((Gr.of_same s6).trans (Gr.of_same s7)).trans g8
            have oj8 : Out (L :: M) Hj H8 := Dij.out gj8
            cases b1 with
            | false =>
              show P1 (j + 1) H8
              exact ⟨k8, xsj, accj, Doj.grow gj8 f8, Dij.grow gj8 f8, gj.trans gj8, oj.trans oj8, Lp gj8 eLj, DVs.out oj8 _ daj, Nat.le_succ_of_le hlj, p2 rfl⟩
            | true =>
              show te σ7 H8 _
              refine he F' (L :: M) σ7 H8 env7 k8 _ _ D8 (p1 rfl) fun v H9 c k9 p9 r9 => ?_
              have gj9 : Gr F.pen Hj H9 := gj8.trans p9.gr
              have oj9 : Out (L :: M) Hj H9 := Dij.out gj9
              have Do9 := Doj.grow gj9 p9.fu
              have Di9 := Dij.grow gj9 p9.fu
              have u : Out (L :: M) H9 (upd H9 L (.lst (xsj ++ [v]))) := fun bb o nb e => by rw [upd_ne (fun z => nb (by rw [z]; exact List.mem_cons_self))]; exact e
              refine ⟨xsj, Lp gj9 eLj, ?_, k9, xsj ++ [v], accj ++ [c], Do9.mut List.mem_cons_self rfl hn (Lp gj9 eLj) plain_lst, Di9.mut List.mem_cons_self rfl hn (Lp gj9 eLj) plain_lst, ?_, (oj.trans oj9).trans u, upd_same, ?_, ?_, r9⟩
              · rw [daj.length]
                exact Nat.lt_of_le_of_lt (show accj.length ≤ 200000 by omega) (by decide : 200000 < sizeLine)
              · exact ⟨fun bb o nb nt e => by
                  rw [upd_ne (ne_of_none e hL)]
                  exact (gj.trans gj9).st bb o nb nt e, fun t => Tabs.upd (Lp gj9 eLj) plain_lst ((gj.trans gj9).lv t)⟩
              · exact DVs.out u _ ((DVs.out oj9 _ daj).append (.cons p9.dv .nil))
              · rw [List.length_append]
                exact Nat.succ_le_succ hlj
        · have e : j = n1 := by omega
          subst e
          rw [List.drop_eq_nil_of_le (by omega)] at rj
          obtain ⟨acc', e1, hl', rr⟩ := rj
          cases e1
          exact .inl ⟨wk1.stops Hj gHj, kj, xsj, accj, Doj, gj, eLj, daj, hl', rr⟩
  · have e : i = n := by omega
    subst e
    rw [List.drop_eq_nil_of_le (by omega)] at r'
    exact .inl ⟨wk.stops H' gH, q L H' (.list acc) k' (D.fresh gr fu hL) (own_lst eL da) rfl (gr.trans g') D'.fu r'⟩
end
end SM

set_option Elab.async false
set_option linter.all false
set_option maxRecDepth 100000
set_option maxHeartbeats 4000000
namespace SM
open PySem PySem.Spec PyProof.Rows L2
section
variable [PW] {K : PySem.W.Frag} {kt : Str} {te : TE} {f : DT}
/-! what stands as a test -/
def truD : PyData → Option Bool
  | .bool b => some b
  | .str y => some ((y.length : Int) != 0)
  | .list ds => some (!ds.isEmpty)
  | .tuple ds => some (!ds.isEmpty)
  | _ => none
theorem dvs_empty {H : Hp} {M : Mu} {xs : List V} {ds : List PyData} (h : DVs K H M xs ds) : (!xs.isEmpty) = !ds.isEmpty := by
  cases h <;> rfl
theorem tru_of {M : Mu} {H : Hp} {v : V} {d : PyData} {b : Bool} (dv : DV K H M v d) (e : truD d = some b) : TruV K v H b := by
  unfold truD at e
  split at e
  · cases e
    have ev := bool_of dv
    subst ev
    rfl
  · cases e
    cases dv with
    | str y hl => exact ⟨by rw [sizeLine_eq]; exact hl, rfl⟩
  · cases e
    cases dv with
    | lst n ea a => exact .inl ⟨_, SqL.of ea, (dvs_empty a).symm⟩
  · cases e
    cases dv with
    | tup n ea a => exact .inr (.inl ⟨_, SqT.of ea, (dvs_empty a).symm⟩)
  · cases e
theorem at_tru (h : Abs K kt te f) : AbsT K kt (fun σ H Q => te σ H fun x H' => ∃ k, TruV K x H' k ∧ Q k H') fun env k R => f env k fun d k1 => ∃ b, truD d = some b ∧ R b k1 := fun F M σ H env k R Q D hf q =>
  h F M σ H env k _ _ D hf fun v1 H1 d k1 p1 ⟨b, e, h1⟩ => ⟨b, tru_of p1.dv e, q b H1 k1 p1.gr p1.fu h1⟩
/-- not x, of a text, list or tuple -/
theorem ab_notT (h : Abs K kt te f) : Abs K kt (tNotT K te) fun env k R => f env k fun d k1 => ∃ b, truD d = some b ∧ R (.bool (!b)) k1 := fun F M σ H env k R Q D hf q =>
  h F M σ H env k _ _ D hf fun v1 H1 d k1 p1 ⟨b, e, h1⟩ => ⟨b, tru_of p1.dv e, q _ H1 _ k1 ⟨.bl _, p1.gr, p1.fu⟩ h1⟩
/-- a, b, .. = a list of that length -/
theorem ag_unl {ws : List Nat} {tgs : TGs} {fgs : DTGs} {n : Nat} (h : AbsGs K kt ws tgs fgs) : AbsG K kt ws (gUnl K n tgs) fun d env k R => match d with
    | .list ds => ds.length = n ∧ fgs ds env k R
    | _ => False := fun F M v d σ H env k R Q D dv hf q => by
  cases dv <;> first | (exact hf.elim) | skip
  rename_i nm ea a
  obtain ⟨hn, hf⟩ := hf
  exact ⟨_, _, rfl, SqL.of ea, by rw [a.length, hn], h F M _ _ σ H env k R Q D a hf q⟩
end
end SM

set_option Elab.async false
set_option linter.all false
set_option maxRecDepth 100000
set_option maxHeartbeats 4000000
namespace SM
open PySem PySem.Spec PyProof.Rows L2
section
variable [PW] {K : PySem.W.Frag} {kt : Str} {te : TE} {f : DT}
/-! type(x) is T -/
theorem tyB_of {M : Mu} {H : Hp} {v : V} : ∀ {d : PyData}, DV K H M v d → TyB K H v (tyN d)
  | _, .non => .non
  | _, .bl b => .bl b
  | _, .int i => .int i
  | _, .str x _ => .str x
  | _, .lst _ e _ => .lst (SqL.of e)
  | _, .tup _ e _ => .tup (SqT.of e)
  | _, .dct _ e _ => .dK e
def isInt0 : PyData → Bool
  | .int _ => true
  | _ => false
theorem ty_int : ∀ d : PyData, decide (tyN d = "int") = isInt0 d
  | .none => by show decide ("NoneType" = "int") = false; decide
  | .bool _ => by show decide ("bool" = "int") = false; decide
  | .int _ => by show decide ("int" = "int") = true; decide
  | .str _ => by show decide ("str" = "int") = false; decide
  | .list _ => by show decide ("list" = "int") = false; decide
  | .tuple _ => by show decide ("tuple" = "int") = false; decide
  | .dict _ => by show decide ("dict" = "int") = false; decide
theorem ab_tyIs {T : String} {p : PyData → Bool} (hp : ∀ d, decide (tyN d = T) = p d) (ha : Abs K kt te f) : Abs K kt (tOp (fun x y H Q => ∃ a b, x = .ty a ∧ y = .ty b ∧ Q (.bl (decide (a = b))) H) (tCB (rTyp K) (tCons te tNil)) (tC (.ty T))) fun env k R => f env k fun d k1 => R (.bool (p d)) k1 := fun F M σ H env k R Q D h q =>
  ha F M σ H env k _ _ D h fun v1 H1 d k1 p1 h1 => ⟨v1, _, rfl, tyB_of p1.dv, _, _, rfl, rfl, by rw [hp d]; exact q _ H1 _ k1 ⟨.bl _, p1.gr, p1.fu⟩ h1⟩
theorem ab_tyNot {T : String} {p : PyData → Bool} (hp : ∀ d, decide (tyN d = T) = p d) (ha : Abs K kt te f) : Abs K kt (tOp rNT (tCB (rTyp K) (tCons te tNil)) (tC (.ty T))) fun env k R => f env k fun d k1 => R (.bool (!p d)) k1 := fun F M σ H env k R Q D h q =>
  ha F M σ H env k _ _ D h fun v1 H1 d k1 p1 h1 => ⟨v1, _, rfl, tyB_of p1.dv, _, _, rfl, rfl, by rw [hp d]; exact q _ H1 _ k1 ⟨.bl _, p1.gr, p1.fu⟩ h1⟩
end
end SM

set_option Elab.async false
set_option linter.all false
set_option maxRecDepth 100000
set_option maxHeartbeats 4000000
namespace SM
open PySem PySem.Spec PyProof.Rows L2
/-! ### an error class whose __init__ stores its one argument -/
/-- __init__(self, v): self.f = v, for an error of the class at C -/
def spSet (C : Addr) (f : Str) : Sp := fun vs H Q _ => ∃ (a : Addr) (v : V), vs = [.ref a, v] ∧ H a = some (exo a C none) ∧ ∀ d, H d = none → d ≠ a → Q .non (upd (upd H d (exd d [(f, v)])) a (exo a C (some d)))
/-- what the written part says of such a class, its __init__ at fI -/
structure ErrI (K : PySem.W.Frag) (mg : Str → Option Value) (x : Str) (C fI : Addr) (f : Str) : Prop where
  g : mg x = some (.ref C)
  o : OexC K C
  i : PySem.W.findIn K (.ref C) "__init__" = some (some (.ref fI))
  t : PySem.W.typeIn K (.ref fI) = some (.type "function")
  n : PySem.W.findIn K (.ref C) f = some none
  xf : XfC K C
theorem init_read {K : PySem.W.Frag} {c : Addr} {f : Str} (o : OexC K c) (n : PySem.W.findIn K (.ref c) f = some none) {vs : List V} {H : Hp} {Q : VK} {E : XK} (h : spSet c f vs H Q E) {N : List Str} (hN : N.length = 2) :
    tOst K f (tVar 0) (tVar 1) { nx := fun _ H' => Q .non H', rt := Q } (start N vs) H := by
  obtain ⟨a, v, rfl, ha, q⟩ := h
  match N, hN with
  | [_, _], _ => exact ⟨v, rfl, .ref a, rfl, a, c, rfl, o, n, .inl ⟨ha, fun dx h1 h2 => q dx h1 h2⟩⟩
/-- such a class with its __init__ proved, as raise wants it -/
structure RaisesI (P : Program) (w : World) (K : PySem.W.Frag) (mg : Str → Option Value) (base : Heap) (x : Str) (C : Addr) (f : Str) : Prop where
  ex : ∃ (fI : Addr) (fd : FuncData) (ps : List Str), ErrI K mg x C fI f ∧ FnOk P w K mg base CX0 1 fI fd ps (spSet C f) ∧ Binds K fd ps []
variable [PW]
section
variable {K : PySem.W.Frag} {mg : Str → Option Value} {base : Heap} {kt : Str} {te : TE} {fe : DT} {xw : XK}
/-- raise C(e) -/
theorem as_raise1 {C : Addr} {f : Str} (h : Abs K kt te fe) : AbsS xw K kt (fun _ σ H => tMkO C (spSet C f) [] (tCons te tNil) σ H fun cls d H' => xw cls d H') fun B env k => fe env k fun d k1 => B.xk ⟨C, some (f, d)⟩ k1 := fun F M σ H env k B D h1 g e =>
  h F M σ H env k _ _ h1 g fun v H1 d k1 p r => by
    have D1 := h1.grow p.gr p.fu
    refine ⟨(by decide : 1 ≤ 1000), fun a na => ⟨a, v, rfl, upd_same, fun q nq hqa => ?_⟩⟩
    rw [upd_ne hqa] at nq
    have ne : a ≠ q := fun z => hqa z.symm
    refine ⟨rfl, q, [(f, v)], upd_same, ?_, nq, ?_⟩
    · rw [upd_ne hqa, upd_same]
    have s : Same H1 (upd (del (upd (upd (upd H1 a (exo a C none)) q (exd q [(f, v)])) a (exo a C (some q))) a) q (.xd [(f, v)])) := fun b o eb => by
      have b1 : b ≠ a := ne_of_none eb na
      have b2 : b ≠ q := ne_of_none eb nq
      rw [upd_ne b2, del_ne b1, upd_ne b1, upd_ne b2, upd_ne b1]
      exact eb
    refine e.xk _ _ _ ⟨C, some (f, d)⟩ k1 ⟨rfl, q, v, rfl, upd_same, fun z => ?_, DV.out (Out.of_same s) d (DV.less D1.sub d p.dv)⟩ (D1.same s).gr (fun a ea => (D1.fu a ea).same s) r
    exact D1.tr q (D1.sub q z) nq
end
section
variable {P : Program} {w : World} {K : PySem.W.Frag} {mg : Str → Option Value} {base : Heap} {N : List Str} {qual : Str} {scope : Scope} {f : Addr} {cd : Value} {A : Around} {outer : List Env} {s : Shared} {H : Hp} {E : XK}
theorem ps_raise1 {C fI : Addr} {fd : FuncData} {ps : List Str} {x fl : Str} {e : Expr} {ta : TA} {p pos pos' : Pos} (T : ErrI K mg x C fI fl) (F1 : FnOk P w K mg base CX0 1 fI fd ps (spSet C fl)) (hb : Binds K fd ps []) (hr : Room 2 (cxOf (L2.CX P w) P w K mg base N qual scope f cd A outer s H E).A)
    (hg : Gl (cxOf (L2.CX P w) P w K mg base N qual scope f cd A outer s H E) x) (ha : PA (cxOf (L2.CX P w) P w K mg base N qual scope f cd A outer s H E) [e] ta) (hdb : (x == ("__debug__" : Str)) = false := by decide)
    (he : starEach [e] (cxOf (L2.CX P w) P w K mg base N qual scope f cd A outer s H E).env = (false, eval e (cxOf (L2.CX P w) P w K mg base N qual scope f cd A outer s H E).env) :: starEach [] (cxOf (L2.CX P w) P w K mg base N qual scope f cd A outer s H E).env := by rfl) (hpl : (backTo pos (starEach [] (cxOf (L2.CX P w) P w K mg base N qual scope f cd A outer s H E).env)).any (·.1) = false := by rfl) :
    PS (cxOf (L2.CX P w) P w K mg base N qual scope f cd A outer s H E) (.Raise (some (.Call (.Name x p) [e] [] pos)) none pos') (fun _ σ H => tMkO C (spSet C fl) [] ta σ H fun cls d H' => E cls d H') :=
  L2.ps_raise rfl takesX (pmk_oex T.o T.i T.t F1 hr hb .nil pass0 hg T.g ha hdb he hpl)
end
/-! ### a call of what a name holds -/
section
variable {X : Cx} {CX : CXT} {k i : Nat} {f : Addr} {fd : FuncData} {ps : List Str} {sp : Sp} {E : L2.St → XK} {x : Str} {p pos : Pos} {e : Expr} {es : List Expr} {t : TA}
def tCallLS (i : Nat) (f : Addr) (sp : Sp) (E : L2.St → XK) (t : TA) : TE := fun σ H Q => σ[i]? = some (some (.ref f)) ∧ tCallS sp E t σ H Q
/-- x(e, ..), x a name that holds a def; what is wished of an error depends on the slots -/
theorem pe_callLS (G : FnG X.prog X.w X.K X.mg X.base CX k f fd ps sp) (room : Room k X.A) (quiet : NoRepr X.A) (hN : X.N[i]? = some x) (hv : Vis X.env.scope x) (kept : PySem.W.keepIn X.K (.ref f) = true) (binds : Binds X.K fd ps []) (thru : ∀ σ, PassesAt CX X σ (E σ))
    (ha : PA X (e :: es) t) (h1 : (x == ("__debug__" : Str)) = false := by decide) (hcd : (x == ("__classdict__" : Str)) = false := by decide) (h2 : starEach (e :: es) X.env = (false, eval e X.env) :: starEach es X.env := by rfl) (h3 : (backTo pos (starEach es X.env)).any (·.1) = false := by rfl) :
    PE X (.Call (.Name x p) (e :: es) [] pos) (tCallLS i f sp E t) := by
  refine ⟨fun pins s σ H Q I want => ?_⟩
  obtain ⟨hs, ht⟩ := want
  refine wpAny_Call_Name_kw (thn ((pe_var (pos := p) hN hv h1 hcd).run pins s σ H (fun v H1 => v = .ref f ∧ H1 = H) I ⟨.ref f, hs, rfl, rfl⟩) fun u s1 ⟨v, H1, I1, r1, q1⟩ => ?_)
  obtain ⟨rfl, rfl⟩ := q1
  cases r1
  exact PySem.W.callWith_K (h₀ := X.base) I.ok.mod.kin kept (thn (ha.run pos pins s1 σ _ _ I1 ht) fun us s2 ⟨vs, H2, I2, rel, q⟩ => ⟨I2.kIn, run_gS G room quiet binds (thru σ) I2 rel q⟩) h2 h3
end
/-! ### s * n -/
def strRep (x : Str) (n : Nat) : Str := ⟨(List.replicate n x.cps).foldl (· ++ ·) #[]⟩
theorem strRep_len (x : Str) (n : Nat) : (strRep x n).length = n * x.length := by
  have go : ∀ (n : Nat) (a : Array Nat), ((List.replicate n x.cps).foldl (· ++ ·) a).size = a.size + n * x.cps.size := fun n => by
    induction n with
    | zero => intro a; simp
    | succ n ih =>
      intro a
      rw [List.replicate_succ, List.foldl_cons, ih, Array.size_append, Nat.succ_mul]
      omega
  show ((List.replicate n x.cps).foldl (· ++ ·) #[]).size = n * x.cps.size
  rw [go]
  simp
def rMulStr : R2 := fun x y H Q => ∃ i j, x = .str i ∧ y = .int j ∧ 2 ≤ j ∧ j ≤ 1000 ∧ i.length ≤ 1000 ∧ i.length ≠ 0 ∧ Q (.str (strRep i j.toNat)) H
theorem op_mul_str {X : Cx} : OpR X (binaryOp .Mult) rMulStr := by
  intro pins s σ H x y v u Q I rx ry h
  obtain ⟨i, j, rfl, rfl, h1, h2, h3, h4, q⟩ := h
  obtain ⟨t, rfl⟩ := rx
  obtain ⟨t', rfl⟩ := ry
  refine PySem.P.mul_str ?_ (fun _ _ => ?_) (fun _ _ => ?_) ?_
  · rw [decide_eq_false (by omega), decide_eq_false (by omega)] <;> rfl
  · have d : (9223372036854775 : Int) ≤ (2 ^ 63 - 1) / j := Int.le_ediv_of_mul_le (by omega) (by omega)
    omega
  · have z : i.length * j.toNat ≤ 1000 * 1000 := Nat.mul_le_mul h3 (by omega)
    have z2 : i.length * j.toNat ≤ sizeLine := Nat.le_trans z (by rw [sizeLine_eq]; decide)
    exact decide_eq_false (Nat.not_lt.mpr z2)
  · rw [if_neg (show ¬ j < 1 by omega)]
    have e : (j == 1 || i.length == 0) = false := by
      rw [Bool.or_eq_false_iff]
      exact ⟨beq_eq_false_iff_ne.mpr (by omega), beq_eq_false_iff_ne.mpr h4⟩
    rw [if_neg (by rw [e]; exact Bool.false_ne_true)]
    refine ⟨?_, .str (strRep i j.toNat), H, I.tok _, ⟨_, rfl⟩, q⟩
    have z : j.toNat * i.length ≤ 1000 * 1000 := Nat.mul_le_mul (by omega) h3
    have z2 : (strRep i j.toNat).length ≤ sizeLine := by
      rw [strRep_len, sizeLine_eq]
      omega
    exact z2
section
variable {K : PySem.W.Frag} {kt : Str}
def repSF : PyData → PyData → Option PyData
  | .str i, .int j => if (decide (2 ≤ j) && decide (j ≤ 1000) && decide (i.length ≤ 1000) && decide (i.length ≠ 0)) = true then some (.str (strRep i j.toNat)) else none
  | _, _ => none
theorem oa_repS : OpA K rMulStr repSF := fun M H x y d e c Q tr hx hy h q => by
  unfold repSF at h
  split at h
  · rename_i i j
    split at h
    · rename_i z
      cases h
      simp only [Bool.and_eq_true, decide_eq_true_eq] at z
      cases hx
      cases hy
      obtain ⟨⟨⟨z1, z2⟩, z3⟩, z4⟩ := z
      refine ⟨i, j, rfl, rfl, z1, z2, z3, z4, q _ H (.str _ ?_) (Same.refl H)⟩
      rw [strRep_len]
      have zz : j.toNat * i.length ≤ 1000 * 1000 := Nat.mul_le_mul (by omega) z3
      omega
    · cases h
  · cases h
end
end SM

set_option Elab.async false
set_option linter.all false
set_option maxRecDepth 100000
set_option maxHeartbeats 4000000
namespace SM
open PySem PySem.Spec PyProof.Rows L2
/-- nothing is raised there -/
theorem passNo {P : Program} {w : World} {X : Cx} (hP : X.prog = P) (hw : X.w = w) : Passes (L2.CX P w) X (fun _ _ _ => False) := by
  subst hP hw
  exact fun pins σ H s e s' I c => passAt (takesN (X := X)) σ pins H s e s' I c
variable [PW]
section
variable {K : PySem.W.Frag} {kt : Str} {ta : TA} {fa : DTP} {n : Nat} {S : SPX}
/-- a call of a def that may raise, where it does not -/
theorem ab_callX (ha : AbsP K kt ta fa) : Abs K kt (tCall (liftX K kt n S) [] (fun _ _ _ => False) ta) fun env k R => fa env k fun ps k1 => ps.length = n ∧ S ps k1 R (fun _ _ => False) := fun F M σ H env k R Q D h q =>
  ha F M σ H env k _ _ D h fun vs H1 ps k1 a1 g1 f1 ⟨hn, hs⟩ => by
    have D1 := D.grow g1 f1
    show liftX K kt n S (vs ++ []) H1 Q (fun _ _ _ => False)
    rw [List.append_nil]
    exact ⟨M, F.pen, ps, k1, R, (fun _ _ => False), D1.trr, a1, hn, fun a e => ⟨D1.sub _ (D1.pn a e).1, D1.sub _ (D1.pn a e).2.1, f1 a e⟩, hs, fun v H' d k' p r => q v H' d k' ⟨p.dv, g1.trans p.gr, p.fu⟩ r, fun cls dd H' x k' r gr fu b => b⟩
/-- what a def promises whose first argument is a def -/
def liftF (K : PySem.W.Frag) (kt : Str) (n : Nat) (S : Addr → SP) : Sp := fun vs H Q E => ∃ (f : Addr) (rest : List V), vs = .ref f :: rest ∧ liftS K kt n (S f) rest H Q E
theorem ab_callF {S : Addr → SP} {f : Addr} {E : XK} (ha : AbsP K kt ta fa) : Abs K kt (tCall (liftF K kt n S) [] E (tCons (tC (.ref f)) ta)) fun env k R => fa env k fun ps k1 => ps.length = n ∧ S f ps k1 R := fun F M σ H env k R Q D h q =>
  ha F M σ H env k _ _ D h fun vs H1 ps k1 a1 g1 f1 ⟨hn, hs⟩ => by
    have D1 := D.grow g1 f1
    show liftF K kt n S ((.ref f :: vs) ++ []) H1 Q E
    rw [List.append_nil]
    exact ⟨f, vs, rfl, M, F.pen, ps, k1, R, D1.trr, a1, hn, fun a e => ⟨D1.sub _ (D1.pn a e).1, D1.sub _ (D1.pn a e).2.1, f1 a e⟩, hs, fun v H' d k' p r => q v H' d k' ⟨p.dv, g1.trans p.gr, p.fu⟩ r⟩
end
end SM

set_option Elab.async false
set_option linter.all false
set_option maxRecDepth 100000
set_option maxHeartbeats 4000000
namespace SM
open PySem PySem.Spec PyProof.Rows L2
/-! ### data without truth values and dicts: == is equality -/
mutual
def noB : PyData → Bool
  | .none => true
  | .bool _ => false
  | .int _ => true
  | .str _ => true
  | .list xs => noBs xs
  | .tuple xs => noBs xs
  | .dict _ => false
def noBs : List PyData → Bool
  | [] => true
  | x :: r => noB x && noBs r
end
theorem noBs_iff : ∀ {xs : List PyData}, noBs xs = true ↔ ∀ x, x ∈ xs → noB x = true
  | [] => by simp [noBs]
  | x :: r => by simp [noBs, noBs_iff (xs := r)]
mutual
theorem noB_plain : ∀ d : PyData, noB d = true → d.plain = true
  | .none, _ => rfl
  | .bool _, h => nomatch h
  | .int _, _ => rfl
  | .str _, _ => rfl
  | .list xs, h => noBs_plain xs h
  | .tuple xs, h => noBs_plain xs h
  | .dict _, h => nomatch h
theorem noBs_plain : ∀ xs : List PyData, noBs xs = true → PyData.plainAll xs = true
  | [], _ => rfl
  | x :: r, h => by
    have h' : noB x = true ∧ noBs r = true := by simpa [noBs] using h
    rw [PyData.plainAll, noB_plain x h'.1, noBs_plain r h'.2]; rfl
end
mutual
theorem eqv_eq : ∀ d e : PyData, noB d = true → noB e = true → PyData.eqv d e = true → d = e
  | .none, e, _, h, q => by
    cases e <;> first | rfl | (cases h; done) | (simp [PyData.eqv] at q)
  | .bool _, _, h, _, _ => nomatch h
  | .int i, e, _, h, q => by
    cases e <;> first | (cases h; done) | (simp [PyData.eqv] at q; try (rw [q]))
  | .str x, e, _, h, q => by
    cases e <;> first | (cases h; done) | (simp [PyData.eqv] at q; try (rw [q]))
  | .list xs, e, h1, h, q => by
    cases e <;> first | (cases h; done) | skip
    all_goals first | (simp [PyData.eqv] at q; done) | skip
    rename_i ys
    have q2 : PyData.eqvAll xs ys = true := by simpa only [PyData.eqv] using q
    rw [eqvs_eq xs ys h1 h q2]
  | .tuple xs, e, h1, h, q => by
    cases e <;> first | (cases h; done) | skip
    all_goals first | (simp [PyData.eqv] at q; done) | skip
    rename_i ys
    have q2 : PyData.eqvAll xs ys = true := by simpa only [PyData.eqv] using q
    rw [eqvs_eq xs ys h1 h q2]
  | .dict _, _, h, _, _ => nomatch h
theorem eqvs_eq : ∀ xs ys : List PyData, noBs xs = true → noBs ys = true → PyData.eqvAll xs ys = true → xs = ys
  | [], [], _, _, _ => rfl
  | [], y :: s, _, _, q => by simp [PyData.eqvAll] at q
  | x :: r, [], _, _, q => by simp [PyData.eqvAll] at q
  | x :: r, y :: s, h1, h2, q => by
    have h1' : noB x = true ∧ noBs r = true := by simpa [noBs] using h1
    have h2' : noB y = true ∧ noBs s = true := by simpa [noBs] using h2
    have q' : PyData.eqv x y = true ∧ PyData.eqvAll r s = true := by simpa [PyData.eqvAll] using q
    rw [eqv_eq x y h1'.1 h2'.1 q'.1, eqvs_eq r s h1'.2 h2'.2 q'.2]
end
theorem eqv_dec {d e : PyData} (h1 : noB d = true) (h2 : noB e = true) : PyData.eqv d e = true ↔ d = e :=
  ⟨eqv_eq d e h1 h2, fun q => by rw [q]; exact PySem.SeqAt.eqv_refl_plain e (noB_plain e h2)⟩
theorem shal_noB {d e : PyData} (h1 : noB d = true) (h2 : noB e = true) (h : d.depth ≤ 64) : shal d e = true := by
  simp [shal, noB_plain d h1, noB_plain e h2, h]
end SM

set_option Elab.async false
set_option linter.all false
set_option maxRecDepth 100000
set_option maxHeartbeats 4000000
namespace SM
open PySem PySem.Spec PyProof.Rows L2 LamX

/-! ### a lambda without parameters, handed to a def, where no repr is under way -/
/-- all but what is at P stays -/
def Beside (P : Addr) (H H' : Hp) : Prop := ∀ b o, b ≠ P → H b = some o → H' b = some o
/-- the tables are as they were but for one entry at P that tells c -/
theorem tabs_grow {T : List (Addr × Str)} {H : Hp} {P c : Addr} {q : Str} {l cc : Value} {kk : Value} {ps : Array Value} {pos : Pos} (hT : Tabs T H) (hP : H P = some (.tbl ps)) (ht : TriplesOk ps.toList) (only : ∀ p ∈ T, p.1 = P → p.2 = q) (hc : H c = none) :
    Tabs T (upd (upd H P (.tbl (ps ++ #[rawInt pos.line, rawInt pos.col, .ref c]))) c (CodeO c q)) ∧ Beside P H (upd (upd H P (.tbl (ps ++ #[rawInt pos.line, rawInt pos.col, .ref c]))) c (CodeO c q)) := by
  have bes : Beside P H (upd (upd H P (.tbl (ps ++ #[rawInt pos.line, rawInt pos.col, .ref c]))) c (CodeO c q)) := fun b o n e => by
    rw [upd_ne (ne_of_none e hc), upd_ne n]
    exact e
  refine ⟨fun p hp => ?_, bes⟩
  obtain ⟨qs, at_, tri, all⟩ := hT p hp
  have old : ∀ (y : Pos) (v : Value), codeAmong y qs.toList = some v → ∃ a, v = .ref a ∧ upd (upd H P (.tbl (ps ++ #[rawInt pos.line, rawInt pos.col, .ref c]))) c (CodeO c q) a = some (CodeO a p.2) := fun y v hv => by
    obtain ⟨a, e1, e2⟩ := all y v hv
    refine ⟨a, e1, bes a _ (fun z => ?_) e2⟩
    rw [z, hP] at e2
    exact codeO_ne ps (Option.some.inj e2).symm
  by_cases same : p.1 = P
  · rw [same, hP] at at_
    cases at_
    have el : (ps ++ #[rawInt pos.line, rawInt pos.col, .ref c]).toList = ps.toList ++ [rawInt pos.line, rawInt pos.col, .ref c] := by simp
    refine ⟨_, by rw [same, upd_ne (ne_of_none hP hc), upd_same], by rw [el]; exact PySem.TriplesOk_snoc _ _ _ _ ht, fun y v hv => ?_⟩
    rw [el] at hv
    rcases among_app _ ht hv with z | z
    · exact old y v z
    · exact ⟨c, z, by rw [upd_same, only p hp same]⟩
  · exact ⟨qs, bes _ _ same at_, tri, old⟩
section
variable {X : Cx} {pins : List (Addr × Obj)} {σ : L2.St} {H : Hp} {s : Shared}
abbrev lamO (X : Cx) (params : Arguments) (body : Expr) (scope : Scope) (pm : Value) (c : Addr) (ctv : Value) : Obj := PySem.W.kla_obj "<lambda>" (X.env.qual ++ "<lambda>") params body scope (cloFrom X.env.cells scope.names []) pm c ctv
/-- the lambda is made -/
theorem lam_made {T : List (Addr × Str)} {c P : Addr} {params : Arguments} {body : Expr} {scope : Scope} {pos : Pos} {E Q : Value → Shared → Prop} (I : Inv X pins σ H s) (B : TabB X.base X.mg c P) (code : X.env.code = .ref c)
    (mine : (P, X.env.qual ++ "<lambda>") ∈ T) (only : ∀ p ∈ T, p.1 = P → p.2 = X.env.qual ++ "<lambda>") (hT : Tabs T H) (nodef : defaultsOf params X.env = ([], [])) (caught : ∀ y ∈ scope.names, y.2 = .free → ∃ a, X.env.cells.lookup y.1 = some a)
    (go : ∀ (f a : Addr) (pm ctv : Value) (H1 : Hp) (s1 : Shared), Inv X pins σ H1 s1 → Beside P H H1 → Tabs T H1 → s1.heap.get? f = some (lamO X params body scope pm a ctv) → H1 f = none → f ∉ frs X.stack → H1 a = some (CodeO a (X.env.qual ++ "<lambda>")) → Q (.ref f) s1) :
    wpAny (model X.prog X.w) X.A (eval (.Lambda params body scope pos) X.env) Q E s := by
  obtain ⟨ps, hP, tri, all⟩ := hT _ mine
  have real := I.hok P _ hP
  have bs := B.bm.keeps I.bk
  have cd := B.code.keeps I.bk
  have gl := I.mod.glob.keeps I.bk
  have above : ∀ f, s.heap.objs.size ≤ f → f ∉ frs X.stack := fun f hf z => by
    rcases List.mem_cons.mp (I.stkSub _ z) with e | e
    · have := I.lt
      rw [← e] at this
      exact Nat.lt_irrefl _ (Nat.lt_of_lt_of_le this hf)
    · exact I.nofs hf e
  refine PySem.W.kla_eval nodef ?_
  rcases hc : codeAmong pos ps.toList with _ | cv
  · refine PySem.W.kla_makeFunction (mg := X.mg) (c := c) (P := P) (ps := ps) (closure_ok caught) I.ok.glob gl code cd real tri hc B.gP bs fun a ctv h2 tk but low high rec tab => ?_
    obtain ⟨a2, oc, vs, t, ea, ho, hd, hv⟩ := rec
    cases ea
    have na : H a = none := I.hok.fresh low
    have J := inv_table (t' := tk) (more := #[rawInt pos.line, rawInt pos.col, .ref a]) (h' := h2.push (lamO X params body scope ((X.mg "__name__").getD .none) a ctv)) I hP (fun b o n e => Heap.get?_push_of_some _ (but b o n e)) (Heap.get?_push_of_some _ tab) low ⟨oc, vs, t, Heap.get?_push_of_some _ ho, hd, hv⟩
    obtain ⟨t1, t2⟩ := tabs_grow (l := .none) (cc := .none) (kk := .none) (pos := pos) hT hP tri only na
    have big : s.heap.objs.size ≤ h2.objs.size := Nat.le_trans low (Nat.le_of_lt high)
    refine go h2.objs.size a _ ctv _ _ J t2 t1 (Heap.get?_push_size _ rfl) ?_ (above _ big) upd_same
    rw [upd_ne (Nat.ne_of_gt high), upd_ne (Nat.ne_of_gt (Nat.lt_of_lt_of_le (Heap.lt_size real) big))]
    exact I.hok.fresh big
  · obtain ⟨a, ea, ha⟩ := all pos cv hc
    cases ea
    refine PySem.W.kla_makeFunctionHit (mg := X.mg) (c := c) (P := P) (ps := ps) (closure_ok caught) I.ok.glob gl code cd real tri hc bs fun ctv h2 tk keep big => ?_
    exact go h2.objs.size a _ ctv H _ (I.kept fun b o e => Heap.get?_push_of_some _ (keep b o e)) (fun _ _ _ e => e) hT (Heap.get?_push_size _ rfl) (I.hok.fresh big) (above _ big) ha
theorem cx_mono {P : Program} {w : World} {outer : List Env} {H : Hp} {s : Shared} {E E2 : XK} {u : Value} {s' : Shared} (h : ∀ cls d G, E cls d G → E2 cls d G) (c : L2.CX P w outer H s E u s') : L2.CX P w outer H s E2 u s' := by
  obtain ⟨a, B, H', cls, d, e1, e2, e3, e4, e5, e6, e7, e8⟩ := c
  exact ⟨a, B, H', cls, d, e1, e2, e3, e4, e5, e6, e7, h _ _ _ e8⟩
/-- n(), where slot i holds the lambda, in the def that got it -/
theorem pe_ask {CXg : CXT} {Eg : XK} {Ng : List Str} {qg : Str} {sg : Scope} {ga f a : Addr} {cdg pm ctv : Value} {params : Arguments} {body : Expr} {scope : Scope} {k i : Nat} {n : Str} {pn : List (Addr × Obj)} {xe : Value → Shared → Prop} {W : WX} {tb : XK → TE} {p1 p2 : Pos}
    (I : Inv X pins σ H s) (L : LamS X.env.scope scope) (there : s.heap.get? f = some (lamO X params body scope pm a ctv)) (none_ : H f = none) (notF : f ∉ frs X.stack)
    (bind0 : bindArgs (PySem.W.kla_fn "<lambda>" (X.env.qual ++ "<lambda>") params body scope (cloFrom X.env.cells scope.names []) pm (.ref a) ctv) ⟨[], []⟩ = pure [])
    (tk : Takes ((cxOf CXg X.prog X.w X.K X.mg X.base Ng qg sg ga cdg X.A X.stack s H Eg).tr pn xe) W) (room : Room (k + 1) (X.A.deeper (envOfC qg sg s.heap.objs.size ga cdg)))
    (hbody : ∀ (outer : List Env) (z : Shared) (G : Hp) (E : XK), Room k ((X.A.deeper (envOfC qg sg s.heap.objs.size ga cdg)).deeper (lamEnv X scope z.heap.objs.size f a)) → PE (lamCx X (X.A.deeper (envOfC qg sg s.heap.objs.size ga cdg)) outer z G E scope f a) body (tb E))
    (hN : Ng[i]? = some n) (vis : Vis sg n) (h1 : (n == ("__debug__" : Str)) = false := by decide) (h2 : (n == ("__classdict__" : Str)) = false := by decide) :
    PE ((cxOf CXg X.prog X.w X.K X.mg X.base Ng qg sg ga cdg X.A X.stack s H Eg).tr pn xe) (.Call (.Name n p1) [] [] p2) (fun τ G Q => τ[i]? = some (some (.ref f)) ∧ G a = some (CodeO a (X.env.qual ++ "<lambda>")) ∧ ∃ (E : XK) (Q0 : VK), (∀ cls d G', E cls d G' → W cls d τ G') ∧ (∀ v G', Q0 v G' → Q v G') ∧ tb E σ G Q0) := by
  refine ⟨fun qs z τ G Q J want => ?_⟩
  obtain ⟨slot, cdO, E, Q0, hE, hQ, want⟩ := want
  refine wpAny_Call_Name_kw (thn ((pe_var (pos := p1) (i := i) hN vis h1 h2).run qs z τ G (fun v G1 => v = .ref f ∧ G1 = G) J ⟨.ref f, slot, rfl, rfl⟩) fun u z1 got => ?_)
  obtain ⟨v, G1, J1, rel, rfl, eG⟩ := got
  rw [eG] at J1
  obtain rfl : u = Value.ref f := rel
  have here : z1.heap.get? f = some (lamO X params body scope pm a ctv) := J1.base.keep f _ there none_ notF fun y => nomatch (show f ∈ ([] : List Addr) from y)
  have ground : Un (frs X.stack) [] H G s.heap z1.heap := J1.base
  obtain ⟨⟨oc, vs, t, ho, hd, hv⟩, _⟩ := J1.hok a _ cdO
  refine PySem.W.callWith_F0 ⟨_, _, _, _, here⟩ ?_
  have run : codeAny (model X.prog X.w) (X.A.deeper (envOfC qg sg s.heap.objs.size ga cdg)) (.call (.ref f) ⟨[], []⟩) (CR (L2.CX X.prog X.w) (envOfC qg sg s.heap.objs.size ga cdg :: X.stack) X.prog X.w G z1 Q0 E) z1 := by
    refine PySem.W.kla_callFunE room.depth here rfl L.co L.gen rfl ⟨a, oc, vs, t, rfl, ho, hd, hv⟩ ?_
    rw [bind0]
    refine wpAny_pure (wpAny_newFunctionEnv (fun y hy => (L.own y hy).2) (fun y hy => absurd hy (by simp)) (fun h3 names but => ⟨J1.nolimit.fresh _ but, ?_⟩) L.kind)
    have keep : ∀ b o, z1.heap.get? b = some o → h3.get? b = some o := fun b o e => but.extBut b o (Nat.ne_of_lt (Heap.lt_size e)) (Heap.get?_push_of_some _ e)
    have J2 : Inv (lamCx X (X.A.deeper (envOfC qg sg s.heap.objs.size ga cdg)) (envOfC qg sg s.heap.objs.size ga cdg :: X.stack) z1 G E scope f a) [] σ G { z1 with heap := h3, toks := z1.toks + ([] : List (Str × Value)).length } :=
      lam_start2 I L J1.env0 room.hd ground names keep
    show codeAny _ _ (.expr body (lamEnv X scope z1.heap.objs.size f a)) _ _
    refine PySem.W.kla_codeExpr (wpAny_mono ((hbody _ z1 G E (room.deeper _)).run [] _ _ G Q0 J2 want) (fun y s2 q => ?_) fun _ _ q => q)
    obtain ⟨y2, G2, J3, r, q⟩ := q
    exact ⟨y2, G2, J3.os, J3.bare, J3.base, J3.hok, r, q⟩
  refine wpAny_call (codeAny_mono run fun r s2 q => ?_)
  match r, q with
  | .error e, q => exact passAt tk τ qs G z1 e s2 J1 (cx_mono (fun cls d G' h => hE cls d G' h) q)
  | .ok (.ret u), q =>
    obtain ⟨v, G2, J2, r, q⟩ := J1.after q
    exact ⟨v, G2, J2, r, hQ _ _ q⟩
  | .ok .next, q => exact False.elim q
  | .ok .brk, q => exact False.elim q
  | .ok .cont, q => exact False.elim q
/-- the reading of x(lambda: ..): TT tells what x makes of the reading of what it calls -/
def tAsk (T : List (Addr × Str)) (P : Addr) (TT : (XK → Hp → VK → Prop) → Hp → VK → Prop) (t : XK → TE) : TE := fun σ H Q => Tabs T H ∧ ∀ H1, Beside P H H1 → Tabs T H1 → TT (fun E G Q' => t E σ G Q') H1 Q
/-- a def that calls what it got, where no repr is under way -/
def Asks (X : Cx) (Ng : List Str) (x : Str) (sg : Scope) (g : Addr) (cdg : Value) (bg : List Stmt) (n q : Str) (k : Nat) (TT : (XK → Hp → VK → Prop) → Hp → VK → Prop) : Prop :=
  ∀ (f a : Addr) (s : Shared) (H : Hp) (Q : VK) (tl : XK → Hp → VK → Prop), Room k (X.A.deeper (envOfC x sg s.heap.objs.size g cdg)) →
    (∀ (W : WX) (pn : List (Addr × Obj)) (xe : Value → Shared → Prop) (p1 p2 : Pos), Takes ((cxOf C8.CX0 X.prog X.w X.K X.mg X.base Ng x sg g cdg X.A X.stack s H C8.E0).tr pn xe) W →
      PE ((cxOf C8.CX0 X.prog X.w X.K X.mg X.base Ng x sg g cdg X.A X.stack s H C8.E0).tr pn xe) (.Call (.Name n p1) [] [] p2) (fun τ G Q' => τ[0]? = some (some (.ref f)) ∧ G a = some (CodeO a q) ∧ ∃ (E : XK) (Q0 : VK), (∀ cls d G', E cls d G' → W cls d τ G') ∧ (∀ v G', Q0 v G' → Q' v G') ∧ tl E G Q0)) →
    H a = some (CodeO a q) → TT tl H Q →
    ∃ t, PSs (cxOf C8.CX0 X.prog X.w X.K X.mg X.base Ng x sg g cdg X.A X.stack s H C8.E0).nox bg t ∧ t { nx := fun _ G => Q .non G, rt := Q } (L2.start Ng [.ref f]) H
/-- x(lambda: body) -/
theorem pe_asked {T : List (Addr × Str)} {TT : (XK → Hp → VK → Prop) → Hp → VK → Prop} {x n : Str} {g c P : Addr} {k : Nat} {pg : Arguments} {bg : List Stmt} {sg : Scope} {dV kV doc pm cdv ct oc : Value} {an od : Option Addr} {osl : Array (Option Value)} {Ng : List Str}
    {params : Arguments} {body : Expr} {scope : Scope} {t : XK → TE} {p lpos pos : Pos} (hg : Gl X x) (hm : X.mg x = some (.ref g)) (hk : PySem.W.keepIn X.K (.ref g) = true)
    (lk : X.K.lookup g = some ⟨oc, od, .func (PySem.W.fnOf x x pg bg sg dV kV doc pm an cdv ct), osl⟩) (hcg : PySem.W.codeIn X.K cdv x = true) (hb : L2.Binds X.K (PySem.W.fnOf x x pg bg sg dV kV doc pm an cdv ct) [n] []) (Sg : FnScope Ng [n] sg) (hNg : Ng[0]? = some n) (vis : Vis sg n)
    (hG : Asks X Ng x sg g cdv bg n (X.env.qual ++ "<lambda>") (k + 1) TT)
    (B : TabB X.base X.mg c P) (code : X.env.code = .ref c) (mine : (P, X.env.qual ++ "<lambda>") ∈ T) (only : ∀ p ∈ T, p.1 = P → p.2 = X.env.qual ++ "<lambda>") (room : Room (k + 2) X.A) (L : LamS X.env.scope scope) (nodef : defaultsOf params X.env = ([], []))
    (bind0 : ∀ (q : Str) (cl : List (Str × Addr)) (pm cv ctv : Value), bindArgs (PySem.W.kla_fn "<lambda>" q params body scope cl pm cv ctv) ⟨[], []⟩ = pure [])
    (hbody : ∀ (A1 : Around) (outer : List Env) (z : Shared) (G : Hp) (E : XK) (f a : Addr), A1.guards = X.A.guards → Room k (A1.deeper (lamEnv X scope z.heap.objs.size f a)) → PE (lamCx X A1 outer z G E scope f a) body (t E))
    (hdb : (x == ("__debug__" : Str)) = false := by decide) (h1 : (n == ("__debug__" : Str)) = false := by decide) (h2 : (n == ("__classdict__" : Str)) = false := by decide) :
    PE X (.Call (.Name x p) [.Lambda params body scope lpos] [] pos) (tAsk T P TT t) := by
  refine ⟨fun pins s σ H Q I want => wpAny_Call_Name_kw (ld_glob I hg hm ?_ hdb)⟩
  obtain ⟨hT, want⟩ := want
  refine PySem.W.callWith_K (h₀ := X.base) I.ok.mod.kin hk ?_ (by rfl) (by rfl)
  show wpAny _ _ (spliced ((false, eval (.Lambda params body scope lpos) X.env) :: backTo pos (starEach [] X.env))) _ _ s
  refine Calls.spliced_cons (lam_made I B code mine only hT nodef (L.has I.ok) fun f a pm' ctv H1 s1 I1 bes T1 there none_ notF cdO => Calls.spliced_nil ⟨I1.kIn, ?_⟩)
  have run : codeAny (model X.prog X.w) X.A (.call (.ref g) ⟨[.ref f], []⟩) (CR C8.CX0 X.stack X.prog X.w H1 s1 Q C8.E0) s1 := by
    refine run_ofS (N := Ng) (ps := [n]) (us := [.ref f]) (vs := [.ref f]) lk hcg Sg room I1.env0 (hb s1 [.ref f] I1.kIn rfl) (.cons rfl .nil) rfl fun room1 => ?_
    obtain ⟨t1, ht, hq⟩ := hG f a s1 H1 Q (fun E G Q' => t E σ G Q') room1 (fun W pn xe p1 p2 tk =>
      pe_ask (i := 0) (tb := t) I1 L there none_ notF (bind0 _ _ _ _ _) tk room1 (fun outer z G E r => hbody _ outer z G E f a rfl r) hNg vis h1 h2) cdO (want H1 bes T1)
    exact ⟨t1, ht.nox, hq⟩
  refine wpAny_call (codeAny_mono run fun r s2 q => ?_)
  match r, q with
  | .error e, q => exact (show False from q).elim
  | .ok (.ret u), q => exact I1.after q
  | .ok .next, q => exact False.elim q
  | .ok .brk, q => exact False.elim q
  | .ok .cont, q => exact False.elim q
section
variable {A : Around} {outer : List Env} {E : XK} {scope : Scope} {f a : Addr}
theorem takesL {s : Shared} {H : Hp} : Takes (lamCx X A outer s H E scope f a) (fun cls d _ H => E cls d H) := takes_of rfl rfl rfl rfl
theorem passL {s : Shared} {H : Hp} : Passes (L2.CX X.prog X.w) (lamCx X A outer s H E scope f a) E := fun pins σ G z e z2 I c => passes_call takesL (fun _ _ _ _ h => h) pins σ G z e z2 I c
end
end
end SM

set_option Elab.async false
set_option linter.all false
set_option maxRecDepth 100000
set_option maxHeartbeats 4000000
namespace SM
open PySem PySem.Spec PyProof.Rows L2

/-! ### clauses 'except x as n: ..' whose suites ask the error -/
def wHeld (K : PySem.W.Frag) (Wout : WX) (D : Ends) : List (Value × Nat × TS) → WX
  | [] => Wout
  | (c, i, ts) :: r => fun cls d σ H => ∃ b, PySem.W.exmOne K cls c = some b ∧
      (b = true → ∃ C, cls = .ref C ∧ ∀ a, H a = none → ts { nx := fun σ' H' => D.nx (σ'.set i none) H', rt := fun _ _ => False, bk := fun _ _ => False, ct := fun _ _ => False } (σ.set i (some (.ref a))) (upd H a (xco a C d))) ∧
      (b = false → wHeld K Wout D r cls d σ H)
inductive HeldOk (X : Cx) : List ExceptHandler → List (Value × Nat × TS) → Prop
  | nil : HeldOk X [] []
  | cons {x n : Str} {c : Value} {i : Nat} {ts : TS} {b0 : Stmt} {suite : List Stmt} {np pos' : Pos} {hds : List ExceptHandler} {l : List (Value × Nat × TS)} (hc : Names X x c) (hi : X.N[i]? = some n) (hln : X.env.kindOf n = some .local)
      (hsu : ∀ (a : Addr) (pn : List (Addr × Obj)), PSs (X.suite a pn) (b0 :: suite) ts) (r : HeldOk X hds l) : HeldOk X (.ExceptHandler (some (.Name x np)) (some n) (b0 :: suite) pos' :: hds) ((c, i, ts) :: l)
section
variable {X : Cx} {pins pn : List (Addr × Obj)} {σ : L2.St} {H : Hp} {s : Shared} {a C : Addr} {d : Option Addr} {ob : Obj} {vs : Array Value}
/-- what is pinned by the suite is tracked in it -/
theorem inv_hot (I : Inv (X.suite a ((a, ob) :: pn)) pins σ H s) (hc : ob.cls = .ref C) (hd : ob.dict = d) (hf : ob.data = .fields vs) (old : X.s_0.heap.get? a = none) (apart : ∀ p, p ∈ pn ++ pins → p.1 ≠ a) : Inv (X.suite a pn) pins σ (upd H a (xco a C d)) s := by
  obtain ⟨here, none_, notL, notF, _⟩ := I.pin (a, ob) List.mem_cons_self
  have here' : s.heap.get? a = some ob := here
  have none' : H a = none := none_
  have away : ∀ {b : Addr} {u : HO}, H b = some u → (upd H a (xco a C d)) b = some u := fun {b u} e => by
    rw [upd_ne (ne_of_none e none')]
    exact e
  refine ⟨⟨I.ok.mod, I.ok.kind, I.ok.glob, I.ok.blt, I.ok.above, I.ok.inj, I.ok.has, I.ok.cab, I.ok.hd, I.ok.frames, I.ok.stk, I.ok.exf, I.ok.bs, I.ok.bsz, I.ok.noex, I.ok.exfs, I.ok.funs, I.ok.frf⟩, I.os, I.bare, ⟨I.base.keep, I.base.slot, fun b o e n x => ?_, I.base.there, fun b xs e => away (I.base.tups b xs e), fun b o u e => away (I.base.frzs b o u e), fun b ps e => ?_⟩, I.loc, I.cell, ?_, fun x c e => ?_, fun p hp => ?_, fun b u e => ?_, I.len⟩
  · rw [upd_ne (fun z => by
      have e' : X.s_0.heap.get? b = some o := e
      rw [z, old] at e'
      cases e')]
    exact I.base.free b o e n x
  · obtain ⟨more, q⟩ := I.base.tbls b ps e
    exact ⟨more, away q⟩
  · rw [upd_ne (fun z => notL z.symm)]
    exact I.free
  · have : c ≠ a := fun z => by
      obtain ⟨v, oc, e1, e2⟩ := I.cell x c e
      rw [z, here'] at e1
      cases e1
      first
        | (rw [hf] at e2; cases e2)
        | (obtain ⟨e2, _⟩ := e2; rw [hf] at e2; cases e2)
    rw [upd_ne this]
    exact I.freeC x c e
  · obtain ⟨p1, p2, p3, p4, p5⟩ := I.pin p ((List.mem_append.mp hp).elim (fun z => List.mem_append_left _ (List.mem_cons_of_mem _ z)) fun z => List.mem_append_right _ z)
    refine ⟨p1, ?_, p3, p4, p5⟩
    rw [upd_ne (apart p hp)]
    exact p2
  · by_cases hb : b = a
    · subst hb
      rw [upd_same] at e
      cases e
      exact ⟨⟨ob, vs, here', hc, hd, hf⟩, ⟨ob, here'⟩, fun h1 h2 ⟨o, ws, q1, q2⟩ k => ⟨o, ws, k o q1, q2⟩⟩
    · rw [upd_ne hb] at e
      exact (I.hok b u e).stay (fun c u' _ q => q) (fun c q => away q) fun c xs q => away q
end
section
variable {X : Cx} {body : List Stmt} {h0 : ExceptHandler} {hds : List ExceptHandler} {l : List (Value × Nat × TS)} {pos : Pos} {tb : WX → TS} {Wout : WX}
theorem ps_held (hex : X.ex = []) (hs : X.stack = X.env :: X.outer) (hf : X.env.frame = some X.env.locals) (hN : X.N.Nodup) (tk : Takes X Wout)
    (hb : ∀ (W : WX) (pn : List (Addr × Obj)) (xe : Value → Shared → Prop), Takes (X.tr pn xe) W → PassesOwn (model X.prog X.w) X.A X.env xe → PSs (X.tr pn xe) body (tb W))
    (hh : HeldOk X (h0 :: hds) l) : PS X (.Try body (h0 :: hds) [] [] pos) (fun D σ H => tb (wHeld X.K Wout D l) D σ H) := by
  refine ⟨fun pins s σ H D I h => ?_⟩
  have ok := I.ok
  have frames : X.A.frames = some (X.env :: X.outer) := by rw [ok.frames, hs]
  refine wpAny_Try_except ?_
  refine wpAny_mono ((hb (wHeld X.K Wout D l) (X.pn ++ pins) (fun e z1 => wpAny (model X.prog X.w) X.A (noteFrame e X.env) (fun _ z2 => wpAny (model X.prog X.w) X.A (setFlight e none) (fun _ z3 =>
    wpAny (model X.prog X.w) X.A (handleBy e X.env (h0 :: hds)) (L2.SP X pins D) X.xe z3) X.xe z2) X.xe z1) (fun u z got => ?_) PassesOwn.looking).run [] s σ H D (I.toTry _) h) (fun fl z got => ?_) (fun e z got => got)
  · obtain ⟨a, B, sI, qs, τ, G, cls, d, rfl, J0, nb, up, sky, na, os, ag, wish⟩ := got
    have J : Inv X pins τ G sI := J0.ofTry ok
    have sky' : Sky B (X.env :: X.outer) a (Zc cls d) X.env.locals z.heap := by rw [← hs]; exact sky
    show wpAny (model X.prog X.w) X.A (noteFrame (.ref a) X.env) _ _ _
    refine Sky.land Zc.steady frames hf sky' fun g3 fl3 up3 => ?_
    have J3 : Inv X pins τ G { z with heap := g3 } := J.landed nb fl3.1 (up.trans up3) os ag
    have fresh : B.get? a = none := fl3.2.1
    obtain ⟨o3, v3, e3, z3, d3⟩ := fl3.there
    have aside : ∀ {g : Heap} {o : Obj} {vs : Array Value}, g.FunFrames B (X.env :: X.outer) → g.get? a = some o → o.data = .fields vs → a ∉ frs (X.env :: X.outer) := fun {g o vs} ff e dd hm => by
      obtain ⟨_, o', e', hnf⟩ := ff.mem hm
      rw [e] at e'
      cases e'
      exact hnf _ dd
    have notFr := aside fl3.2.2.1 e3 d3
    have notL : a ≠ X.env.locals := fun q => notFr (List.mem_filterMap.mpr ⟨X.env, List.mem_cons_self, by rw [hf, q]⟩)
    have notF : a ∉ X.fs := fun hm => by
      obtain ⟨e, he, q⟩ := List.mem_filterMap.mp hm
      exact notFr (List.mem_filterMap.mpr ⟨e, List.mem_cons_of_mem _ he, q⟩)
    have inB : ∀ {b : Addr} {o : Obj}, sI.heap.get? b = some o → b ≠ a := fun {b o} e q => by
      subst q
      have := nb b o e (by rw [hs]; exact notFr)
      rw [fresh] at this
      cases this
    have apart : ∀ p, p ∈ X.pn ++ pins → p.1 ≠ a := fun p hp => inB (J.pin p hp).1
    have old : X.s_0.heap.get? a = none := by
      cases q : X.s_0.heap.get? a with
      | none => rfl
      | some o =>
        obtain ⟨o', e'⟩ := J.base.there a o q (by rw [hex]; exact List.not_mem_nil)
        exact absurd rfl (inB e')
    have S3 := J3.suite e3 d3 na notL notF
    have LT : PySem.W.Looks (model X.prog X.w) g3 (typeOf (.ref a)) cls := fun A Q E t k q => wpAny_typeOf_ref (k _ _ e3) (by rw [z3.1]; exact q)
    have go : ∀ {hds : List ExceptHandler} {l : List (Value × Nat × TS)}, HeldOk X hds l → wHeld X.K Wout D l cls d τ G → wpAny (model X.prog X.w) X.A (handleBy (.ref a) X.env hds) (L2.SP X pins D) X.xe { z with heap := g3 } := by
      intro hds l hk
      induction hk with
      | nil =>
        intro w
        refine wpAny_handleBy_nil ?_
        obtain ⟨k1, k2, k3, oe, ws, T, oT, ts', he, hz, hd, hw, hr⟩ := id fl3
        unfold PySem.passOn
        refine wpAny_bind (wpAny_field he hd hw ?_)
        rw [if_neg (show ¬ ((Value.ref T == Value.none) = true) from by simp)]
        have last : wpAny (model X.prog X.w) X.A (setFlight (.ref a) X.env.frame) (fun _ z4 => wpAny (model X.prog X.w) X.A (throw (.ref a) : Sem Flow) (L2.SP X pins D) X.xe z4) X.xe { z with heap := g3 } := by
          rw [hf]
          refine HandSPX.setFlight_upZ fl3 fun g4 hh4 up4 => wpAny_throw (tk _ _ ?_)
          exact ⟨a, B, sI, pins, τ, G, cls, d, rfl, J, nb, (up.trans up3).trans up4, .inr (.inr (by rw [hs]; exact hh4)), na, os, ag, w⟩
        first
          | exact wpAny_bind (wpAny_pure (wpAny_bind last))
          | exact wpAny_bind last
      | @cons x n c i ts b0 suite np pos' hds l hc hi hln hsu r ih =>
        rintro ⟨b, same, yes, no⟩
        have place : Loc X.env.scope n := .inl hln
        refine wpAny_handleBy_cons (codeAny_handlers_test ?_) (by intro q; cases q)
        have LM := PySem.W.exm_one (M := model X.prog X.w) (J3.kIn) LT same
        have asked : ∀ {Q : Value → Shared → Prop} {E : Value → Shared → Prop}, Q c { z with heap := g3 } → wpAny (model X.prog X.w) (X.A.mark (some (.ref a))) (eval (.Name x np) X.env) Q E { z with heap := g3 } := fun {Q E} q => by
          obtain ⟨hg, hdbg, hm | ⟨hm, hv, hnn⟩⟩ := hc
          · exact ld_glob (X := X.suite a ((a, o3) :: (X.pn ++ pins))) S3 hg hm q hdbg
          · exact ld_blt (X := X.suite a ((a, o3) :: (X.pn ++ pins))) S3 hg hm hv q hnn hdbg
        refine asked (LM.here ?_)
        cases b with
        | true =>
          obtain ⟨C, rfl, then_⟩ := yes rfl
          refine codeAny_handlers_suite_as ?_
          refine HandSPX.lands_againZ fl3 fun g4 fl4 up4 => ?_
          have J4 : Inv X pins τ G { z with heap := g4 } := J.landed nb fl4.1 ((up.trans up3).trans up4) os ag
          obtain ⟨o4, v4, e4, z4, d4⟩ := fl4.there
          have S4 := J4.suite e4 d4 na notL notF
          refine store_ok (X := X.suite a ((a, o4) :: (X.pn ++ pins))) (v := .ref a) S4 hN hi place rfl (fun t5 S5 => ?_) (.inr hln)
          have S5' : Inv (X.suite a (X.pn ++ pins)) [] (τ.set i (some (.ref a))) (upd G a (xco a C d)) t5 := inv_hot S5 z4.1 z4.2 d4 old (fun p hp => apart p (by simpa using hp))
          refine wpAny_mono ((hsu a (X.pn ++ pins)).run [] t5 _ _ { nx := fun σ' H' => D.nx (σ'.set i none) H', rt := fun _ _ => False, bk := fun _ _ => False, ct := fun _ _ => False } S5' (then_ a na)) (fun fl t6 got => ?_) (fun _ _ q => False.elim q)
          match fl, got with
          | .next, ⟨σ6, H6, S6, q6⟩ =>
            have J6 : Inv X pins σ6 H6 t6 := ⟨ok, S6.os, S6.bare, S6.base, S6.loc, S6.cell, S6.free, S6.freeC, fun p hp => S6.pin p (List.mem_append_left _ hp), S6.hok, S6.len⟩
            show wpAny (model X.prog X.w) X.A (do bindName X.env n .none; unbindBehindTheSuite X.env n pos') _ _ _
            exact gone_ok J6 hN hi hln fun t7 J7 => ⟨_, _, J7, q6⟩
          | .brk, ⟨_, _, _, q6⟩ => exact q6.elim
          | .cont, ⟨_, _, _, q6⟩ => exact q6.elim
          | .ret _, ⟨_, _, _, _, _, q6⟩ => exact q6.elim
        | false => exact ih (no rfl)
    exact go hh wish
  · match fl, got with
    | .next, ⟨τ, G, J, q⟩ => exact wpAny_execs_nil ⟨τ, G, J.ofTry ok, q⟩
    | .brk, ⟨τ, G, J, q⟩ => exact ⟨τ, G, J.ofTry ok, q⟩
    | .cont, ⟨τ, G, J, q⟩ => exact ⟨τ, G, J.ofTry ok, q⟩
    | .ret u, ⟨v, τ, G, J, r, q⟩ => exact ⟨v, τ, G, J.ofTry ok, r, q⟩
end
end SM

set_option Elab.async false
set_option linter.all false
set_option maxRecDepth 100000
set_option maxHeartbeats 4000000
namespace SM
open PySem PySem.Spec PyProof.Rows L2 LamX

/-! ### the end, where tables of code objects are tracked -/
/-- the empty table -/
abbrev tabE : Obj := { cls := .none, data := .fields #[] }
section
variable {P : Program} {w : World} {K : PySem.W.Frag} {mg mb : Str → Option Value} {CX : CXT} {k : Nat} {fa a : Addr} {fd : FuncData} {x : Str} {sp : Sp} {z : Shared} {vs : List Value} {ns : List Int} {cs : List (Addr × Addr)}
/-- what is known of the code objects and their tables at the law's call -/
structure TabsZ (K : PySem.W.Frag) (mg : Str → Option Value) (cs : List (Addr × Addr)) (h : Heap) : Prop where
  t : ∀ p ∈ cs, h.get? p.2 = some tabE
  k : ∀ p ∈ cs, K.lookup p.2 = none
  c : ∀ p ∈ cs, PySem.W.CodeHd h p.1 p.2
  b : ∃ (bm : Addr) (ob : Obj), mg "__builtins__" = some (.ref bm) ∧ bm ≠ builtinsNs ∧ h.get? bm = some ob ∧ ob.cls = .type "module" ∧ ob.dict = some builtinsNs ∧ ob.data = .plain
abbrev tabsOf (cs : List (Addr × Addr)) : List Addr := cs.map (·.2)
theorem TabsZ.at_ {h : Heap} (T : TabsZ K mg cs h) {b : Addr} (hb : b ∈ tabsOf cs) : h.get? b = some tabE := by
  obtain ⟨p, hp, rfl⟩ := List.mem_map.mp hb
  exact T.t p hp
theorem end_coreT (T : TabsZ K mg cs z.heap) (KX : K.In z.heap) (names : z.heap.Ns mainGlobals mg) (bn : z.heap.Ns builtinsNs mb) (bns : ∀ x : Str, x ≠ "__name__" → mb x = bootBuiltins x) (roof : z.heap.NoLimit) (still : z.gens = #[])
    (ha : z.heap.get? a = some { cls := .type "list", data := .seq vs.toArray }) (room : Room k callerA) (sy : ∃ mm, z.heap.Ns sysModules mm)
    (G : ∀ base : Heap, K.In base → base.Ns mainGlobals mg → (∃ o, base.get? sysModules = some o) → (∀ p ∈ cs, TabB base mg p.1 p.2) → FnG P w K mg base CX k fa fd [x] sp) (binds : ∀ (s : Shared) (u : Value), BindsTo s fd ⟨[u], []⟩ [(x, u)])
    (thru : ∀ H e y, CX [] H z (fun _ _ _ => False) e y → False) {H : Hp} (tab : ∀ b, b ∈ tabsOf cs → H b = some (.tbl #[])) (only : ∀ b, b ∉ tabsOf cs → H b = none ∨ ∃ o xs, H b = some (.frz o (.lst xs))) (want : sp [.ref a] H (fun v _ => v = .bl true) fun _ _ _ => False) (hok : HOk P w H z.heap)
    (one : ∀ b, H b ≠ none → b = a ∨ b ∈ tabsOf cs) (own : H a ≠ none → K.lookup a = none) :
    codeAny (model P w) callerA (.call (.ref fa) ⟨[.ref a], []⟩) (Said2 z) z := by
  have low : ∀ {b : Addr} {o : Obj}, z.heap.get? b = some o → H b = none → (hidT z.heap H).get? b = some o := fun e n => hidT_get e n
  -- what is neither a list nor an empty record is not tracked
  have free : ∀ {b : Addr} {o : Obj}, z.heap.get? b = some o → (∀ us n, o.data ≠ .seq us n) → o.data ≠ .fields #[] → H b = none := fun {b o} e n1 n2 => Classical.byContradiction fun n => by
    rcases one b n with q | q
    · subst q
      rw [ha] at e
      cases e
      exact n1 _ _ rfl
    · rw [T.at_ q] at e
      cases e
      exact n2 rfl
  have nsp : ∀ {b : Addr} {m : Str → Option Value}, z.heap.Ns b m → (hidT z.heap H).Ns b m := fun {b m} ⟨o, es, ep, e, d, r⟩ => ⟨o, es, ep, low e (free e (fun _ _ q => by rw [d] at q; cases q) fun q => by rw [d] at q; cases q), d, r⟩
  have kb : K.In (hidT z.heap H) := fun b o e => low (KX b o e) (Classical.byContradiction fun n => by
    rcases one b n with q | q
    · subst q
      rw [own n] at e
      cases e
    · obtain ⟨p, hp, rfl⟩ := List.mem_map.mp q
      rw [T.k p hp] at e
      cases e)
  have md : Mod K mg (hidT z.heap H) := ⟨kb, nsp names, ⟨mb, nsp bn, bns⟩, let ⟨mc, h1, h2⟩ := roof; ⟨mc, nsp h1, h2⟩⟩
  have nil : ∀ b : Addr, b ∈ ([] : List Addr) → False := fun b h => by cases h
  have tB : ∀ p ∈ cs, TabB (hidT z.heap H) mg p.1 p.2 := fun p hp => by
    refine ⟨?_, ?_, fun q => ?_⟩
    · obtain ⟨o, us, file, tf, flags, tg, inF, text, tt, e1, r1, r2, r3, rest⟩ := T.c p hp
      exact ⟨o, us, file, tf, flags, tg, inF, text, tt, low e1 (free e1 (fun _ _ q => by rw [r2] at q; cases q) fun q => by rw [r2] at q; cases q; simp at r3), r1, r2, r3, rest⟩
    · obtain ⟨bm, ob, b1, b2, b3, b4, b5, b6⟩ := T.b
      refine ⟨bm, ob, b1, b2, fun q => ?_, fun q => ?_, low b3 (free b3 (fun _ _ q => by rw [b6] at q; cases q) fun q => by rw [b6] at q; cases q), b4, b5, b6⟩
      · obtain ⟨o, es, ep, e, hd, _⟩ := names
        rw [q, e] at b3
        cases b3
        rw [hd] at b6
        cases b6
      · rw [q, T.t p hp] at b3
        cases b3
        cases b6
    · obtain ⟨o, es, ep, e, hd, _⟩ := names
      rw [q, T.t p hp] at e
      cases e
      cases hd
  have at0 : Env0 P w K mg (hidT z.heap H) callerA [] z H := ⟨rfl, md, fun b o e => of_hidT e, Nat.le_of_eq (hidT_size _ _), trivial, fun b h => (nil b h).elim, hok, .of_eq still⟩
  refine codeAny_mono ((G _ kb (nsp names) (let ⟨_, h1⟩ := sy; let ⟨o, _, _, e, _⟩ := nsp h1; ⟨o, e⟩) tB).runs callerA room rfl [] z H ⟨[.ref a], []⟩ [.ref a] [.ref a] _ _ at0 (binds z (.ref a)) (.cons rfl .nil) want) fun r y got => ?_
  match r, got with
  | .error e, got => exact (thru H e y got).elim
  | .ok .next, got => exact False.elim got
  | .ok .brk, got => exact False.elim got
  | .ok .cont, got => exact False.elim got
  | .ok (.ret u), ⟨v, H2, os, bare, un, hok2, rel, q⟩ =>
    cases (show v = .bl true from q)
    cases (show u = Value.bool true from rel)
    have stay : ∀ {b : Addr} {o : Obj}, b ∉ tabsOf cs → z.heap.get? b = some o → y.heap.get? b = some o := fun {b o} nb e => by
      rcases only b nb with n | ⟨ob, xs, n⟩
      · exact un.keep b o e n (nil b) (by simp)
      · obtain ⟨e1, _⟩ := hok b _ n
        obtain ⟨e2, _⟩ := hok2 b _ (un.frzs b ob _ n)
        rw [e] at e1
        cases e1
        exact e2
    have grew : ∀ p ∈ cs, ∃ more : Array Value, y.heap.get? p.2 = some { cls := .none, data := .fields more } := fun p hp => by
      obtain ⟨more, e⟩ := un.tbls p.2 #[] (tab _ (List.mem_map_of_mem hp))
      exact ⟨_, hok2 p.2 _ e⟩
    refine ⟨rfl, ⟨fun b o e => ?_, fun b o e => ?_⟩, os, bare⟩
    · by_cases hb : b ∈ tabsOf cs
      · obtain ⟨p, hp, rfl⟩ := List.mem_map.mp hb
        obtain ⟨more, hm⟩ := grew p hp
        rw [T.t p hp] at e
        cases e
        exact .inr (.inl ⟨((T.c p hp).tab (T.t p hp)).isCodeTable, rfl, #[], more, rfl, by rw [Array.empty_append]; exact hm⟩)
      · exact .inl (stay hb e)
    · by_cases hb : b ∈ tabsOf cs
      · obtain ⟨p, hp, rfl⟩ := List.mem_map.mp hb
        obtain ⟨more, hm⟩ := grew p hp
        exact ⟨_, hm⟩
      · exact ⟨o, stay hb e⟩
theorem end_callT (T : TabsZ K mg cs z.heap) (KX : K.In z.heap) (names : z.heap.Ns mainGlobals mg) (bn : z.heap.Ns builtinsNs mb) (bns : ∀ x : Str, x ≠ "__name__" → mb x = bootBuiltins x) (roof : z.heap.NoLimit) (still : z.gens = #[])
    (ha : z.heap.get? a = some { cls := .type "list", data := .seq vs.toArray }) (nums : IntsAre vs ns) (few : ns.length ≤ sizeLine) (room : Room k callerA) (sy : ∃ mm, z.heap.Ns sysModules mm)
    (G : ∀ base : Heap, K.In base → base.Ns mainGlobals mg → (∃ o, base.get? sysModules = some o) → (∀ p ∈ cs, TabB base mg p.1 p.2) → FnG P w K mg base CX k fa fd [x] sp)
    (binds : ∀ (s : Shared) (u : Value), BindsTo s fd ⟨[u], []⟩ [(x, u)]) (want : ∀ H : Hp, (∀ b, b ∈ tabsOf cs → H b = some (.tbl #[])) → SqL K H a (ns.map V.int) → sp [.ref a] H (fun v _ => v = .bl true) fun _ _ _ => False) (thru : ∀ H e y, CX [] H z (fun _ _ _ => False) e y → False) :
    codeAny (model P w) callerA (.call (.ref fa) ⟨[.ref a], []⟩) (Said2 z) z := by
  have rel := vals_ints nums
  have aT : a ∉ tabsOf cs := fun q => by
    have e := T.at_ q
    rw [ha] at e
    cases (show Data.seq vs.toArray _ = Data.fields #[] from congrArg Obj.data (Option.some.inj e))
  cases hk : K.lookup a with
  | some o =>
    have e := (KX a o hk).symm.trans ha
    cases e
    let H : Hp := fun b => if b ∈ tabsOf cs then some (.tbl #[]) else none
    have h1 : ∀ b, b ∈ tabsOf cs → H b = some (.tbl #[]) := fun b hb => if_pos hb
    have h0 : ∀ b, b ∉ tabsOf cs → H b = none := fun b hb => if_neg hb
    have sq : SqL K H a (ns.map V.int) := .inr ⟨_, vs.toArray, _, hk, rfl, rfl, rfl, by rw [List.size_toArray, nums.length]; exact few, by simpa using rel⟩
    refine end_coreT T KX names bn bns roof still ha room sy G binds thru (H := H) h1 (fun b hb => .inl (h0 b hb)) (want _ h1 sq) (fun b u q => ?_) (fun b q => .inr (Classical.byContradiction fun n => q (h0 b n))) fun q => absurd (h0 a aT) q
    by_cases hb : b ∈ tabsOf cs
    · cases (h1 b hb).symm.trans q
      exact T.at_ hb
    · cases (h0 b hb).symm.trans q
  | none =>
    let H : Hp := fun b => if b = a then some (.frz { cls := .type "list", data := .seq vs.toArray } (.lst (ns.map V.int))) else if b ∈ tabsOf cs then some (.tbl #[]) else none
    have ea : H a = some (.frz { cls := .type "list", data := .seq vs.toArray } (.lst (ns.map V.int))) := if_pos rfl
    have h1 : ∀ b, b ∈ tabsOf cs → H b = some (.tbl #[]) := fun b hb => by
      have n : b ≠ a := fun z => aT (by rw [← z]; exact hb)
      exact (if_neg n).trans (if_pos hb)
    have h0 : ∀ b, b ≠ a → b ∉ tabsOf cs → H b = none := fun b n hb => (if_neg n).trans (if_neg hb)
    refine end_coreT T KX names bn bns roof still ha room sy G binds thru (H := H) h1 (fun b hb => ?_) (want H h1 (.inl (.inr ⟨_, ea⟩))) (fun b u q => ?_) (fun b q => ?_) fun _ => hk
    · by_cases n : b = a
      · exact .inr ⟨_, _, by rw [n]; exact ea⟩
      · exact .inl (h0 b n hb)
    · by_cases n : b = a
      · subst n
        cases ea.symm.trans q
        exact ⟨ha, by rw [List.length_map]; exact few, vs, _, rel, ha⟩
      · by_cases hb : b ∈ tabsOf cs
        · cases (h1 b hb).symm.trans q
          exact T.at_ hb
        · cases (h0 b n hb).symm.trans q
    · by_cases n : b = a
      · exact .inl n
      · exact .inr (Classical.byContradiction fun m => q (h0 b n m))
end
/-- the law's promise, with the tables -/
def spLawT (tabs : List (Addr × Str)) (K : PySem.W.Frag) : Sp := fun vs H Q _ => ∃ (a : Addr) (ns : List Int), vs = [.ref a] ∧ SqL K H a (ns.map V.int) ∧ ns.length ≤ 63 ∧ Tabs tabs H ∧ ∀ H', Q (.bl true) H'
theorem walk_t {l : PySem.W.OpenLaw} {k : Nat} {q : Program} {loose : List Str} {XP : (Str → Option Value) → Heap → Prop} {YP : World → Heap → Prop} {d : DefRec} {K : Params → PySem.W.Frag} {CX : World → CXT} {x : Str}
    (none_in : importsNone q = true) (most : l.most = some 63) (plain : d.params.defaults = []) (room : Room k callerA) (inK : ∀ (w : World) (h : Heap), YP w h → (K w.params).In h)
    (F : ∀ (w : World) (mg : Str → Option Value) (fa : Addr) (h : Heap), (K w.params).In h → h.Ns mainGlobals mg → mg d.name = some (.ref fa) → ∃ (fd : FuncData) (cs : List (Str × Addr × Addr)), (∀ (s : Shared) (u : Value), BindsTo s fd ⟨[u], []⟩ [(x, u)]) ∧
      (∀ p ∈ cs, ((recsOf q).find? fun e => e.name == p.1).isSome = true ∧ PySem.W.tabIn (K w.params) p.1 = some p.2 ∧ (K w.params).lookup p.2.2 = none) ∧
      ∀ base : Heap, (K w.params).In base → base.Ns mainGlobals mg → (∃ o, base.get? sysModules = some o) → (∀ p ∈ cs, TabB base mg p.2.1 p.2.2) → FnG l.prog w (K w.params) mg base (CX w) k fa fd [x] (spLawT (cs.map fun p => (p.2.2, p.1 ++ ".<locals>." ++ "<lambda>")) (K w.params)))
    (thru : ∀ (w : World) (H : Hp) (s : Shared) (e : Value) (y : Shared), CX w [] H s (fun _ _ _ => False) e y → False) : PySem.W.WalkO q loose XP YP l.row.toRowW d [] (fun f vs => PySem.call f vs) := by
  refine Att.attach_call most plain fun w s0 s1 mg mb fa o pm cd doc a vs ns G Y ho hd hcd hmg hobj hints hlen hg => ?_
  have KX := inK w _ Y
  obtain ⟨fd, cs, hb, hT, hF⟩ := F w mg fa _ KX G.T.g hmg
  have known : ∀ p ∈ cs, PySem.W.CodeHd s1.heap p.2.1 p.2.2 ∧ s1.heap.get? p.2.2 = some tabE := fun p hp => by
    obtain ⟨h1, h2, _⟩ := hT p hp
    obtain ⟨dd, hdd⟩ := Option.isSome_iff_exists.mp h1
    exact PySem.W.tab_of G.T KX hdd h2
  have back : ∀ p ∈ cs.map (·.2), ∃ r ∈ cs, r.2 = p := fun p hp => by
    obtain ⟨r, h1, h2⟩ := List.mem_map.mp hp
    exact ⟨r, h1, h2⟩
  have T : TabsZ (K w.params) mg (cs.map (·.2)) s1.heap := ⟨fun p hp => by
      obtain ⟨r, h1, rfl⟩ := back p hp
      exact (known r h1).2, fun p hp => by
      obtain ⟨r, h1, rfl⟩ := back p hp
      exact (hT r h1).2.2, fun p hp => by
      obtain ⟨r, h1, rfl⟩ := back p hp
      exact (known r h1).1, G.T.bmain⟩
  refine end_callT T KX G.T.g G.T.b G.T.builtins G.T.nolimit hg hobj hints (Nat.le_trans hlen (by decide)) room (let ⟨mm, h1, _⟩ := (G.T.seer none_in).mods; ⟨mm, h1⟩) (fun base b1 b2 b3 b4 => hF base b1 b2 b3 fun p hp => b4 _ (List.mem_map_of_mem hp)) hb (fun H hH hS => ⟨a, ns, rfl, hS, hlen, fun p hp => ?_, fun _ => rfl⟩) fun H e y => thru w H s1 e y
  obtain ⟨r, h1, rfl⟩ := List.mem_map.mp hp
  exact .nil (hH _ (List.mem_map.mpr ⟨r.2, List.mem_map_of_mem h1, rfl⟩))
end SM

set_option Elab.async false
set_option linter.all false
set_option maxRecDepth 100000
set_option maxHeartbeats 4000000
namespace SM
open PySem PySem.Spec PyProof.Rows L2 LamX

/-! ### x(lambda: f(..)), x a def that tells the error -/
/-- a def of the text, its code object at c -/
def DefC (K : PySem.W.Frag) (mg : Str → Option Value) (x : Str) (st : Stmt) (ps : List Str) (c : Addr) : Prop := ∃ (f : Addr) (fd : FuncData), Fun K x x st f fd ∧ mg x = some (.ref f) ∧ Binds K fd ps [] ∧ fd.code = .ref c
variable [PW]
variable {xw : XK}
/-- what is known of the lambdas of the def x, its code object at c, its table at P -/
structure LamD (mg : Str → Option Value) (base : Heap) (x : Str) (c P : Addr) : Prop where
  tb : TabB base mg c P
  mine : (P, x ++ ".<locals>." ++ "<lambda>") ∈ PW.tabs
  only : ∀ p ∈ PW.tabs, p.1 = P → p.2 = x ++ ".<locals>." ++ "<lambda>"
theorem LamD.at_ {mg : Str → Option Value} {base : Heap} {x : Str} {c P : Addr} (L : LamD mg base x c P) : P ∈ tbs := List.mem_map.mpr ⟨_, L.mine, rfl⟩
/-- what such a def makes of an error -/
def TAsk (K : PySem.W.Frag) (wd : Exn → Option PyData) : (XK → Hp → VK → Prop) → Hp → VK → Prop := fun tl H Q =>
  tl (fun cls dd H' => ∃ (x : Exn) (M : Mu) (d : PyData), ExnR K H' M cls dd x ∧ wd x = some d ∧ (∀ p, p ∈ M → H' p ≠ none) ∧ ∀ v H2, Same H' H2 → DV K H2 M v d → Q v H2) H fun _ H' => Q .non H'
section
variable {K : PySem.W.Frag} {kt : Str} {ta : TA} {fa : DTP} {n : Nat} {S : SPX} {wd : Exn → Option PyData}
theorem Fuel.beside {H H' : Hp} {a : Addr × Addr} {k : Nat} {P : Addr} (h : Fuel kt H a k) (b : Beside P H H') (t : ∃ ps, H P = some (.tbl ps)) : Fuel kt H' a k := by
  obtain ⟨m, ⟨ns, t1, r, e1, e2, h3⟩, hn⟩ := h
  obtain ⟨ps, hP⟩ := t
  refine ⟨m, ⟨ns, t1, r, b _ _ (fun z => ?_) e1, b _ _ (fun z => ?_) e2, h3⟩, hn⟩
  · rw [z, hP] at e1
    cases e1
  · rw [z, hP] at e2
    cases e2
theorem tab_at {P : Addr} {H : Hp} (hP : P ∈ tbs) (t : Tabs PW.tabs H) : ∃ ps, H P = some (.tbl ps) := by
  obtain ⟨p, hp, rfl⟩ := List.mem_map.mp hP
  obtain ⟨ps, h, _⟩ := t p hp
  exact ⟨ps, h⟩
theorem ab_ask {P : Addr} (hP : P ∈ tbs) (ha : AbsP K kt ta fa) :
    Abs K kt (tAsk PW.tabs P (TAsk K wd) fun E => tCall (liftX K kt n S) [] E ta) fun env k R => fa env k fun ps k1 => ps.length = n ∧ S ps k1 (fun _ k2 => R .none k2) (fun x k2 => ∃ d, wd x = some d ∧ R d k2) := fun F M σ H env k R Q D h q => by
  refine ⟨D.tabs, fun H1 bes T1 => ?_⟩
  have g : Gr F.pen H H1 := ⟨fun b o _ nt e => bes b o (fun z => nt (by rw [z]; exact hP)) e, fun _ => T1⟩
  have fu : ∀ a, F.pen = some a → Fuel kt H1 a k := fun a e => (D.fu a e).beside bes (tab_at hP D.tabs)
  have D1 := D.grow g fu
  refine ha F M σ H1 env k _ _ D1 h fun vs H2 ps k1 a1 g1 f1 ⟨hn, hs⟩ => ?_
  have D2 := D1.grow g1 f1
  show liftX K kt n S (vs ++ []) H2 _ _
  rw [List.append_nil]
  refine ⟨M, F.pen, ps, k1, _, _, D2.trr, a1, hn, fun a e => ⟨D2.sub _ (D2.pn a e).1, D2.sub _ (D2.pn a e).2.1, f1 a e⟩, hs, fun v H' d k' p r => q .non H' .none k' ⟨.non, (g.trans g1).trans p.gr, p.fu⟩ r, fun cls dd H' x k' r gr fu2 b => ?_⟩
  obtain ⟨d, e, hr⟩ := b
  exact ⟨x, M, d, r, e, (D2.grow gr fu2).tr, fun v H3 same dv => q v H3 d k' ⟨dv, ((g.trans g1).trans gr).trans (Gr.of_same same), fun a ea => (fu2 a ea).same same⟩ hr⟩
end
/-! ### defs that make lambdas -/
theorem Fun.code {K : PySem.W.Frag} {x : Str} {st : Stmt} {f : Addr} {fd : FuncData} (F : Fun K x x st f fd) : ∃ (oc : Value) (od : Option Addr) (kV doc pm : Value) (an : Option Addr) (cdv ct : Value) (osl : Array (Option Value)), fd = PySem.W.fnOf x x (defArgs st) (defBody st) (defScope st) .none kV doc pm an cdv ct ∧ K.lookup f = some ⟨oc, od, .func fd, osl⟩ ∧ PySem.W.codeIn K cdv x = true := by
  obtain ⟨oc, od, kV, doc, pm, an, cdv, ct, osl, rfl, lk, cd⟩ := F.ex
  exact ⟨oc, od, kV, doc, pm, an, cdv, ct, osl, rfl, lk, cd⟩
theorem DefC.okS {K : PySem.W.Frag} {kt : Str} {mg : Str → Option Value} {base : Heap} {x : Str} {st : Stmt} {ps N : List Str} {k n : Nat} {Sp : SP} {c : Addr} (D : DefC K mg x st ps c) (S : FnScope N ps (defScope st)) (hn : n = ps.length)
    (hb : ∀ (f : Addr) (A : Around) (outer : List Env) (s : Shared) (H : Hp) (E : XK), Room k (A.deeper (envOfC x (defScope st) s.heap.objs.size f (.ref c))) → NoRepr (A.deeper (envOfC x (defScope st) s.heap.objs.size f (.ref c))) →
      ∃ t g, PSs (cxOf CX0 PW.prog PW.world K mg base N x (defScope st) f (.ref c) A outer s H E).nox (defBody st) t ∧ AbsS XNo K kt t g ∧ ∀ qs j R, qs.length = n → Sp qs j R → g (bodyB R) (env0 N qs) j) : Ok PW.prog PW.world K mg base CX0 x ps (k + 1) (liftS K kt n Sp) := by
  obtain ⟨f, fd, F, g, b, hc⟩ := D
  refine ⟨f, fd, ?_, g, F.kp, b⟩
  obtain ⟨oc, od, kV, doc, pm, an, cdv, ct, osl, rfl, lk, cd⟩ := F.ex
  have hc' : cdv = .ref c := hc
  subst hc'
  refine fng_of lk cd S (fun vs H Q E h => ?_) fun A outer s H vs Q E hr hq h => ?_
  · obtain ⟨M, pen, qs, j, R, _, a, hl, _⟩ := h
    rw [a.length, hl, hn]
  · obtain ⟨t, g, hm, ha, hs⟩ := hb f A outer s H E hr hq
    exact ⟨t, hm.nox, body_ok (E := E) ha hs h⟩
section
variable {X : Cx}
/-- x(lambda: body), x a def that tells the error -/
theorem pe_ask1 {TT : (XK → Hp → VK → Prop) → Hp → VK → Prop} {x n y : Str} {st : Stmt} {c P : Addr} {k : Nat} {Ng : List Str} {params : Arguments} {body : Expr} {scope : Scope} {t : XK → TE} {p lpos pos : Pos}
    (D : Def X.K X.mg x st [n]) (Sg : FnScope Ng [n] (defScope st)) (hG : ∀ (g : Addr) (cdg : Value), Asks X Ng x (defScope st) g cdg (defBody st) n (X.env.qual ++ "<lambda>") (k + 1) TT)
    (L : LamD X.mg X.base y c P) (room : Room (k + 2) X.A) (hbody : ∀ (A1 : Around) (outer : List Env) (z : Shared) (G : Hp) (E : XK) (f a : Addr), A1.guards = X.A.guards → Room k (A1.deeper (lamEnv X scope z.heap.objs.size f a)) → PE (lamCx X A1 outer z G E scope f a) body (t E))
    (sc : LamS X.env.scope scope) (hNg : Ng[0]? = some n) (vis : Vis (defScope st) n) (hg : Gl X x := by rfl) (code : X.env.code = .ref c := by rfl) (hq : X.env.qual ++ "<lambda>" = y ++ ".<locals>." ++ "<lambda>" := by rfl) (nodef : defaultsOf params X.env = ([], []) := by rfl)
    (bind0 : ∀ (q : Str) (cl : List (Str × Addr)) (pm cv ctv : Value), bindArgs (PySem.W.kla_fn "<lambda>" q params body scope cl pm cv ctv) ⟨[], []⟩ = pure [] := by intros; rfl)
    (hdb : (x == ("__debug__" : Str)) = false := by decide) (h1 : (n == ("__debug__" : Str)) = false := by decide) (h2 : (n == ("__classdict__" : Str)) = false := by decide) :
    PE X (.Call (.Name x p) [.Lambda params body scope lpos] [] pos) (tAsk PW.tabs P TT t) := by
  obtain ⟨g, fd, F, gm, b⟩ := D
  obtain ⟨oc, od, kV, doc, pm, an, cdv, ct, osl, rfl, lk, cd⟩ := F.ex
  exact pe_asked hg gm F.kp lk cd b Sg hNg vis (hG g cdv) L.tb code (by rw [hq]; exact L.mine) (fun p hp e => by rw [hq]; exact L.only p hp e) room sc nodef bind0 hbody hdb h1 h2
end
end SM

set_option Elab.async false
set_option linter.all false
set_option maxRecDepth 100000
set_option maxHeartbeats 4000000
namespace SM
open PySem PySem.Spec PyProof.Rows L2
section
variable {X : Cx}
theorem pe_count {o e : Expr} {to te : TE} {apos pos : Pos} (ho : PE X o to) (he : PE X e te) (hs : starEach [e] X.env = [(false, eval e X.env)] := by rfl) (hb : attributeBase o "count" X.env (eval o X.env) = eval o X.env := by rfl) (hl : (apos.endLine == pos.line) = true := by rfl) :
    PE X (.Call (.Attribute o "count" apos) [e] [] pos) (tM1 (fun x xs H Q => ∃ a b, x = .str a ∧ xs = [.str b] ∧ Q (.int (Txt.count a b)) H) to te) :=
  pe_m1 F.slot_str_count F.type_str_count mt_count ho he hs hb hl
end
/-! what is asked of an error, in a suite -/
theorem call_isXk {Y : Cx} {K : PySem.W.Frag} (h : Y.K = K) : CallR Y (.builtin "isinstance") (rIsX K) := by
  subst h
  exact call_isX
theorem call_isXTk {Y : Cx} {K : PySem.W.Frag} (h : Y.K = K) : CallR Y (.builtin "isinstance") (rIsXT K) := by
  subst h
  exact call_isXT
theorem pe_xcFk {Y : Cx} {K : PySem.W.Frag} {e : Expr} {te : TE} {pos : Pos} {f : Str} (h : Y.K = K) (he : PE Y e te) (hb : attributeBase e f Y.env (eval e Y.env) = eval e Y.env := by rfl) : PE Y (.Attribute e f pos) (tXcF K f te) := by
  subst h
  exact pe_xcF he hb
variable [PW]
section
variable {K : PySem.W.Frag} {kt : Str} {te ta tb : TE} {f fa fb : DT}
/-- x.count(t) -/
theorem ab_count {t : Str} (h : Abs K kt te f) : Abs K kt (tM1 (fun x xs H Q => ∃ a b, x = .str a ∧ xs = [.str b] ∧ Q (.int (Txt.count a b)) H) te (tC (.str t))) fun env k R => f env k fun d k1 => ∃ a, d = .str a ∧ R (.int (Txt.count a t)) k1 := fun F M σ H env k R Q D hf q =>
  h F M σ H env k _ _ D hf fun v H' d k' p ⟨a, e, r⟩ => by
    subst e
    obtain ⟨dv, gr, fu⟩ := p
    have ev := str_of dv
    subst ev
    exact ⟨⟨a, rfl⟩, a, t, rfl, rfl, q _ H' _ k' ⟨.int _, gr, fu⟩ r⟩
/-- d.get(e) -/
def get1F : PyData → PyData → Option PyData
  | .dict ds, e => (toKey e).map fun k => (lookD ds k).getD .none
  | _, _ => none
theorem ab_dget1 (ha : Abs K kt ta fa) (hb : Abs K kt tb fb) : Abs K kt (tDGet1 ta tb) fun env k R => fa env k fun d k1 => (∃ ds, d = .dict ds) ∧ fb env k1 fun e k2 => ∃ c, get1F d e = some c ∧ R c k2 := fun F M σ H env k R Q D h q =>
  ha F M σ H env k _ _ D h fun v1 H1 d k1 p1 ⟨⟨ds, ed⟩, h1⟩ => by
    subst ed
    have D1 := D.grow p1.gr p1.fu
    obtain ⟨dv1, gr1, fu1⟩ := p1
    cases dv1 with
    | @dct a kvs _ n e1 al1 =>
      refine ⟨a, rfl, .inl ⟨kvs, .inl e1⟩, hb F M σ H1 env k1 _ _ D1 h1 fun v2 H2 e k2 p2 ⟨c, hc, h2⟩ => ?_⟩
      obtain ⟨k3, hk, rfl⟩ := Option.map_eq_some_iff.mp (show (toKey e).map _ = some c from hc)
      have u := D1.out p2.gr
      have e2 : H2 a = some (.dK kvs) := u a _ n e1
      have al : DKs K H2 M kvs ds := DKs.out u ds al1
      rcases al.look k3 with ⟨z, z2⟩ | ⟨d', v, z, z2, dv'⟩
      · refine ⟨none, .inl ⟨kvs, k3, .inl e2, key_of p2.dv hk, z2.symm⟩, q _ H2 _ k2 ⟨?_, gr1.trans p2.gr, p2.fu⟩ h2⟩
        rw [z]
        exact .non
      · refine ⟨some v, .inl ⟨kvs, k3, .inl e2, key_of p2.dv hk, z2.symm⟩, q _ H2 _ k2 ⟨?_, gr1.trans p2.gr, p2.fu⟩ h2⟩
        rw [z]
        exact dv'
end
end SM

set_option Elab.async false
set_option linter.all false
set_option maxRecDepth 100000
set_option maxHeartbeats 4000000
namespace SM
open PySem PySem.Spec PyProof.Rows L2
def topS (i : Nat) : Stmt := PySem.Challenge.pw_slotmaps_k52_places_as_texts.main.body.getD i (.Pass ⟨0, 0, 0, 0⟩)
/-- the built-in errors above an error class of the text -/
def VEs : List Value := [.type "ValueError", .type "Exception", .type "BaseException", .type "object"]
def clsA (mg : Str → Option Value) (x : Str) : Addr := match mg x with
  | some (.ref C) => C
  | _ => 0
theorem clsA_of {mg : Str → Option Value} {x : Str} {C : Addr} (g : mg x = some (.ref C)) : clsA mg x = C := by
  unfold clsA
  rw [g]
theorem cls_g {mg : Str → Option Value} {x : Str} {C : Addr} (g : mg x = some (.ref C)) : mg x = some (.ref (clsA mg x)) := by rw [clsA_of g, g]
theorem xcls_of {K : PySem.W.Frag} {mg : Str → Option Value} {x : Str} {C : Addr} (g : mg x = some (.ref C)) (k : PySem.W.keepIn K (.ref C) = true) (q : PySem.W.excIn K C VEs "ValueError.__new__" = true) (s : PySem.W.subIn K (.ref C) (.type "BaseException") = some true)
    (t : PySem.W.typeIn K (.ref C) = some (.type "type")) : XCls K mg x (clsA mg x) VEs "ValueError.__new__" := by
  rw [clsA_of g]
  exact ⟨g, k, q, s, t⟩
/-- the written dict LETTERS -/
def lettersW (z : Str) : Option Str := if z = "node" then some "n" else if z = "port" then some "p" else if z = "slot" then some "s" else none
/-- the written dict PARTS -/
def partsW (z : Str) : Option Int := if z = "node" then some 2 else if z = "slot" then some 3 else if z = "edge" then some 4 else none
structure Txt [PW] (K : PySem.W.Frag) (mg : Str → Option Value) : Prop where
  b_len : mg "len" = none
  b_int : mg "int" = none
  b_bool : mg "bool" = none
  b_str : mg "str" = none
  b_tuple : mg "tuple" = none
  b_list : mg "list" = none
  b_isinstance : mg "isinstance" = none
  b_range : mg "range" = none
  b_enumerate : mg "enumerate" = none
  b_all : mg "all" = none
  b_abs : mg "abs" = none
  b_sorted : mg "sorted" = none
  b_repr : mg "repr" = none
  k_MOST_MAPS : ∃ t, mg "MOST_MAPS" = some (.int 8 t)
  k_MOST_PORTS : ∃ t, mg "MOST_PORTS" = some (.int 4 t)
  k_MOST_LABELS : ∃ t, mg "MOST_LABELS" = some (.int 8 t)
  k_MOST_SLOTS : ∃ t, mg "MOST_SLOTS" = some (.int 4 t)
  k_MOST_EDGES : ∃ t, mg "MOST_EDGES" = some (.int 40 t)
  k_MOST_COST : ∃ t, mg "MOST_COST" = some (.int 1000000 t)
  d_LETTERS : mg "LETTERS" = some (.ref (clsA mg "LETTERS"))
  w_LETTERS : ∀ z y, lettersW z = some y → KDct K PW.world (clsA mg "LETTERS") z (.str y) ∧ y.length ≤ 16777216
  x_BadPlace : XCls K mg "BadPlace" (clsA mg "BadPlace") VEs "ValueError.__new__"
  b_min : mg "min" = none
  b_dict : mg "dict" = none
  k_MOST_DIGITS : ∃ t, mg "MOST_DIGITS" = some (.int 60 t)
  k_MOST_INDEXES : ∃ t, mg "MOST_INDEXES" = some (.int 200 t)
section
variable [PW] {K : PySem.W.Frag} {mg : Str → Option Value} {base : Heap} {kt : Str}
abbrev s_is_integer : Stmt := topS 1
theorem sc_is_integer : FnScope ["value"] ["value"] (defScope s_is_integer) := ⟨rfl, rfl, rfl, by decide +kernel, rfl, by decide +kernel, by decide +kernel⟩

def isInteger (d : PyData) : Bool := isInt d && !isBool d
def intG : List PyData → Option PyData
  | [d] => some (.bool (isInteger d))
  | _ => none
abbrev O_is_integer (K : PySem.W.Frag) (mg : Str → Option Value) (base : Heap) (kt : Str) : Prop := Ok PW.prog PW.world K mg base CX0 "is_integer" ["value"] 1 (liftS K kt 1 (pureS intG))
theorem ok_is_integer (T : Txt K mg) (D : Def K mg "is_integer" s_is_integer ["value"]) : O_is_integer K mg base kt := by
  refine D.okS sc_is_integer rfl fun f cdv A outer s H E hr hq => ⟨_, _, (pss_one (ps_ret (pe_and (pe_callB call_isi (by rfl) T.b_isinstance (by decide +kernel) (pa_cons (pv 0) (pa_cons (pe_bltn (v := .ty "int") (by rfl) T.b_int (by decide +kernel) rfl) pa_nil))) (pe_one (pe_not (pe_callB call_isi (by rfl) T.b_isinstance (by decide +kernel) (pa_cons (pv 0) (pa_cons (pe_bltn (v := .ty "bool") (by rfl) T.b_bool (by decide +kernel) rfl) pa_nil)))))))), (as_ret (ab_and (ab_isi is_int (ab_var 0)) (ab_not (ab_isi is_bool (ab_var 0))))), fun qs k R hl h => ?_⟩
  obtain ⟨ds, d, rfl, h1, h2⟩ := pure_in h
  unfold intG at h1
  split at h1 <;> cases h1
  rename_i v
  simp only [bodyB, env0, slA, List.map_cons, List.map_nil, List.cons_append, List.nil_append, List.length_cons, List.length_nil, List.replicate, List.getElem?_cons_zero, List.getElem?_cons_succ, List.set_cons_zero, List.set_cons_succ, Option.some.injEq, Sl.dat.injEq, Sl.own.injEq, PyData.bool.injEq, PyData.int.injEq, PyData.str.injEq, PyData.tuple.injEq, PyData.list.injEq, PyData.dict.injEq, Sl.tab.injEq, List.cons.injEq, exists_eq_left', exists_eq_left, eq_self, decide_true, if_true, reduceIte, Int.reduceLE, pure1, pure2, pure3, pure4, leiF_int, liF_int, giF_int, geiF_int, addF_int, subF_int, eqEF_nil, neF_int, eqF_int, lenF_str, lenF_list, lenF_tup, wipe0, wipe1, true_and, and_true, frz_list, frz_dict, frz_tup, frz_dat, frz_no, frz_pen, tab_list, tab_dict, Nat.reduceAdd, Nat.reduceSub]
  refine ⟨fun b1 => ?_, fun b1 => ?_⟩
  all_goals simpa [isInteger, b1] using h2
abbrev s_is_integer_in : Stmt := topS 2
theorem sc_is_integer_in : FnScope ["value", "low", "high"] ["value", "low", "high"] (defScope s_is_integer_in) := ⟨rfl, rfl, rfl, by decide +kernel, rfl, by decide +kernel, by decide +kernel⟩

def intIn (d : PyData) (lo hi : Int) : Bool := match d with
  | .int i => decide (lo ≤ i) && decide (i ≤ hi)
  | _ => false
def intInG : List PyData → Option PyData
  | [d, .int lo, .int hi] => some (.bool (intIn d lo hi))
  | _ => none
theorem intIn_not {d : PyData} {lo hi : Int} (h : isInteger d = false) : intIn d lo hi = false := by
  cases d <;> first | rfl | (cases h; done)
theorem int_is {d : PyData} (h : isInteger d = true) : ∃ i, d = .int i := by
  cases d <;> first | exact ⟨_, rfl⟩ | (cases h; done)
abbrev O_is_integer_in (K : PySem.W.Frag) (mg : Str → Option Value) (base : Heap) (kt : Str) : Prop := Ok PW.prog PW.world K mg base CX0 "is_integer_in" ["value", "low", "high"] 2 (liftS K kt 3 (pureS intInG))
theorem ok_is_integer_in (T : Txt K mg) (D : Def K mg "is_integer_in" s_is_integer_in ["value", "low", "high"]) (O1 : O_is_integer K mg base kt) : O_is_integer_in K mg base kt := by
  obtain ⟨f_is_integer, fd_is_integer, G_is_integer, g_is_integer, k_is_integer, b_is_integer⟩ := O1
  refine D.okS sc_is_integer_in rfl fun f cdv A outer s H E hr hq => ⟨_, _, (pss_one (ps_ret (pe_and (pe_callG G_is_integer (hr.mono (by omega)) hq (by rfl) g_is_integer k_is_integer b_is_integer pass0 (pa_cons (pv 0) pa_nil)) (pe_one (pe_chain op_le op_le (pv 1) (pv 0) (pv 2)))))), (as_ret (ab_and (ab_call (ap_cons (ab_var 0) ap_nil)) (ab_chain oa_lei oa_lei (ab_var 1) (ab_var 0) (ab_var 2)))), fun qs k R hl h => ?_⟩
  obtain ⟨ds, d, rfl, h1, h2⟩ := pure_in h
  unfold intInG at h1
  split at h1 <;> cases h1
  rename_i v lo hi
  simp only [bodyB, env0, slA, List.map_cons, List.map_nil, List.cons_append, List.nil_append, List.length_cons, List.length_nil, List.replicate, List.getElem?_cons_zero, List.getElem?_cons_succ, List.set_cons_zero, List.set_cons_succ, Option.some.injEq, Sl.dat.injEq, Sl.own.injEq, PyData.bool.injEq, PyData.int.injEq, PyData.str.injEq, PyData.tuple.injEq, PyData.list.injEq, PyData.dict.injEq, Sl.tab.injEq, List.cons.injEq, exists_eq_left', exists_eq_left, eq_self, decide_true, if_true, reduceIte, Int.reduceLE, pure1, pure2, pure3, pure4, leiF_int, liF_int, giF_int, geiF_int, addF_int, subF_int, eqEF_nil, neF_int, eqF_int, lenF_str, lenF_list, lenF_tup, wipe0, wipe1, true_and, and_true, frz_list, frz_dict, frz_tup, frz_dat, frz_no, frz_pen, tab_list, tab_dict, Nat.reduceAdd, Nat.reduceSub, intG]
  refine ⟨fun b1 => ?_, fun b1 => ?_⟩
  · obtain ⟨i, rfl⟩ := int_is b1
    simp only [bodyB, env0, slA, List.map_cons, List.map_nil, List.cons_append, List.nil_append, List.length_cons, List.length_nil, List.replicate, List.getElem?_cons_zero, List.getElem?_cons_succ, List.set_cons_zero, List.set_cons_succ, Option.some.injEq, Sl.dat.injEq, Sl.own.injEq, PyData.bool.injEq, PyData.int.injEq, PyData.str.injEq, PyData.tuple.injEq, PyData.list.injEq, PyData.dict.injEq, Sl.tab.injEq, List.cons.injEq, exists_eq_left', exists_eq_left, eq_self, decide_true, if_true, reduceIte, Int.reduceLE, pure1, pure2, pure3, pure4, leiF_int, liF_int, giF_int, geiF_int, addF_int, subF_int, eqEF_nil, neF_int, eqF_int, lenF_str, lenF_list, lenF_tup, wipe0, wipe1, true_and, and_true, frz_list, frz_dict, frz_tup, frz_dat, frz_no, frz_pen, tab_list, tab_dict, Nat.reduceAdd, Nat.reduceSub]
    refine ⟨fun b2 => ?_, fun b2 => ?_⟩
    all_goals simpa [intIn, b2] using h2
  · rw [intIn_not b1] at h2
    exact h2
abbrev s_is_tuple : Stmt := topS 5
theorem sc_is_tuple : FnScope ["value", "low", "high"] ["value", "low", "high"] (defScope s_is_tuple) := ⟨rfl, rfl, rfl, by decide +kernel, rfl, by decide +kernel, by decide +kernel⟩

def tupIn (d : PyData) (lo hi : Int) : Bool := match d with
  | .tuple xs => decide (lo ≤ xs.length) && decide (xs.length ≤ hi)
  | _ => false
def tupG : List PyData → Option PyData
  | [d, .int lo, .int hi] => some (.bool (tupIn d lo hi))
  | _ => none
abbrev O_is_tuple (K : PySem.W.Frag) (mg : Str → Option Value) (base : Heap) (kt : Str) : Prop := Ok PW.prog PW.world K mg base CX0 "is_tuple" ["value", "low", "high"] 1 (liftS K kt 3 (pureS tupG))
theorem ok_is_tuple (T : Txt K mg) (D : Def K mg "is_tuple" s_is_tuple ["value", "low", "high"]) : O_is_tuple K mg base kt := by
  refine D.okS sc_is_tuple rfl fun f cdv A outer s H E hr hq => ⟨_, _, (pss_one (ps_ret (pe_and (pe_callB call_isi (by rfl) T.b_isinstance (by decide +kernel) (pa_cons (pv 0) (pa_cons (pe_bltn (v := .ty "tuple") (by rfl) T.b_tuple (by decide +kernel) rfl) pa_nil))) (pe_one (pe_chain op_le op_le (pv 1) (pe_callB call_len (by rfl) T.b_len (by decide +kernel) (pa_cons (pv 0) pa_nil)) (pv 2)))))), (as_ret (ab_and (ab_isi is_tup (ab_var 0)) (ab_chain oa_lei oa_lei (ab_var 1) (ab_callB ca_len (ab_acons (ab_var 0) ab_anil)) (ab_var 2)))), fun qs k R hl h => ?_⟩
  obtain ⟨ds, d, rfl, h1, h2⟩ := pure_in h
  unfold tupG at h1
  split at h1 <;> cases h1
  rename_i v lo hi
  simp only [bodyB, env0, slA, List.map_cons, List.map_nil, List.cons_append, List.nil_append, List.length_cons, List.length_nil, List.replicate, List.getElem?_cons_zero, List.getElem?_cons_succ, List.set_cons_zero, List.set_cons_succ, Option.some.injEq, Sl.dat.injEq, Sl.own.injEq, PyData.bool.injEq, PyData.int.injEq, PyData.str.injEq, PyData.tuple.injEq, PyData.list.injEq, PyData.dict.injEq, Sl.tab.injEq, List.cons.injEq, exists_eq_left', exists_eq_left, eq_self, decide_true, if_true, reduceIte, Int.reduceLE, pure1, pure2, pure3, pure4, leiF_int, liF_int, giF_int, geiF_int, addF_int, subF_int, eqEF_nil, neF_int, eqF_int, lenF_str, lenF_list, lenF_tup, wipe0, wipe1, true_and, and_true, frz_list, frz_dict, frz_tup, frz_dat, frz_no, frz_pen, tab_list, tab_dict, Nat.reduceAdd, Nat.reduceSub]
  refine ⟨fun b1 => ?_, fun b1 => ?_⟩
  · cases v <;> first | (cases b1; done) | skip
    simp only [bodyB, env0, slA, List.map_cons, List.map_nil, List.cons_append, List.nil_append, List.length_cons, List.length_nil, List.replicate, List.getElem?_cons_zero, List.getElem?_cons_succ, List.set_cons_zero, List.set_cons_succ, Option.some.injEq, Sl.dat.injEq, Sl.own.injEq, PyData.bool.injEq, PyData.int.injEq, PyData.str.injEq, PyData.tuple.injEq, PyData.list.injEq, PyData.dict.injEq, Sl.tab.injEq, List.cons.injEq, exists_eq_left', exists_eq_left, eq_self, decide_true, if_true, reduceIte, Int.reduceLE, pure1, pure2, pure3, pure4, leiF_int, liF_int, giF_int, geiF_int, addF_int, subF_int, eqEF_nil, neF_int, eqF_int, lenF_str, lenF_list, lenF_tup, wipe0, wipe1, true_and, and_true, frz_list, frz_dict, frz_tup, frz_dat, frz_no, frz_pen, tab_list, tab_dict, Nat.reduceAdd, Nat.reduceSub]
    refine ⟨fun b2 => ?_, fun b2 => ?_⟩
    all_goals simpa [tupIn, b2] using h2
  · cases v <;> first | (cases b1; done) | exact h2
abbrev s_is_index : Stmt := topS 4
theorem sc_is_index : FnScope ["value", "many"] ["value", "many"] (defScope s_is_index) := ⟨rfl, rfl, rfl, by decide +kernel, rfl, by decide +kernel, by decide +kernel⟩

def idxG : List PyData → Option PyData
  | [d, .int n] => some (.bool (intIn d 0 (n - 1)))
  | _ => none
abbrev O_is_index (K : PySem.W.Frag) (mg : Str → Option Value) (base : Heap) (kt : Str) : Prop := Ok PW.prog PW.world K mg base CX0 "is_index" ["value", "many"] 3 (liftS K kt 2 (pureS idxG))
theorem ok_is_index (T : Txt K mg) (D : Def K mg "is_index" s_is_index ["value", "many"]) : O_is_index K mg base kt := by
  refine D.okS sc_is_index rfl fun f cdv A outer s H E hr hq => ⟨_, _, (pss_one (ps_ret (pe_and (pe_callB call_isi (by rfl) T.b_isinstance (by decide +kernel) (pa_cons (pv 0) (pa_cons (pe_bltn (v := .ty "int") (by rfl) T.b_int (by decide +kernel) rfl) pa_nil))) (pe_and (pe_not (pe_callB call_isi (by rfl) T.b_isinstance (by decide +kernel) (pa_cons (pv 0) (pa_cons (pe_bltn (v := .ty "bool") (by rfl) T.b_bool (by decide +kernel) rfl) pa_nil)))) (pe_one (pe_chain op_le op_lt pe_int (pv 0) (pv 1))))))), (as_ret (ab_and (ab_isi is_int (ab_var 0)) (ab_and (ab_not (ab_isi is_bool (ab_var 0))) (ab_chain oa_lei oa_li (ab_int _) (ab_var 0) (ab_var 1))))), fun qs k R hl h => ?_⟩
  obtain ⟨ds, d, rfl, h1, h2⟩ := pure_in h
  unfold idxG at h1
  split at h1 <;> cases h1
  rename_i v n
  simp only [bodyB, env0, slA, List.map_cons, List.map_nil, List.cons_append, List.nil_append, List.length_cons, List.length_nil, List.replicate, List.getElem?_cons_zero, List.getElem?_cons_succ, List.set_cons_zero, List.set_cons_succ, Option.some.injEq, Sl.dat.injEq, Sl.own.injEq, PyData.bool.injEq, PyData.int.injEq, PyData.str.injEq, PyData.tuple.injEq, PyData.list.injEq, PyData.dict.injEq, Sl.tab.injEq, List.cons.injEq, exists_eq_left', exists_eq_left, eq_self, decide_true, if_true, reduceIte, Int.reduceLE, pure1, pure2, pure3, pure4, leiF_int, liF_int, giF_int, geiF_int, addF_int, subF_int, eqEF_nil, neF_int, eqF_int, lenF_str, lenF_list, lenF_tup, wipe0, wipe1, true_and, and_true, frz_list, frz_dict, frz_tup, frz_dat, frz_no, frz_pen, tab_list, tab_dict, Nat.reduceAdd, Nat.reduceSub]
  refine ⟨fun b1 => ⟨fun b0 => ?_, fun b0 => ?_⟩, fun b1 => ?_⟩
  · cases v <;> first | (cases b1; done) | (cases b0; done) | skip
    rename_i i
    have e : intIn (.int i) 0 (n - 1) = (decide ((0 : Int) ≤ i) && decide (i < n)) := by
      show (decide ((0 : Int) ≤ i) && decide (i ≤ n - 1)) = _
      rw [decide_eq_decide.mpr (show (i ≤ n - 1) ↔ (i < n) from ⟨fun h => by omega, fun h => by omega⟩)]
    rw [e] at h2
    simp only [bodyB, env0, slA, List.map_cons, List.map_nil, List.cons_append, List.nil_append, List.length_cons, List.length_nil, List.replicate, List.getElem?_cons_zero, List.getElem?_cons_succ, List.set_cons_zero, List.set_cons_succ, Option.some.injEq, Sl.dat.injEq, Sl.own.injEq, PyData.bool.injEq, PyData.int.injEq, PyData.str.injEq, PyData.tuple.injEq, PyData.list.injEq, PyData.dict.injEq, Sl.tab.injEq, List.cons.injEq, exists_eq_left', exists_eq_left, eq_self, decide_true, if_true, reduceIte, Int.reduceLE, pure1, pure2, pure3, pure4, leiF_int, liF_int, giF_int, geiF_int, addF_int, subF_int, eqEF_nil, neF_int, eqF_int, lenF_str, lenF_list, lenF_tup, wipe0, wipe1, true_and, and_true, frz_list, frz_dict, frz_tup, frz_dat, frz_no, frz_pen, tab_list, tab_dict, Nat.reduceAdd, Nat.reduceSub]
    refine ⟨fun b2 => ?_, fun b2 => ?_⟩
    all_goals simpa [b2] using h2
  · cases v <;> first | (cases b1; done) | (cases b0; done) | exact h2
  · cases v <;> first | (cases b1; done) | exact h2
end
end SM

set_option Elab.async false
set_option linter.all false
set_option maxRecDepth 100000
set_option maxHeartbeats 4000000
namespace SM
open PySem PySem.Spec PyProof.Rows L2
section
variable [PW] {K : PySem.W.Frag} {mg : Str → Option Value} {base : Heap} {kt : Str}
abbrev s_is_name : Stmt := topS 6
theorem sc_is_name : FnScope ["value", "sign"] ["value"] (defScope s_is_name) := ⟨rfl, rfl, rfl, by decide +kernel, rfl, by decide +kernel, by decide +kernel⟩

def letter (c : Nat) : Bool := decide (97 ≤ c) && decide (c ≤ 122)
def signB : PyData → Bool
  | .str z => z.cps.toList.all letter
  | _ => false
def nameB : PyData → Bool
  | .str z => decide (1 ≤ z.length) && decide (z.length ≤ 8) && z.cps.toList.all letter
  | _ => false
def nameG : List PyData → Option PyData
  | [d] => some (.bool (nameB d))
  | _ => none
theorem cps_a : (Str.ofString "a").cps.toList = [97] := by decide +kernel
theorem cps_z : (Str.ofString "z").cps.toList = [122] := by decide +kernel
theorem lt1 (a b : Nat) : decide (([a] : List Nat) < [b]) = decide (a < b) := by
  rw [decide_eq_decide]
  exact lt_one
theorem sign_one (c : Nat) : signB (.str ⟨#[c]⟩) = letter c := by
  show ([c] : List Nat).all letter = letter c
  simp
theorem signs_all (z : Str) : (z.cps.toList.map fun c => PyData.str ⟨#[c]⟩).all signB = z.cps.toList.all letter := by
  rw [List.all_map]
  congr 1
  funext c
  exact sign_one c
abbrev O_is_name (K : PySem.W.Frag) (mg : Str → Option Value) (base : Heap) (kt : Str) : Prop := Ok PW.prog PW.world K mg base CX0 "is_name" ["value"] 1 (liftS K kt 1 (pureS nameG))
theorem ok_is_name (T : Txt K mg) (D : Def K mg "is_name" s_is_name ["value"]) : O_is_name K mg base kt := by
  refine D.okS sc_is_name rfl fun f cdv A outer s H E hr hq => ⟨_, _, (pss_one (ps_ret (pe_and (pe_callB call_isi (by rfl) T.b_isinstance (by decide +kernel) (pa_cons (pv 0) (pa_cons (pe_bltn (v := .ty "str") (by rfl) T.b_str (by decide +kernel) rfl) pa_nil))) (pe_and (pe_chain op_le op_le pe_int (pe_callB call_len (by rfl) T.b_len (by decide +kernel) (pa_cons (pv 0) pa_nil)) pe_int) (pe_one (pe_callB (cr_all (by rfl)) (by rfl) T.b_all (by decide +kernel) (pa_cons (pe_lc (own := [("sign", 1)]) (g := gName 1) (by rfl) sc_is_name.nd (pi_str (pv 0)) (blkOk_by (own := [("sign", 1)]) (N := ["value", "sign"]) (sc := defScope s_is_name) (by decide +kernel)) (fun _ _ _ _ _ => (pg_name (i := 1) sc_is_name.nd rfl (Or.inl rfl))) (fun _ _ _ _ _ => pts_nil) (fun _ _ _ _ _ => (pe_chain (op_leP hr.units) (op_leP hr.units) pe_str (pv 1) pe_str))) pa_nil))))))), (as_ret (ab_and (ab_isi is_str (ab_var 0)) (ab_and (ab_chain oa_lei oa_lei (ab_int _) (ab_callB ca_len (ab_acons (ab_var 0) ab_anil)) (ab_int _)) (ab_callB ca_all (ab_acons ((af_lc (ai_str (ab_var 0)) (ag_name 1 (by decide)) at_yes (ab_chain oa_leP oa_leP (ab_str _ (by decide +kernel)) (ab_var 1) (ab_str _ (by decide +kernel))))).ab ab_anil))))), fun qs k R hl h => ?_⟩
  obtain ⟨ds, d, rfl, h1, h2⟩ := pure_in h
  unfold nameG at h1
  split at h1 <;> cases h1
  rename_i v
  simp only [bodyB, env0, slA, List.map_cons, List.map_nil, List.cons_append, List.nil_append, List.length_cons, List.length_nil, List.replicate, List.getElem?_cons_zero, List.getElem?_cons_succ, List.set_cons_zero, List.set_cons_succ, Option.some.injEq, Sl.dat.injEq, Sl.own.injEq, PyData.bool.injEq, PyData.int.injEq, PyData.str.injEq, PyData.tuple.injEq, PyData.list.injEq, PyData.dict.injEq, Sl.tab.injEq, List.cons.injEq, exists_eq_left', exists_eq_left, eq_self, decide_true, if_true, reduceIte, Int.reduceLE, pure1, pure2, pure3, pure4, leiF_int, liF_int, giF_int, geiF_int, addF_int, subF_int, eqEF_nil, neF_int, eqF_int, lenF_str, lenF_list, lenF_tup, wipe0, wipe1, true_and, and_true, frz_list, frz_dict, frz_tup, frz_dat, frz_no, frz_pen, tab_list, tab_dict, Nat.reduceAdd, Nat.reduceSub]
  refine ⟨fun b1 => ?_, fun b1 => ?_⟩
  · cases v <;> first | (cases b1; done) | skip
    rename_i z
    have no : decide (1 ≤ z.length) = false ∨ decide (z.length ≤ 8) = false → nameB (.str z) = false := fun q => by
      rcases q with q | q <;> simp [nameB, q]
    simp only [bodyB, env0, slA, List.map_cons, List.map_nil, List.cons_append, List.nil_append, List.length_cons, List.length_nil, List.replicate, List.getElem?_cons_zero, List.getElem?_cons_succ, List.set_cons_zero, List.set_cons_succ, Option.some.injEq, Sl.dat.injEq, Sl.own.injEq, PyData.bool.injEq, PyData.int.injEq, PyData.str.injEq, PyData.tuple.injEq, PyData.list.injEq, PyData.dict.injEq, Sl.tab.injEq, List.cons.injEq, exists_eq_left', exists_eq_left, eq_self, decide_true, if_true, reduceIte, Int.reduceLE, pure1, pure2, pure3, pure4, leiF_int, liF_int, giF_int, geiF_int, addF_int, subF_int, eqEF_nil, neF_int, eqF_int, lenF_str, lenF_list, lenF_tup, wipe0, wipe1, true_and, and_true, frz_list, frz_dict, frz_tup, frz_dat, frz_no, frz_pen, tab_list, tab_dict, Nat.reduceAdd, Nat.reduceSub]
    refine ⟨fun b2 => ⟨fun b3 => ⟨?_, ?_⟩, fun b3 => ?_⟩, fun b2 => ?_⟩
    · rw [List.length_map, Array.length_toList]
      have e : z.cps.size = z.length := rfl
      have := of_decide_eq_true b3
      omega
    · refine comp_pure (fun _ => true) (fun d => .bool (signB d)) (fun d hd k T N hT hN => ?_) ?_
      · obtain ⟨c, hc, rfl⟩ := mem_signs hd
        simp only [bodyB, env0, slA, List.map_cons, List.map_nil, List.cons_append, List.nil_append, List.length_cons, List.length_nil, List.replicate, List.getElem?_cons_zero, List.getElem?_cons_succ, List.set_cons_zero, List.set_cons_succ, Option.some.injEq, Sl.dat.injEq, Sl.own.injEq, PyData.bool.injEq, PyData.int.injEq, PyData.str.injEq, PyData.tuple.injEq, PyData.list.injEq, PyData.dict.injEq, Sl.tab.injEq, List.cons.injEq, exists_eq_left', exists_eq_left, eq_self, decide_true, if_true, reduceIte, Int.reduceLE, pure1, pure2, pure3, pure4, leiF_int, liF_int, giF_int, geiF_int, addF_int, subF_int, eqEF_nil, neF_int, eqF_int, lenF_str, lenF_list, lenF_tup, wipe0, wipe1, true_and, and_true, frz_list, frz_dict, frz_tup, frz_dat, frz_no, frz_pen, tab_list, tab_dict, Nat.reduceAdd, Nat.reduceSub, leF_str, cps_a, cps_z, lt1]
        have q := hT rfl
        rw [sign_one] at q
        refine ⟨fun _ => ⟨fun q1 => ?_, fun q1 => ?_⟩, fun q => by cases q⟩
        all_goals
          simp only [Bool.not_eq_true', Bool.not_eq_false', decide_eq_false_iff_not, decide_eq_true_eq] at q1
        · have e : letter c = !decide (122 < c) := by
            unfold letter
            rw [decide_eq_true (show 97 ≤ c by omega), Bool.true_and, ← decide_not, decide_eq_decide]
            omega
          rw [← e]
          exact q
        · have e : letter c = false := by
            unfold letter
            rw [decide_eq_false (show ¬ 97 ≤ c by omega), Bool.false_and]
          rw [← e]
          exact q
      · rw [List.nil_append, filter_yes, allF_map, signs_all]
        refine ⟨_, rfl, ?_⟩
        have e : nameB (.str z) = z.cps.toList.all letter := by
          have h1 : 1 ≤ z.length := by have := of_decide_eq_true b2; omega
          have h2 : z.length ≤ 8 := by have := of_decide_eq_true b3; omega
          show (decide (1 ≤ z.length) && decide (z.length ≤ 8) && _) = _
          rw [decide_eq_true h1, decide_eq_true h2] <;> rfl
        rw [← e]
        exact h2
    · rw [no (.inr (decide_eq_false (by have := of_decide_eq_false b3; omega)))] at h2
      exact h2
    · rw [no (.inl (decide_eq_false (by have := of_decide_eq_false b2; omega)))] at h2
      exact ⟨fun q => absurd q Bool.false_ne_true, fun _ => h2⟩
  · cases v <;> first | (cases b1; done) | exact h2
abbrev s_is_names : Stmt := topS 7
theorem sc_is_names : FnScope ["value", "most", "item"] ["value", "most"] (defScope s_is_names) := ⟨rfl, rfl, rfl, by decide +kernel, rfl, by decide +kernel, by decide +kernel⟩

def namesB (n : Int) : PyData → Bool
  | .tuple xs => decide (xs.length ≤ n) && xs.all nameB
  | _ => false
def namesG : List PyData → Option PyData
  | [d, .int n] => if n ≤ 1000 then some (.bool (namesB n d)) else none
  | _ => none
abbrev O_is_names (K : PySem.W.Frag) (mg : Str → Option Value) (base : Heap) (kt : Str) : Prop := Ok PW.prog PW.world K mg base CX0 "is_names" ["value", "most"] 2 (liftS K kt 2 (pureS namesG))
theorem ok_is_names (T : Txt K mg) (D : Def K mg "is_names" s_is_names ["value", "most"]) (O1 : O_is_tuple K mg base kt) (O2 : O_is_name K mg base kt) : O_is_names K mg base kt := by
  obtain ⟨f_is_tuple, fd_is_tuple, G_is_tuple, g_is_tuple, k_is_tuple, b_is_tuple⟩ := O1
  obtain ⟨f_is_name, fd_is_name, G_is_name, g_is_name, k_is_name, b_is_name⟩ := O2
  refine D.okS sc_is_names rfl fun f cdv A outer s H E hr hq => ⟨_, _, (pss_one (ps_ret (pe_and (pe_callG G_is_tuple (hr.mono (by omega)) hq (by rfl) g_is_tuple k_is_tuple b_is_tuple pass0 (pa_cons (pv 0) (pa_cons pe_int (pa_cons (pv 1) pa_nil)))) (pe_one (pe_callB (cr_all (by rfl)) (by rfl) T.b_all (by decide +kernel) (pa_cons (pe_lc (own := [("item", 2)]) (g := gName 2) (by rfl) sc_is_names.nd (pi_tup (pv 0)) (blkOk_by (own := [("item", 2)]) (N := ["value", "most", "item"]) (sc := defScope s_is_names) (by decide +kernel)) (fun _ _ _ _ _ => (pg_name (i := 2) sc_is_names.nd rfl (Or.inl rfl))) (fun _ _ _ _ _ => pts_nil) (fun _ _ _ _ _ => (pe_callG G_is_name (hr.mono (by omega)) hq (by rfl) g_is_name k_is_name b_is_name pass0 (pa_cons (pv 2) pa_nil)))) pa_nil)))))), (as_ret (ab_and (ab_call (ap_cons (ab_var 0) (ap_cons (ab_int _) (ap_cons (ab_var 1) ap_nil)))) (ab_callB ca_all (ab_acons ((af_lc (ai_tup (ab_var 0)) (ag_name 2 (by decide)) at_yes (ab_call (ap_cons (ab_var 2) ap_nil)))).ab ab_anil)))), fun qs k R hl h => ?_⟩
  obtain ⟨ds, d, rfl, h1, h2⟩ := pure_in h
  unfold namesG at h1
  split at h1
  · rename_i v n
    by_cases hn : n ≤ 1000
    · rw [if_pos hn] at h1
      cases h1
      simp only [bodyB, env0, slA, List.map_cons, List.map_nil, List.cons_append, List.nil_append, List.length_cons, List.length_nil, List.replicate, List.getElem?_cons_zero, List.getElem?_cons_succ, List.set_cons_zero, List.set_cons_succ, Option.some.injEq, Sl.dat.injEq, Sl.own.injEq, PyData.bool.injEq, PyData.int.injEq, PyData.str.injEq, PyData.tuple.injEq, PyData.list.injEq, PyData.dict.injEq, Sl.tab.injEq, List.cons.injEq, exists_eq_left', exists_eq_left, eq_self, decide_true, if_true, reduceIte, Int.reduceLE, pure1, pure2, pure3, pure4, leiF_int, liF_int, giF_int, geiF_int, addF_int, subF_int, eqEF_nil, neF_int, eqF_int, lenF_str, lenF_list, lenF_tup, wipe0, wipe1, true_and, and_true, frz_list, frz_dict, frz_tup, frz_dat, frz_no, frz_pen, tab_list, tab_dict, Nat.reduceAdd, Nat.reduceSub, tupG]
      refine ⟨fun b1 => ?_, fun b1 => ?_⟩
      · cases v <;> first | (cases b1; done) | skip
        rename_i xs
        simp only [bodyB, env0, slA, List.map_cons, List.map_nil, List.cons_append, List.nil_append, List.length_cons, List.length_nil, List.replicate, List.getElem?_cons_zero, List.getElem?_cons_succ, List.set_cons_zero, List.set_cons_succ, Option.some.injEq, Sl.dat.injEq, Sl.own.injEq, PyData.bool.injEq, PyData.int.injEq, PyData.str.injEq, PyData.tuple.injEq, PyData.list.injEq, PyData.dict.injEq, Sl.tab.injEq, List.cons.injEq, exists_eq_left', exists_eq_left, eq_self, decide_true, if_true, reduceIte, Int.reduceLE, pure1, pure2, pure3, pure4, leiF_int, liF_int, giF_int, geiF_int, addF_int, subF_int, eqEF_nil, neF_int, eqF_int, lenF_str, lenF_list, lenF_tup, wipe0, wipe1, true_and, and_true, frz_list, frz_dict, frz_tup, frz_dat, frz_no, frz_pen, tab_list, tab_dict, Nat.reduceAdd, Nat.reduceSub]
        simp only [tupIn, Bool.and_eq_true, decide_eq_true_eq] at b1
        refine ⟨by omega, ?_⟩
        refine comp_pure (fun _ => true) (fun d => .bool (nameB d)) (fun d hd k T N hT hN => ?_) ?_
        · simp only [bodyB, env0, slA, List.map_cons, List.map_nil, List.cons_append, List.nil_append, List.length_cons, List.length_nil, List.replicate, List.getElem?_cons_zero, List.getElem?_cons_succ, List.set_cons_zero, List.set_cons_succ, Option.some.injEq, Sl.dat.injEq, Sl.own.injEq, PyData.bool.injEq, PyData.int.injEq, PyData.str.injEq, PyData.tuple.injEq, PyData.list.injEq, PyData.dict.injEq, Sl.tab.injEq, List.cons.injEq, exists_eq_left', exists_eq_left, eq_self, decide_true, if_true, reduceIte, Int.reduceLE, pure1, pure2, pure3, pure4, leiF_int, liF_int, giF_int, geiF_int, addF_int, subF_int, eqEF_nil, neF_int, eqF_int, lenF_str, lenF_list, lenF_tup, wipe0, wipe1, true_and, and_true, frz_list, frz_dict, frz_tup, frz_dat, frz_no, frz_pen, tab_list, tab_dict, Nat.reduceAdd, Nat.reduceSub, nameG]
          exact ⟨fun _ => hT rfl, fun q => by cases q⟩
        · rw [List.nil_append, filter_yes, allF_map]
          refine ⟨_, rfl, ?_⟩
          have e : xs.all nameB = namesB n (.tuple xs) := by
            show _ = (decide ((xs.length : Int) ≤ n) && xs.all nameB)
            rw [decide_eq_true b1.2, Bool.true_and]
          rw [e]
          exact h2
      · have e : namesB n v = false := by
          cases v <;> first | rfl | skip
          rename_i xs
          simp only [tupIn, Bool.and_eq_false_iff, decide_eq_false_iff_not] at b1
          show (decide ((xs.length : Int) ≤ n) && xs.all nameB) = false
          rw [decide_eq_false (by omega), Bool.false_and]
        rw [e] at h2
        exact h2
    · rw [if_neg hn] at h1
      cases h1
  · cases h1
end
end SM

set_option Elab.async false
set_option linter.all false
set_option maxRecDepth 100000
set_option maxHeartbeats 4000000
namespace SM
open PySem PySem.Spec PyProof.Rows L2
section
variable [PW] {K : PySem.W.Frag} {mg : Str → Option Value} {base : Heap} {kt : Str}
abbrev s_has_map_form : Stmt := topS 25
theorem sc_has_map_form : FnScope ["value", "name", "ports", "labels", "slots", "_"] ["value"] (defScope s_has_map_form) := ⟨rfl, rfl, rfl, by decide +kernel, rfl, by decide +kernel, by decide +kernel⟩

def headB : PyData → Bool
  | .tuple [n, p, l, s, _] => nameB n && intIn p 1 4 && namesB 8 l && namesB 4 s
  | _ => false
def headG : List PyData → Option PyData
  | [d] => some (.bool (headB d))
  | _ => none
abbrev O_has_map_form (K : PySem.W.Frag) (mg : Str → Option Value) (base : Heap) (kt : Str) : Prop := Ok PW.prog PW.world K mg base CX0 "has_map_form" ["value"] 3 (liftS K kt 1 (pureS headG))
theorem five {xs : List PyData} (h : tupIn (.tuple xs) 5 5 = true) : ∃ a b c d e, xs = [a, b, c, d, e] := by
  have hl : xs.length = 5 := by
    simp only [tupIn, Bool.and_eq_true, decide_eq_true_eq] at h
    omega
  match xs, hl with
  | [a, b, c, d, e], _ => exact ⟨a, b, c, d, e, rfl⟩
theorem ok_has_map_form (T : Txt K mg) (D : Def K mg "has_map_form" s_has_map_form ["value"]) (O1 : O_is_tuple K mg base kt) (O2 : O_is_name K mg base kt) (O3 : O_is_names K mg base kt) (O4 : O_is_integer_in K mg base kt) : O_has_map_form K mg base kt := by
  obtain ⟨f_is_tuple, fd_is_tuple, G_is_tuple, g_is_tuple, k_is_tuple, b_is_tuple⟩ := O1
  obtain ⟨f_is_name, fd_is_name, G_is_name, g_is_name, k_is_name, b_is_name⟩ := O2
  obtain ⟨f_is_names, fd_is_names, G_is_names, g_is_names, k_is_names, b_is_names⟩ := O3
  obtain ⟨f_is_integer_in, fd_is_integer_in, G_is_integer_in, g_is_integer_in, k_is_integer_in, b_is_integer_in⟩ := O4
  refine D.okS sc_has_map_form rfl fun f cdv A outer s H E hr hq => ⟨_, _, (pss_cons (ps_if (pt_not (pt_val (pe_callG G_is_tuple (hr.mono (by omega)) hq (by rfl) g_is_tuple k_is_tuple b_is_tuple pass0 (pa_cons (pv 0) (pa_cons pe_int (pa_cons pe_int pa_nil)))))) (pss_one (ps_ret pe_bl)) pss_nil)
      (pss_cons (ps_asg (pv 0) (pg_tup (n := 5) (by rfl) (pgs_cons (pg_name (i := 1) sc_has_map_form.nd rfl (Or.inl rfl)) (pgs_cons (pg_name (i := 2) sc_has_map_form.nd rfl (Or.inl rfl)) (pgs_cons (pg_name (i := 3) sc_has_map_form.nd rfl (Or.inl rfl)) (pgs_cons (pg_name (i := 4) sc_has_map_form.nd rfl (Or.inl rfl)) (pgs_cons (pg_name (i := 5) sc_has_map_form.nd rfl (Or.inl rfl)) pgs_nil)))))))
      (pss_one (ps_ret (pe_and (pe_callG G_is_name (hr.mono (by omega)) hq (by rfl) g_is_name k_is_name b_is_name pass0 (pa_cons (pv 1) pa_nil)) (pe_and (pe_callG G_is_integer_in (hr.mono (by omega)) hq (by rfl) g_is_integer_in k_is_integer_in b_is_integer_in pass0 (pa_cons (pv 2) (pa_cons pe_int (pa_cons (pe_glob (v := .int 4) (by rfl) T.k_MOST_PORTS.choose_spec ⟨_, rfl⟩) pa_nil)))) (pe_and (pe_callG G_is_names (hr.mono (by omega)) hq (by rfl) g_is_names k_is_names b_is_names pass0 (pa_cons (pv 3) (pa_cons (pe_glob (v := .int 8) (by rfl) T.k_MOST_LABELS.choose_spec ⟨_, rfl⟩) pa_nil))) (pe_one (pe_callG G_is_names (hr.mono (by omega)) hq (by rfl) g_is_names k_is_names b_is_names pass0 (pa_cons (pv 4) (pa_cons (pe_glob (v := .int 4) (by rfl) T.k_MOST_SLOTS.choose_spec ⟨_, rfl⟩) pa_nil))))))))))), (as_seq (as_if (at_not (at_B (ab_call (ap_cons (ab_var 0) (ap_cons (ab_int _) (ap_cons (ab_int _) ap_nil)))))) (as_ret (ab_bl _)) as_nil)
      (as_seq (as_asg (ws := [1, 2, 3, 4, 5]) (ab_var 0) (ag_tup (ag_cons (ag_name 1 (by decide)) (ag_cons (ag_name 2 (by decide)) (ag_cons (ag_name 3 (by decide)) (ag_cons (ag_name 4 (by decide)) (ag_cons (ag_name 5 (by decide)) ag_nil)))))))
      (as_ret (ab_and (ab_call (ap_cons (ab_var 1) ap_nil)) (ab_and (ab_call (ap_cons (ab_var 2) (ap_cons (ab_int _) (ap_cons (ab_int _) ap_nil)))) (ab_and (ab_call (ap_cons (ab_var 3) (ap_cons (ab_int _) ap_nil))) (ab_call (ap_cons (ab_var 4) (ap_cons (ab_int _) ap_nil))))))))), fun qs k R hl h => ?_⟩
  obtain ⟨ds, d, rfl, h1, h2⟩ := pure_in h
  unfold headG at h1
  split at h1 <;> cases h1
  rename_i v
  simp only [bodyB, env0, slA, List.map_cons, List.map_nil, List.cons_append, List.nil_append, List.length_cons, List.length_nil, List.replicate, List.getElem?_cons_zero, List.getElem?_cons_succ, List.set_cons_zero, List.set_cons_succ, Option.some.injEq, Sl.dat.injEq, Sl.own.injEq, PyData.bool.injEq, PyData.int.injEq, PyData.str.injEq, PyData.tuple.injEq, PyData.list.injEq, PyData.dict.injEq, Sl.tab.injEq, List.cons.injEq, exists_eq_left', exists_eq_left, eq_self, decide_true, if_true, reduceIte, Int.reduceLE, pure1, pure2, pure3, pure4, leiF_int, liF_int, giF_int, geiF_int, addF_int, subF_int, eqEF_nil, neF_int, eqF_int, lenF_str, lenF_list, lenF_tup, wipe0, wipe1, true_and, and_true, frz_list, frz_dict, frz_tup, frz_dat, frz_no, frz_pen, tab_list, tab_dict, Nat.reduceAdd, Nat.reduceSub, tupG]
  refine ⟨fun b1 => ?_, fun b1 => ?_⟩
  · have e : headB v = false := by
      cases v <;> first | rfl | skip
      rename_i xs
      match xs with
      | [] | [_] | [_, _] | [_, _, _] | [_, _, _, _] | _ :: _ :: _ :: _ :: _ :: _ :: _ => rfl
      | [a, b, c, d, e] => simp [tupIn] at b1
    rw [e] at h2
    exact h2
  · cases v <;> first | (simp [tupIn] at b1; done) | skip
    rename_i xs
    obtain ⟨a, b, c, d, e, rfl⟩ := five (by simpa using b1)
    simp only [bodyB, env0, slA, List.map_cons, List.map_nil, List.cons_append, List.nil_append, List.length_cons, List.length_nil, List.replicate, List.getElem?_cons_zero, List.getElem?_cons_succ, List.set_cons_zero, List.set_cons_succ, Option.some.injEq, Sl.dat.injEq, Sl.own.injEq, PyData.bool.injEq, PyData.int.injEq, PyData.str.injEq, PyData.tuple.injEq, PyData.list.injEq, PyData.dict.injEq, Sl.tab.injEq, List.cons.injEq, exists_eq_left', exists_eq_left, eq_self, decide_true, if_true, reduceIte, Int.reduceLE, pure1, pure2, pure3, pure4, leiF_int, liF_int, giF_int, geiF_int, addF_int, subF_int, eqEF_nil, neF_int, eqF_int, lenF_str, lenF_list, lenF_tup, wipe0, wipe1, true_and, and_true, frz_list, frz_dict, frz_tup, frz_dat, frz_no, frz_pen, tab_list, tab_dict, Nat.reduceAdd, Nat.reduceSub, nameG, intInG, namesG]
    have e2 : headB (.tuple [a, b, c, d, e]) = (nameB a && intIn b 1 4 && namesB 8 c && namesB 4 d) := rfl
    rw [e2] at h2
    refine ⟨fun q1 => ⟨fun q2 => ⟨fun q3 => ?_, fun q3 => ?_⟩, fun q2 => ?_⟩, fun q1 => ?_⟩
    · rw [q1, q2, q3, Bool.true_and, Bool.true_and, Bool.true_and] at h2
      exact h2
    · rw [q3, Bool.and_false, Bool.false_and] at h2
      exact h2
    · rw [q2, Bool.and_false, Bool.false_and, Bool.false_and] at h2
      exact h2
    · rw [q1, Bool.false_and, Bool.false_and, Bool.false_and] at h2
      exact h2
abbrev s_map_fault : Stmt := topS 24
theorem sc_map_fault : FnScope ["items", "before", "k", "item"] ["items"] (defScope s_map_fault) := ⟨rfl, rfl, rfl, by decide +kernel, rfl, by decide +kernel, by decide +kernel⟩

def firstD : PyData → PyData
  | .tuple (n :: _) => n
  | _ => .none
def mapAt : Nat → PyData → List PyData → PyData
  | _, _, [] => .none
  | k, b, d :: r => if (!headB d || !PySem.W.dataLt b (firstD d)) = true then .tuple [.str "map", .int (k : Nat)] else mapAt (k + 1) (firstD d) r
def mapG : List PyData → Option PyData
  | [.tuple ds] => some (mapAt 0 (.str "") ds)
  | _ => none
abbrev O_map_fault (K : PySem.W.Frag) (mg : Str → Option Value) (base : Heap) (kt : Str) : Prop := Ok PW.prog PW.world K mg base CX0 "map_fault" ["items"] 4 (liftS K kt 1 (pureS mapG))
theorem head_str {d : PyData} (h : headB d = true) : ∃ z r, d = .tuple (.str z :: r) := by
  unfold headB at h
  split at h
  · rename_i n p l s e
    simp only [Bool.and_eq_true] at h
    obtain ⟨⟨⟨h1, _⟩, _⟩, _⟩ := h
    cases n <;> first | (cases h1; done) | exact ⟨_, _, rfl⟩
  · cases h
theorem ok_map_fault (T : Txt K mg) (D : Def K mg "map_fault" s_map_fault ["items"]) (O1 : O_has_map_form K mg base kt) : O_map_fault K mg base kt := by
  obtain ⟨f_has_map_form, fd_has_map_form, G_has_map_form, g_has_map_form, k_has_map_form, b_has_map_form⟩ := O1
  refine D.okS sc_map_fault rfl fun f cdv A outer s H E hr hq => ⟨_, _, (pss_cons (ps_set (i := 1) sc_map_fault.nd rfl (Or.inl rfl) pe_str)
      (pss_cons (ps_for PassesOwn.never rfl (pi_enumT (by rfl) T.b_enumerate (pa_cons (pv 0) pa_nil)) (pg_tup (n := 2) (by rfl) (pgs_cons (pg_name (i := 2) sc_map_fault.nd rfl (Or.inl rfl)) (pgs_cons (pg_name (i := 3) sc_map_fault.nd rfl (Or.inl rfl)) pgs_nil)))
        (pss_cons (ps_if (PW.pt (pw_or (pt_not (pt_val (pe_callG G_has_map_form (hr.mono (by omega)) hq (by rfl) g_has_map_form k_has_map_form b_has_map_form pass0 (pa_cons (pv 3) pa_nil)))) (pw_or1 (pt_cmpR (op_leP hr.units) (pe_ix ix_seq (pv 3) pe_int (fun _ _ => rfl)) (pv 1) (nomark _))))) (pss_one (ps_ret (pe_tup (pa_cons pe_str (pa_cons (pv 2) pa_nil))))) pss_nil)
          (pss_one (ps_set (i := 1) sc_map_fault.nd rfl (Or.inl rfl) (pe_ix ix_seq (pv 3) pe_int (fun _ _ => rfl))))))
      (pss_one (ps_ret pe_non)))), (as_seq (as_set 1 (ab_str _ (by decide +kernel)))
      (as_seq (as_for (ws := [2, 3]) (ai_enumT (ab_acons (ab_var 0) ab_anil)) (ag_tup (ag_cons (ag_name 2 (by decide)) (ag_cons (ag_name 3 (by decide)) ag_nil)))
        (as_seq (as_if (at_or (at_not (at_B (ab_call (ap_cons (ab_var 3) ap_nil)))) (at_test (ab_op oa_leP (ab_op oa_ix (ab_var 3) (ab_int _)) (ab_var 1)))) (as_ret (ab_tup (ab_acons (ab_str _ (by decide +kernel)) (ab_acons (ab_var 2) ab_anil)))) as_nil)
          (as_set 1 (ab_op oa_ix (ab_var 3) (ab_int _)))))
      (as_ret ab_non))), fun qs k R hl h => ?_⟩
  obtain ⟨ds, d, rfl, h1, h2⟩ := pure_in h
  unfold mapG at h1
  split at h1 <;> cases h1
  rename_i ds
  simp only [bodyB, env0, slA, List.map_cons, List.map_nil, List.cons_append, List.nil_append, List.length_cons, List.length_nil, List.replicate, List.getElem?_cons_zero, List.getElem?_cons_succ, List.set_cons_zero, List.set_cons_succ, Option.some.injEq, Sl.dat.injEq, Sl.own.injEq, PyData.bool.injEq, PyData.int.injEq, PyData.str.injEq, PyData.tuple.injEq, PyData.list.injEq, PyData.dict.injEq, Sl.tab.injEq, List.cons.injEq, exists_eq_left', exists_eq_left, eq_self, decide_true, if_true, reduceIte, Int.reduceLE, pure1, pure2, pure3, pure4, leiF_int, liF_int, giF_int, geiF_int, addF_int, subF_int, eqEF_nil, neF_int, eqF_int, lenF_str, lenF_list, lenF_tup, wipe0, wipe1, true_and, and_true, frz_list, frz_dict, frz_tup, frz_dat, frz_no, frz_pen, tab_list, tab_dict, Nat.reduceAdd, Nat.reduceSub, headG]
  refine for_rec (fun es env k1 => ∃ (i : Nat) (b : Str) (rs : List PyData) (s2 s3 : Sl), es = enumD i rs ∧ env = [.dat (.tuple ds), .dat (.str b), s2, s3] ∧ ∃ k', k' ≤ k1 ∧ R (mapAt i (.str b) rs) k') ?_ ?_ ⟨0, _, ds, _, _, rfl, rfl, h2⟩
  · rintro env k1 ⟨i, b, rs, s2, s3, e, _, r⟩
    cases rs with
    | nil => exact r
    | cons => cases e
  · rintro d es env k1 ⟨i, b, rs, s2, s3, e, rfl, r⟩ N hN
    cases rs with
    | nil => cases e
    | cons x rs =>
      cases e
      simp only [bodyB, env0, slA, List.map_cons, List.map_nil, List.cons_append, List.nil_append, List.length_cons, List.length_nil, List.replicate, List.getElem?_cons_zero, List.getElem?_cons_succ, List.set_cons_zero, List.set_cons_succ, Option.some.injEq, Sl.dat.injEq, Sl.own.injEq, PyData.bool.injEq, PyData.int.injEq, PyData.str.injEq, PyData.tuple.injEq, PyData.list.injEq, PyData.dict.injEq, Sl.tab.injEq, List.cons.injEq, exists_eq_left', exists_eq_left, eq_self, decide_true, if_true, reduceIte, Int.reduceLE, pure1, pure2, pure3, pure4, leiF_int, liF_int, giF_int, geiF_int, addF_int, subF_int, eqEF_nil, neF_int, eqF_int, lenF_str, lenF_list, lenF_tup, wipe0, wipe1, true_and, and_true, frz_list, frz_dict, frz_tup, frz_dat, frz_no, frz_pen, tab_list, tab_dict, Nat.reduceAdd, Nat.reduceSub]
      refine ⟨fun q1 => ?_, fun q1 => ?_⟩
      · have e : mapAt i (.str b) (x :: rs) = .tuple [.str "map", .int (i : Nat)] := by
          unfold mapAt
          rw [if_pos (by rw [q1, Bool.true_or])]
        rw [e] at r
        exact ⟨fun _ => ⟨by decide, r⟩, fun z => absurd z (by decide)⟩
      · obtain ⟨z, r', rfl⟩ := head_str (by simpa using q1)
        simp only [bodyB, env0, slA, List.map_cons, List.map_nil, List.cons_append, List.nil_append, List.length_cons, List.length_nil, List.replicate, List.getElem?_cons_zero, List.getElem?_cons_succ, List.set_cons_zero, List.set_cons_succ, Option.some.injEq, Sl.dat.injEq, Sl.own.injEq, PyData.bool.injEq, PyData.int.injEq, PyData.str.injEq, PyData.tuple.injEq, PyData.list.injEq, PyData.dict.injEq, Sl.tab.injEq, List.cons.injEq, exists_eq_left', exists_eq_left, eq_self, decide_true, if_true, reduceIte, Int.reduceLE, pure1, pure2, pure3, pure4, leiF_int, liF_int, giF_int, geiF_int, addF_int, subF_int, eqEF_nil, neF_int, eqF_int, lenF_str, lenF_list, lenF_tup, wipe0, wipe1, true_and, and_true, frz_list, frz_dict, frz_tup, frz_dat, frz_no, frz_pen, tab_list, tab_dict, Nat.reduceAdd, Nat.reduceSub, at0, leF_str]
        have e : mapAt i (.str b) (.tuple (.str z :: r') :: rs) = if (!decide (b.cps.toList < z.cps.toList)) = true then .tuple [.str "map", .int (i : Nat)] else mapAt (i + 1) (.str z) rs := by
          conv => lhs; unfold mapAt
          rw [q1, Bool.false_or]
          show (if (!PySem.W.dataLt (.str b) (.str z)) = true then _ else _) = _
          rw [PySem.W.dataLt_str] <;> rfl
        rw [e] at r
        refine ⟨fun q2 => ?_, fun q2 => ?_⟩
        · rw [if_pos q2] at r
          exact ⟨by decide, r⟩
        · rw [if_neg (by rw [q2]; exact Bool.false_ne_true)] at r
          exact hN _ _ ⟨i + 1, z, rs, _, _, rfl, rfl, r⟩
end
end SM

set_option Elab.async false
set_option linter.all false
set_option maxRecDepth 100000
set_option maxHeartbeats 4000000
namespace SM
open PySem PySem.Spec PyProof.Rows L2
section
variable [PW] {K : PySem.W.Frag} {mg : Str → Option Value} {base : Heap} {kt : Str}
abbrev s_edges_fault : Stmt := topS 27
theorem sc_edges_fault : FnScope ["atlas", "k", "chart"] ["atlas"] (defScope s_edges_fault) := ⟨rfl, rfl, rfl, by decide +kernel, rfl, by decide +kernel, by decide +kernel⟩

def partD (i : Nat) : PyData → PyData
  | .tuple xs => xs.getD i .none
  | _ => .none
def edgesAt : Nat → List PyData → PyData
  | _, [] => .none
  | k, d :: r => if tupIn (partD 4 d) 0 40 = true then edgesAt (k + 1) r else .tuple [.str "edges", .int (k : Nat)]
def edgesG : List PyData → Option PyData
  | [.tuple ds] => if ds.all headB = true then some (edgesAt 0 ds) else none
  | _ => none
theorem head_five {d : PyData} (h : headB d = true) : ∃ a b c x e, d = .tuple [a, b, c, x, e] := by
  unfold headB at h
  split at h
  · exact ⟨_, _, _, _, _, rfl⟩
  · cases h
theorem at5_4 (a b c x e : PyData) : atD (.tuple [a, b, c, x, e]) (.int 4) = some e := rfl
theorem at5_3 (a b c x e : PyData) : atD (.tuple [a, b, c, x, e]) (.int 3) = some x := rfl
abbrev O_edges_fault (K : PySem.W.Frag) (mg : Str → Option Value) (base : Heap) (kt : Str) : Prop := Ok PW.prog PW.world K mg base CX0 "edges_fault" ["atlas"] 2 (liftS K kt 1 (pureS edgesG))
theorem ok_edges_fault (T : Txt K mg) (D : Def K mg "edges_fault" s_edges_fault ["atlas"]) (O1 : O_is_tuple K mg base kt) : O_edges_fault K mg base kt := by
  obtain ⟨f_is_tuple, fd_is_tuple, G_is_tuple, g_is_tuple, k_is_tuple, b_is_tuple⟩ := O1
  refine D.okS sc_edges_fault rfl fun f cdv A outer s H E hr hq => ⟨_, _, (pss_cons (ps_for PassesOwn.never rfl (pi_enumT (by rfl) T.b_enumerate (pa_cons (pv 0) pa_nil)) (pg_tup (n := 2) (by rfl) (pgs_cons (pg_name (i := 1) sc_edges_fault.nd rfl (Or.inl rfl)) (pgs_cons (pg_name (i := 2) sc_edges_fault.nd rfl (Or.inl rfl)) pgs_nil)))
        (pss_one (ps_if (pt_not (pt_val (pe_callG G_is_tuple (hr.mono (by omega)) hq (by rfl) g_is_tuple k_is_tuple b_is_tuple pass0 (pa_cons (pe_ix ix_seq (pv 2) pe_int (fun _ _ => rfl)) (pa_cons pe_int (pa_cons (pe_glob (v := .int 40) (by rfl) T.k_MOST_EDGES.choose_spec ⟨_, rfl⟩) pa_nil)))))) (pss_one (ps_ret (pe_tup (pa_cons pe_str (pa_cons (pv 1) pa_nil))))) pss_nil)))
      (pss_one (ps_ret pe_non))), (as_seq (as_for (ws := [1, 2]) (ai_enumT (ab_acons (ab_var 0) ab_anil)) (ag_tup (ag_cons (ag_name 1 (by decide)) (ag_cons (ag_name 2 (by decide)) ag_nil)))
        (as_if (at_not (at_B (ab_call (ap_cons (ab_op oa_ix (ab_var 2) (ab_int _)) (ap_cons (ab_int _) (ap_cons (ab_int _) ap_nil)))))) (as_ret (ab_tup (ab_acons (ab_str _ (by decide +kernel)) (ab_acons (ab_var 1) ab_anil)))) as_nil))
      (as_ret ab_non)), fun qs k R hl h => ?_⟩
  obtain ⟨ds, d, rfl, h1, h2⟩ := pure_in h
  unfold edgesG at h1
  split at h1
  · rename_i ds
    by_cases hd : ds.all headB = true
    · rw [if_pos hd] at h1
      cases h1
      simp only [bodyB, env0, slA, List.map_cons, List.map_nil, List.cons_append, List.nil_append, List.length_cons, List.length_nil, List.replicate, List.getElem?_cons_zero, List.getElem?_cons_succ, List.set_cons_zero, List.set_cons_succ, Option.some.injEq, Sl.dat.injEq, Sl.own.injEq, PyData.bool.injEq, PyData.int.injEq, PyData.str.injEq, PyData.tuple.injEq, PyData.list.injEq, PyData.dict.injEq, Sl.tab.injEq, List.cons.injEq, exists_eq_left', exists_eq_left, eq_self, decide_true, if_true, reduceIte, Int.reduceLE, pure1, pure2, pure3, pure4, leiF_int, liF_int, giF_int, geiF_int, addF_int, subF_int, eqEF_nil, neF_int, eqF_int, lenF_str, lenF_list, lenF_tup, wipe0, wipe1, true_and, and_true, frz_list, frz_dict, frz_tup, frz_dat, frz_no, frz_pen, tab_list, tab_dict, Nat.reduceAdd, Nat.reduceSub, tupG]
      refine for_rec (fun es env k1 => ∃ (i : Nat) (rs : List PyData) (s2 s3 : Sl), es = enumD i rs ∧ rs.all headB = true ∧ env = [.dat (.tuple ds), s2, s3] ∧ ∃ k', k' ≤ k1 ∧ R (edgesAt i rs) k') ?_ ?_ ⟨0, ds, _, _, rfl, hd, rfl, h2⟩
      · rintro env k1 ⟨i, rs, s2, s3, e, _, _, r⟩
        cases rs with
        | nil => exact r
        | cons => cases e
      · rintro d es env k1 ⟨i, rs, s2, s3, e, ha, rfl, r⟩ N hN
        cases rs with
        | nil => cases e
        | cons x rs =>
          cases e
          rw [List.all_cons, Bool.and_eq_true] at ha
          obtain ⟨a, b, c, l, e, rfl⟩ := head_five ha.1
          simp only [bodyB, env0, slA, List.map_cons, List.map_nil, List.cons_append, List.nil_append, List.length_cons, List.length_nil, List.replicate, List.getElem?_cons_zero, List.getElem?_cons_succ, List.set_cons_zero, List.set_cons_succ, Option.some.injEq, Sl.dat.injEq, Sl.own.injEq, PyData.bool.injEq, PyData.int.injEq, PyData.str.injEq, PyData.tuple.injEq, PyData.list.injEq, PyData.dict.injEq, Sl.tab.injEq, List.cons.injEq, exists_eq_left', exists_eq_left, eq_self, decide_true, if_true, reduceIte, Int.reduceLE, pure1, pure2, pure3, pure4, leiF_int, liF_int, giF_int, geiF_int, addF_int, subF_int, eqEF_nil, neF_int, eqF_int, lenF_str, lenF_list, lenF_tup, wipe0, wipe1, true_and, and_true, frz_list, frz_dict, frz_tup, frz_dat, frz_no, frz_pen, tab_list, tab_dict, Nat.reduceAdd, Nat.reduceSub, at5_4]
          have e2 : edgesAt i (.tuple [a, b, c, l, e] :: rs) = if tupIn e 0 40 = true then edgesAt (i + 1) rs else .tuple [.str "edges", .int (i : Nat)] := rfl
          rw [e2] at r
          refine ⟨fun q1 => ?_, fun q1 => ?_⟩
          · rw [if_neg (by simpa using q1)] at r
            exact ⟨by decide, r⟩
          · rw [if_pos (by simpa using q1)] at r
            exact hN _ _ ⟨i + 1, rs, _, _, rfl, ha.2, rfl, r⟩
    · rw [if_neg hd] at h1
      cases h1
  · cases h1
end
end SM

set_option Elab.async false
set_option linter.all false
set_option maxRecDepth 100000
set_option maxHeartbeats 4000000
namespace SM
open PySem PySem.Spec PyProof.Rows L2
section
variable [PW] {K : PySem.W.Frag} {mg : Str → Option Value} {base : Heap} {kt : Str}
abbrev s_slot_fault : Stmt := topS 26
theorem sc_slot_fault : FnScope ["atlas", "chart", "names", "k", "s", "name"] ["atlas"] (defScope s_slot_fault) := ⟨rfl, rfl, rfl, by decide +kernel, rfl, by decide +kernel, by decide +kernel⟩

def itemsD : PyData → List PyData
  | .tuple xs => xs
  | _ => []
def inNames (ns : List PyData) (d : PyData) : Bool := ns.any fun y => PyData.eqv y d
def slotIn (ns : List PyData) (k : Nat) : Nat → List PyData → Option PyData
  | _, [] => none
  | s, d :: r => if inNames ns d = true then slotIn ns k (s + 1) r else some (.tuple [.str "slot", .int (k : Nat), .int (s : Nat)])
def slotAt (ns : List PyData) : Nat → List PyData → PyData
  | _, [] => .none
  | k, d :: r => match slotIn ns k 0 (itemsD (partD 3 d)) with
    | some e => e
    | none => slotAt ns (k + 1) r
def slotG : List PyData → Option PyData
  | [.tuple ds] => if (decide (ds.length ≤ 100000) && ds.all headB) = true then some (slotAt (ds.map firstD) 0 ds) else none
  | _ => none
theorem name_str {d : PyData} (h : nameB d = true) : ∃ z, d = .str z := by
  cases d <;> first | (cases h; done) | exact ⟨_, rfl⟩
theorem first_str {d : PyData} (h : headB d = true) : ∃ z, firstD d = .str z := by
  obtain ⟨z, r, rfl⟩ := head_str h
  exact ⟨z, rfl⟩
theorem plain_strs : ∀ {ds : List PyData}, (∀ d ∈ ds, ∃ z, d = .str z) → PyData.plainAll ds = true ∧ PyData.depthAll ds = 0
  | [], _ => ⟨rfl, rfl⟩
  | d :: r, h => by
    obtain ⟨z, rfl⟩ := h d List.mem_cons_self
    obtain ⟨h1, h2⟩ := plain_strs (ds := r) fun d hd => h d (List.mem_cons_of_mem _ hd)
    refine ⟨?_, ?_⟩
    · show ((PyData.str z).plain && PyData.plainAll r) = true
      rw [h1] <;> rfl
    · show max (PyData.depth (.str z)) (PyData.depthAll r) = 0
      rw [h2] <;> rfl
theorem ninF_names {ns : List PyData} {z : Str} (h : ∀ d ∈ ns, ∃ z, d = .str z) : ninF (.str z) (.list ns) = some (.bool (!inNames ns (.str z))) := by
  obtain ⟨h1, h2⟩ := plain_strs h
  unfold ninF
  show (if ((PyData.str z).plain && PyData.plainAll ns && _) = true then _ else _) = _
  rw [if_pos (by rw [h1, h2]; rfl)] <;> rfl
theorem head_slots {a b c l e : PyData} (h : headB (.tuple [a, b, c, l, e]) = true) : ∃ xs, l = .tuple xs ∧ ∀ d ∈ xs, ∃ z, d = .str z := by
  have h' : (nameB a && intIn b 1 4 && namesB 8 c && namesB 4 l) = true := h
  simp only [Bool.and_eq_true] at h'
  obtain ⟨_, h4⟩ := h'
  cases l <;> first | (cases h4; done) | skip
  rename_i xs
  have h5 : (decide ((xs.length : Int) ≤ 4) && xs.all nameB) = true := h4
  rw [Bool.and_eq_true] at h5
  exact ⟨xs, rfl, fun d hd => name_str (List.all_eq_true.mp h5.2 d hd)⟩
abbrev O_slot_fault (K : PySem.W.Frag) (mg : Str → Option Value) (base : Heap) (kt : Str) : Prop := Ok PW.prog PW.world K mg base CX0 "slot_fault" ["atlas"] 1 (liftS K kt 1 (pureS slotG))
theorem ok_slot_fault (T : Txt K mg) (D : Def K mg "slot_fault" s_slot_fault ["atlas"]) : O_slot_fault K mg base kt := by
  refine D.okS sc_slot_fault rfl fun f cdv A outer s H E hr hq => ⟨_, _, (pss_cons (ps_setLc (i := 2) (own := [("chart", 1)]) (g := gName 1) (by rfl) sc_slot_fault.nd rfl rfl (sw_true rfl rfl rfl (by decide +kernel)) (pi_tup (pv 0)) (blkOk_by (own := [("chart", 1)]) (N := ["atlas", "chart", "names", "k", "s", "name"]) (sc := defScope s_slot_fault) (by decide +kernel)) (fun _ _ _ _ _ => (pg_name (i := 1) sc_slot_fault.nd rfl (Or.inl rfl))) (fun _ _ _ _ _ => pts_nil) (fun _ _ _ _ _ => (pe_ix ix_seq (pv 1) pe_int (fun _ _ => rfl))))
      (pss_cons (ps_for PassesOwn.never rfl (pi_enumT (by rfl) T.b_enumerate (pa_cons (pv 0) pa_nil)) (pg_tup (n := 2) (by rfl) (pgs_cons (pg_name (i := 3) sc_slot_fault.nd rfl (Or.inl rfl)) (pgs_cons (pg_name (i := 1) sc_slot_fault.nd rfl (Or.inl rfl)) pgs_nil)))
        (pss_one (ps_for PassesOwn.never rfl (pi_enumT (by rfl) T.b_enumerate (pa_cons (pe_ix ix_seq (pv 1) pe_int (fun _ _ => rfl)) pa_nil)) (pg_tup (n := 2) (by rfl) (pgs_cons (pg_name (i := 4) sc_slot_fault.nd rfl (Or.inl rfl)) (pgs_cons (pg_name (i := 5) sc_slot_fault.nd rfl (Or.inl rfl)) pgs_nil)))
            (pss_one (ps_if (pt_cmpR (op_ninP hr.units) (pv 5) (pv 2) (by with_unfolding_all rfl)) (pss_one (ps_ret (pe_tup (pa_cons pe_str (pa_cons (pv 3) (pa_cons (pv 4) pa_nil)))))) pss_nil)))))
      (pss_one (ps_ret pe_non)))), (as_seq (as_set 2 (af_lc (ai_tup (ab_var 0)) (ag_name 1 (by decide)) at_yes (ab_op oa_ix (ab_var 1) (ab_int _))).ab)
      (as_seq (as_for (ws := [3, 1]) (ai_enumT (ab_acons (ab_var 0) ab_anil)) (ag_tup (ag_cons (ag_name 3 (by decide)) (ag_cons (ag_name 1 (by decide)) ag_nil)))
        (as_for (ws := [4, 5]) (ai_enumT (ab_acons (ab_op oa_ix (ab_var 1) (ab_int _)) ab_anil)) (ag_tup (ag_cons (ag_name 4 (by decide)) (ag_cons (ag_name 5 (by decide)) ag_nil)))
            (as_if (at_test (ab_op oa_ninP (ab_var 5) (ab_var 2))) (as_ret (ab_tup (ab_acons (ab_str _ (by decide +kernel)) (ab_acons (ab_var 3) (ab_acons (ab_var 4) ab_anil))))) as_nil)))
      (as_ret ab_non))), fun qs k R hl h => ?_⟩
  obtain ⟨ds, d, rfl, h1, h2⟩ := pure_in h
  unfold slotG at h1
  split at h1
  · rename_i ds
    by_cases hd0 : (decide (ds.length ≤ 100000) && ds.all headB) = true
    · rw [if_pos hd0] at h1
      cases h1
      rw [Bool.and_eq_true] at hd0
      obtain ⟨hz, hd⟩ := hd0
      simp only [bodyB, env0, slA, List.map_cons, List.map_nil, List.cons_append, List.nil_append, List.length_cons, List.length_nil, List.replicate, List.getElem?_cons_zero, List.getElem?_cons_succ, List.set_cons_zero, List.set_cons_succ, Option.some.injEq, Sl.dat.injEq, Sl.own.injEq, PyData.bool.injEq, PyData.int.injEq, PyData.str.injEq, PyData.tuple.injEq, PyData.list.injEq, PyData.dict.injEq, Sl.tab.injEq, List.cons.injEq, exists_eq_left', exists_eq_left, eq_self, decide_true, if_true, reduceIte, Int.reduceLE, pure1, pure2, pure3, pure4, leiF_int, liF_int, giF_int, geiF_int, addF_int, subF_int, eqEF_nil, neF_int, eqF_int, lenF_str, lenF_list, lenF_tup, wipe0, wipe1, true_and, and_true, frz_list, frz_dict, frz_tup, frz_dat, frz_no, frz_pen, tab_list, tab_dict, Nat.reduceAdd, Nat.reduceSub]
      refine ⟨of_decide_eq_true hz, comp_pure (fun _ => true) firstD (fun d hm k T N hT hN => ?_) ?_⟩
      · obtain ⟨z, r, rfl⟩ := head_str (List.all_eq_true.mp hd d hm)
        simp only [bodyB, env0, slA, List.map_cons, List.map_nil, List.cons_append, List.nil_append, List.length_cons, List.length_nil, List.replicate, List.getElem?_cons_zero, List.getElem?_cons_succ, List.set_cons_zero, List.set_cons_succ, Option.some.injEq, Sl.dat.injEq, Sl.own.injEq, PyData.bool.injEq, PyData.int.injEq, PyData.str.injEq, PyData.tuple.injEq, PyData.list.injEq, PyData.dict.injEq, Sl.tab.injEq, List.cons.injEq, exists_eq_left', exists_eq_left, eq_self, decide_true, if_true, reduceIte, Int.reduceLE, pure1, pure2, pure3, pure4, leiF_int, liF_int, giF_int, geiF_int, addF_int, subF_int, eqEF_nil, neF_int, eqF_int, lenF_str, lenF_list, lenF_tup, wipe0, wipe1, true_and, and_true, frz_list, frz_dict, frz_tup, frz_dat, frz_no, frz_pen, tab_list, tab_dict, Nat.reduceAdd, Nat.reduceSub, at0]
        exact ⟨fun _ => hT rfl, fun q => absurd q (by decide)⟩
      · rw [List.nil_append, filter_yes]
        have hs : ∀ d ∈ ds.map firstD, ∃ z, d = .str z := fun d hm => by
          obtain ⟨x, hx, rfl⟩ := List.mem_map.mp hm
          exact first_str (List.all_eq_true.mp hd x hx)
        generalize ds.map firstD = ns at h2 hs ⊢
        refine for_rec (fun es env k1 => ∃ (i : Nat) (rs : List PyData) (s1 s3 s4 s5 : Sl), es = enumD i rs ∧ rs.all headB = true ∧ env = [.dat (.tuple ds), s1, .dat (.list ns), s3, s4, s5] ∧ ∃ k', k' ≤ k1 ∧ R (slotAt ns i rs) k') ?_ ?_ ⟨0, ds, _, _, _, _, rfl, hd, rfl, h2⟩
        · rintro env k1 ⟨i, rs, s1, s3, s4, s5, e, _, _, r⟩
          cases rs with
          | nil => exact r
          | cons => cases e
        · rintro d es env k1 ⟨i, rs, s1, s3, s4, s5, e, ha, rfl, r⟩ N hN
          cases rs with
          | nil => cases e
          | cons x rs =>
            cases e
            rw [List.all_cons, Bool.and_eq_true] at ha
            obtain ⟨a, b, c, l, e, rfl⟩ := head_five ha.1
            obtain ⟨xs, rfl, hx⟩ := head_slots ha.1
            simp only [bodyB, env0, slA, List.map_cons, List.map_nil, List.cons_append, List.nil_append, List.length_cons, List.length_nil, List.replicate, List.getElem?_cons_zero, List.getElem?_cons_succ, List.set_cons_zero, List.set_cons_succ, Option.some.injEq, Sl.dat.injEq, Sl.own.injEq, PyData.bool.injEq, PyData.int.injEq, PyData.str.injEq, PyData.tuple.injEq, PyData.list.injEq, PyData.dict.injEq, Sl.tab.injEq, List.cons.injEq, exists_eq_left', exists_eq_left, eq_self, decide_true, if_true, reduceIte, Int.reduceLE, pure1, pure2, pure3, pure4, leiF_int, liF_int, giF_int, geiF_int, addF_int, subF_int, eqEF_nil, neF_int, eqF_int, lenF_str, lenF_list, lenF_tup, wipe0, wipe1, true_and, and_true, frz_list, frz_dict, frz_tup, frz_dat, frz_no, frz_pen, tab_list, tab_dict, Nat.reduceAdd, Nat.reduceSub, at5_3]
            have e2 : slotAt ns i (.tuple [a, b, c, .tuple xs, e] :: rs) = match slotIn ns i 0 xs with
              | some e => e
              | none => slotAt ns (i + 1) rs := rfl
            rw [e2] at r
            refine for_rec (fun es env k1 => ∃ (j : Nat) (ys : List PyData) (s4 s5 : Sl), es = enumD j ys ∧ (∀ d ∈ ys, ∃ z, d = .str z) ∧ env = [.dat (.tuple ds), .dat (.tuple [a, b, c, .tuple xs, e]), .dat (.list ns), .dat (.int (i : Nat)), s4, s5] ∧ ∃ k', k' ≤ k1 ∧ R (match slotIn ns i j ys with
              | some e => e
              | none => slotAt ns (i + 1) rs) k') ?_ ?_ ⟨0, xs, _, _, rfl, hx, rfl, r⟩
            · rintro env k2 ⟨j, ys, s4, s5, e, _, rfl, r⟩
              cases ys with
              | nil => exact hN _ _ ⟨i + 1, rs, _, _, _, _, rfl, ha.2, rfl, r⟩
              | cons => cases e
            · rintro d es env k2 ⟨j, ys, s4, s5, e, hy, rfl, r⟩ N2 hN2
              cases ys with
              | nil => cases e
              | cons y ys =>
                cases e
                obtain ⟨z, rfl⟩ := hy y List.mem_cons_self
                simp only [bodyB, env0, slA, List.map_cons, List.map_nil, List.cons_append, List.nil_append, List.length_cons, List.length_nil, List.replicate, List.getElem?_cons_zero, List.getElem?_cons_succ, List.set_cons_zero, List.set_cons_succ, Option.some.injEq, Sl.dat.injEq, Sl.own.injEq, PyData.bool.injEq, PyData.int.injEq, PyData.str.injEq, PyData.tuple.injEq, PyData.list.injEq, PyData.dict.injEq, Sl.tab.injEq, List.cons.injEq, exists_eq_left', exists_eq_left, eq_self, decide_true, if_true, reduceIte, Int.reduceLE, pure1, pure2, pure3, pure4, leiF_int, liF_int, giF_int, geiF_int, addF_int, subF_int, eqEF_nil, neF_int, eqF_int, lenF_str, lenF_list, lenF_tup, wipe0, wipe1, true_and, and_true, frz_list, frz_dict, frz_tup, frz_dat, frz_no, frz_pen, tab_list, tab_dict, Nat.reduceAdd, Nat.reduceSub, ninF_names hs]
                have e3 : slotIn ns i j (.str z :: ys) = if inNames ns (.str z) = true then slotIn ns i (j + 1) ys else some (.tuple [.str "slot", .int (i : Nat), .int (j : Nat)]) := rfl
                rw [e3] at r
                refine ⟨fun q1 => ?_, fun q1 => ?_⟩
                · rw [if_neg (by simpa using q1)] at r
                  exact ⟨by decide, r⟩
                · rw [if_pos (by simpa using q1)] at r
                  exact hN2 _ _ ⟨j + 1, ys, _, _, rfl, fun d hm => hy d (List.mem_cons_of_mem _ hm), rfl, r⟩
    · rw [if_neg hd0] at h1
      cases h1
  · cases h1
end
end SM

set_option Elab.async false
set_option linter.all false
set_option maxRecDepth 100000
set_option maxHeartbeats 4000000
namespace SM
open PySem PySem.Spec PyProof.Rows L2
section
variable [PW] {K : PySem.W.Frag} {mg : Str → Option Value} {base : Heap} {kt : Str}
abbrev s_maps_by_name : Stmt := topS 23
theorem sc_maps_by_name : FnScope ["atlas", "chart"] ["atlas"] (defScope s_maps_by_name) := ⟨rfl, rfl, rfl, by decide +kernel, rfl, by decide +kernel, by decide +kernel⟩

def mapsD : List (PyData × PyData) → List PyData → List (PyData × PyData)
  | acc, [] => acc
  | acc, d :: r => match toKey (firstD d) with
    | some k => mapsD (putD acc k d) r
    | none => mapsD acc r
def mapsG : List PyData → Option PyData
  | [.tuple ds] => if (decide (ds.length ≤ 100000) && ds.all headB) = true then some (.dict (mapsD [] ds)) else none
  | _ => none
abbrev O_maps_by_name (K : PySem.W.Frag) (mg : Str → Option Value) (base : Heap) (kt : Str) : Prop := Ok PW.prog PW.world K mg base CX0 "maps_by_name" ["atlas"] 1 (liftS K kt 1 (pureS mapsG))
theorem ok_maps_by_name (T : Txt K mg) (D : Def K mg "maps_by_name" s_maps_by_name ["atlas"]) : O_maps_by_name K mg base kt := by
  refine D.okS sc_maps_by_name rfl fun f cdv A outer s H E hr hq => ⟨_, _, (pss_one (ps_ret (pe_dc (own := [("chart", 1)]) (g := gName 1) (by rfl) sc_maps_by_name.nd (pi_tup (pv 0)) (blkOk_by (own := [("chart", 1)]) (N := ["atlas", "chart"]) (sc := defScope s_maps_by_name) (by decide +kernel)) (fun _ _ _ _ _ => (pg_name (i := 1) sc_maps_by_name.nd rfl (Or.inl rfl))) (fun _ _ _ _ _ => pts_nil) (fun _ _ _ _ _ => (pe_ix ix_seq (pv 1) pe_int (fun _ _ => rfl))) (fun _ _ _ _ _ => (pv 1))))), (as_ret (af_dc (ai_tup (ab_var 0)) (ag_name 1 (by decide)) at_yes (ab_op oa_ix (ab_var 1) (ab_int _)) (ab_var 1)).ab), fun qs k R hl h => ?_⟩
  obtain ⟨ds, d, rfl, h1, h2⟩ := pure_in h
  unfold mapsG at h1
  split at h1
  · rename_i ds
    by_cases hd0 : (decide (ds.length ≤ 100000) && ds.all headB) = true
    · rw [if_pos hd0] at h1
      cases h1
      rw [Bool.and_eq_true] at hd0
      obtain ⟨hz, hd⟩ := hd0
      simp only [bodyB, env0, slA, List.map_cons, List.map_nil, List.cons_append, List.nil_append, List.length_cons, List.length_nil, List.replicate, List.getElem?_cons_zero, List.getElem?_cons_succ, List.set_cons_zero, List.set_cons_succ, Option.some.injEq, Sl.dat.injEq, Sl.own.injEq, PyData.bool.injEq, PyData.int.injEq, PyData.str.injEq, PyData.tuple.injEq, PyData.list.injEq, PyData.dict.injEq, Sl.tab.injEq, List.cons.injEq, exists_eq_left', exists_eq_left, eq_self, decide_true, if_true, reduceIte, Int.reduceLE, pure1, pure2, pure3, pure4, leiF_int, liF_int, giF_int, geiF_int, addF_int, subF_int, eqEF_nil, neF_int, eqF_int, lenF_str, lenF_list, lenF_tup, wipe0, wipe1, true_and, and_true, frz_list, frz_dict, frz_tup, frz_dat, frz_no, frz_pen, tab_list, tab_dict, Nat.reduceAdd, Nat.reduceSub]
      refine ⟨of_decide_eq_true hz, ?_⟩
      refine dc_rec (fun rs acc k1 => rs.all headB = true ∧ ∃ k', k' ≤ k1 ∧ R (.dict (mapsD acc rs)) k') (fun acc k1 h => h.2) (fun d r acc k1 ⟨ha, h⟩ N hN => ?_) ⟨hd, h2⟩
      rw [List.all_cons, Bool.and_eq_true] at ha
      obtain ⟨z, r', rfl⟩ := head_str ha.1
      simp only [bodyB, env0, slA, List.map_cons, List.map_nil, List.cons_append, List.nil_append, List.length_cons, List.length_nil, List.replicate, List.getElem?_cons_zero, List.getElem?_cons_succ, List.set_cons_zero, List.set_cons_succ, Option.some.injEq, Sl.dat.injEq, Sl.own.injEq, PyData.bool.injEq, PyData.int.injEq, PyData.str.injEq, PyData.tuple.injEq, PyData.list.injEq, PyData.dict.injEq, Sl.tab.injEq, List.cons.injEq, exists_eq_left', exists_eq_left, eq_self, decide_true, if_true, reduceIte, Int.reduceLE, pure1, pure2, pure3, pure4, leiF_int, liF_int, giF_int, geiF_int, addF_int, subF_int, eqEF_nil, neF_int, eqF_int, lenF_str, lenF_list, lenF_tup, wipe0, wipe1, true_and, and_true, frz_list, frz_dict, frz_tup, frz_dat, frz_no, frz_pen, tab_list, tab_dict, Nat.reduceAdd, Nat.reduceSub, at0]
      exact ⟨fun _ => ⟨.inr z, rfl, hN _ _ ⟨ha.2, h⟩⟩, fun q => absurd q (by decide)⟩
    · rw [if_neg hd0] at h1
      cases h1
  · cases h1
abbrev s_is_point : Stmt := topS 30
theorem sc_is_point : FnScope ["maps", "chart", "value", "word", "s", "i", "j"] ["maps", "chart", "value"] (defScope s_is_point) := ⟨rfl, rfl, rfl, by decide +kernel, rfl, by decide +kernel, by decide +kernel⟩

/-- the ports of a map -/
def portsD : PyData → Int
  | .tuple (_ :: .int p :: _) => p
  | _ => 0
def slotsD (chart : PyData) : List PyData := itemsD (partD 3 chart)
/-- the map in a chart's slot -/
def innerD (mp : List (PyData × PyData)) (chart : PyData) (i : Int) : PyData := (((slotsD chart)[i.toNat]?).bind fun n => (toKey n).bind (lookD mp)).getD .none
def thirdB (mp : List (PyData × PyData)) (chart i : PyData) : PyData → Bool
  | .int n => intIn i 0 (portsD (innerD mp chart n) - 1)
  | _ => false
def pointB (mp : List (PyData × PyData)) (chart : PyData) : PyData → Bool
  | .tuple [w, s, i] => strIs w "slot" && intIn s 0 ((slotsD chart).length - 1) && thirdB mp chart i s
  | .tuple [w, j] => (strIs w "node" && intIn j 0 ((itemsD (partD 2 chart)).length - 1)) || (strIs w "port" && intIn j 0 (portsD chart - 1))
  | _ => false
/-- each slot holds a map of the atlas -/
def heldB (mp : List (PyData × PyData)) (chart : PyData) : Bool := headB chart && (slotsD chart).all fun n => match (toKey n).bind (lookD mp) with
  | some m => headB m
  | none => false
def pointG : List PyData → Option PyData
  | [.dict mp, chart, v] => if heldB mp chart = true then some (.bool (pointB mp chart v)) else none
  | _ => none
theorem chart_shape {d : PyData} (h : headB d = true) : ∃ z p ls sl e, d = .tuple [.str z, .int p, .tuple ls, .tuple sl, e] := by
  obtain ⟨a, b, c, l, e, rfl⟩ := head_five h
  have h' : (nameB a && intIn b 1 4 && namesB 8 c && namesB 4 l) = true := h
  simp only [Bool.and_eq_true] at h'
  obtain ⟨⟨⟨h1, h2⟩, h3⟩, h4⟩ := h'
  cases a <;> first | (cases h1; done) | skip
  cases b <;> first | (cases h2; done) | skip
  cases c <;> first | (cases h3; done) | skip
  cases l <;> first | (cases h4; done) | skip
  exact ⟨_, _, _, _, _, rfl⟩
theorem two_three {v : PyData} (h : tupIn v 2 3 = true) : (∃ w j, v = .tuple [w, j]) ∨ ∃ w s i, v = .tuple [w, s, i] := by
  cases v <;> first | (cases h; done) | skip
  rename_i xs
  simp only [tupIn, Bool.and_eq_true, decide_eq_true_eq] at h
  match xs with
  | [] => simp at h
  | [_] => simp at h
  | [w, j] => exact .inl ⟨w, j, rfl⟩
  | [w, s, i] => exact .inr ⟨w, s, i, rfl⟩
  | _ :: _ :: _ :: _ :: _ => simp at h; omega
theorem at5_1 (a b c x e : PyData) : atD (.tuple [a, b, c, x, e]) (.int 1) = some b := rfl
theorem at5_2 (a b c x e : PyData) : atD (.tuple [a, b, c, x, e]) (.int 2) = some c := rfl
theorem int_in {d : PyData} {lo hi : Int} (h : intIn d lo hi = true) : ∃ i, d = .int i ∧ lo ≤ i ∧ i ≤ hi := by
  cases d <;> first | (cases h; done) | skip
  simp only [intIn, Bool.and_eq_true, decide_eq_true_eq] at h
  exact ⟨_, rfl, h⟩
/-- the map in a slot that is there -/
theorem held_at {mp : List (PyData × PyData)} {z : Str} {p : Int} {ls sl : List PyData} {e : PyData} (h : heldB mp (.tuple [.str z, .int p, .tuple ls, .tuple sl, e]) = true) {n : Int} (h0 : 0 ≤ n) (h1 : n < sl.length) :
    ∃ nm m q r, atD (.tuple sl) (.int n) = some nm ∧ getF (.dict mp) nm = some m ∧ m = .tuple (.str q :: r) ∧ headB m = true ∧ innerD mp (.tuple [.str z, .int p, .tuple ls, .tuple sl, e]) n = m := by
  have h' : (headB (.tuple [.str z, .int p, .tuple ls, .tuple sl, e]) && sl.all fun n => match (toKey n).bind (lookD mp) with
    | some m => headB m
    | none => false) = true := h
  rw [Bool.and_eq_true] at h'
  have hlt : n.toNat < sl.length := by omega
  have hg : sl[n.toNat]? = some sl[n.toNat] := List.getElem?_eq_getElem hlt
  have hm := List.all_eq_true.mp h'.2 _ (List.getElem_mem hlt)
  generalize sl[n.toNat] = nm at hg hm
  have key : ∀ o : Option PyData, o = (toKey nm).bind (lookD mp) → (match o with
    | some m => headB m
    | none => false) = true → ∃ m, o = some m ∧ headB m = true := fun o _ q => by
    cases o with
    | none => cases q
    | some m => exact ⟨m, rfl, q⟩
  obtain ⟨m, e1, hm2⟩ := key _ rfl hm
  obtain ⟨q, r, rfl⟩ := head_str hm2
  refine ⟨nm, _, q, r, by rw [atD_nn h0 h1]; exact hg, e1, rfl, hm2, ?_⟩
  show ((sl[n.toNat]?).bind fun n => (toKey n).bind (lookD mp)).getD .none = _
  rw [hg]
  show ((toKey nm).bind (lookD mp)).getD .none = _
  rw [e1] <;> rfl
abbrev O_is_point (K : PySem.W.Frag) (mg : Str → Option Value) (base : Heap) (kt : Str) : Prop := Ok PW.prog PW.world K mg base CX0 "is_point" ["maps", "chart", "value"] 4 (liftS K kt 3 (pureS pointG))
theorem ok_is_point (T : Txt K mg) (D : Def K mg "is_point" s_is_point ["maps", "chart", "value"]) (O1 : O_is_tuple K mg base kt) (O2 : O_is_index K mg base kt) : O_is_point K mg base kt := by
  obtain ⟨f_is_tuple, fd_is_tuple, G_is_tuple, g_is_tuple, k_is_tuple, b_is_tuple⟩ := O1
  obtain ⟨f_is_index, fd_is_index, G_is_index, g_is_index, k_is_index, b_is_index⟩ := O2
  refine D.okS sc_is_point rfl fun f cdv A outer s H E hr hq => ⟨_, _, (pss_cons (ps_if (pt_not (pt_val (pe_callG G_is_tuple (hr.mono (by omega)) hq (by rfl) g_is_tuple k_is_tuple b_is_tuple pass0 (pa_cons (pv 2) (pa_cons pe_int (pa_cons pe_int pa_nil)))))) (pss_one (ps_ret pe_bl)) pss_nil)
      (pss_cons (ps_if (pt_cmpR (op_eqP hr.units) (pe_callB call_len (by rfl) T.b_len (by decide +kernel) (pa_cons (pv 2) pa_nil)) pe_int (nomark _)) (pss_cons (ps_asg (pv 2) (pg_tup (n := 3) (by rfl) (pgs_cons (pg_name (i := 3) sc_is_point.nd rfl (Or.inl rfl)) (pgs_cons (pg_name (i := 4) sc_is_point.nd rfl (Or.inl rfl)) (pgs_cons (pg_name (i := 5) sc_is_point.nd rfl (Or.inl rfl)) pgs_nil)))))
        (pss_one (ps_ret (pe_and (pe_cmpR (op_eqS hr.units) (pv 3) pe_str (nomark _)) (pe_and (pe_callG G_is_index (hr.mono (by omega)) hq (by rfl) g_is_index k_is_index b_is_index pass0 (pa_cons (pv 4) (pa_cons (pe_callB call_len (by rfl) T.b_len (by decide +kernel) (pa_cons (pe_ix ix_seq (pv 1) pe_int (fun _ _ => rfl)) pa_nil)) pa_nil))) (pe_one (pe_callG G_is_index (hr.mono (by omega)) hq (by rfl) g_is_index k_is_index b_is_index pass0 (pa_cons (pv 5) (pa_cons (pe_ix ix_seq (pe_dget (hu_of hr) (pv 0) (pe_ix ix_seq (pe_ix ix_seq (pv 1) pe_int (fun _ _ => rfl)) (pv 4) (fun _ _ => rfl)) (fun _ _ => rfl)) pe_int (fun _ _ => rfl)) pa_nil))))))))) pss_nil)
      (pss_cons (ps_asg (pv 2) (pg_tup (n := 2) (by rfl) (pgs_cons (pg_name (i := 3) sc_is_point.nd rfl (Or.inl rfl)) (pgs_cons (pg_name (i := 6) sc_is_point.nd rfl (Or.inl rfl)) pgs_nil))))
      (pss_one (ps_ret (pe_or (pe_and (pe_cmpR (op_eqS hr.units) (pv 3) pe_str (nomark _)) (pe_one (pe_callG G_is_index (hr.mono (by omega)) hq (by rfl) g_is_index k_is_index b_is_index pass0 (pa_cons (pv 6) (pa_cons (pe_callB call_len (by rfl) T.b_len (by decide +kernel) (pa_cons (pe_ix ix_seq (pv 1) pe_int (fun _ _ => rfl)) pa_nil)) pa_nil))))) (pe_one (pe_and (pe_cmpR (op_eqS hr.units) (pv 3) pe_str (nomark _)) (pe_one (pe_callG G_is_index (hr.mono (by omega)) hq (by rfl) g_is_index k_is_index b_is_index pass0 (pa_cons (pv 6) (pa_cons (pe_ix ix_seq (pv 1) pe_int (fun _ _ => rfl)) pa_nil)))))))))))), (as_seq (as_if (at_not (at_B (ab_call (ap_cons (ab_var 2) (ap_cons (ab_int _) (ap_cons (ab_int _) ap_nil)))))) (as_ret (ab_bl _)) as_nil)
      (as_seq (as_if (at_test (ab_op oa_eqP (ab_callB ca_len (ab_acons (ab_var 2) ab_anil)) (ab_int _))) (as_seq (as_asg (ws := [3, 4, 5]) (ab_var 2) (ag_tup (ag_cons (ag_name 3 (by decide)) (ag_cons (ag_name 4 (by decide)) (ag_cons (ag_name 5 (by decide)) ag_nil)))))
        (as_ret (ab_and (ab_op oa_eqS (ab_var 3) (ab_str _ (by decide +kernel))) (ab_and (ab_call (ap_cons (ab_var 4) (ap_cons (ab_callB ca_len (ab_acons (ab_op oa_ix (ab_var 1) (ab_int _)) ab_anil)) ap_nil))) (ab_call (ap_cons (ab_var 5) (ap_cons (ab_op oa_ix (ab_dget (ab_var 0) (ab_op oa_ix (ab_op oa_ix (ab_var 1) (ab_int _)) (ab_var 4))) (ab_int _)) ap_nil))))))) as_nil)
      (as_seq (as_asg (ws := [3, 6]) (ab_var 2) (ag_tup (ag_cons (ag_name 3 (by decide)) (ag_cons (ag_name 6 (by decide)) ag_nil))))
      (as_ret (ab_or (ab_and (ab_op oa_eqS (ab_var 3) (ab_str _ (by decide +kernel))) (ab_call (ap_cons (ab_var 6) (ap_cons (ab_callB ca_len (ab_acons (ab_op oa_ix (ab_var 1) (ab_int _)) ab_anil)) ap_nil)))) (ab_and (ab_op oa_eqS (ab_var 3) (ab_str _ (by decide +kernel))) (ab_call (ap_cons (ab_var 6) (ap_cons (ab_op oa_ix (ab_var 1) (ab_int _)) ap_nil))))))))), fun qs k R hl h => ?_⟩
  obtain ⟨ds, d, rfl, h1, h2⟩ := pure_in h
  unfold pointG at h1
  split at h1
  · rename_i mp chart v
    by_cases hb : heldB mp chart = true
    · rw [if_pos hb] at h1
      cases h1
      simp only [bodyB, env0, slA, List.map_cons, List.map_nil, List.cons_append, List.nil_append, List.length_cons, List.length_nil, List.replicate, List.getElem?_cons_zero, List.getElem?_cons_succ, List.set_cons_zero, List.set_cons_succ, Option.some.injEq, Sl.dat.injEq, Sl.own.injEq, PyData.bool.injEq, PyData.int.injEq, PyData.str.injEq, PyData.tuple.injEq, PyData.list.injEq, PyData.dict.injEq, Sl.tab.injEq, List.cons.injEq, exists_eq_left', exists_eq_left, eq_self, decide_true, if_true, reduceIte, Int.reduceLE, pure1, pure2, pure3, pure4, leiF_int, liF_int, giF_int, geiF_int, addF_int, subF_int, eqEF_nil, neF_int, eqF_int, lenF_str, lenF_list, lenF_tup, wipe0, wipe1, true_and, and_true, frz_list, frz_dict, frz_tup, frz_dat, frz_no, frz_pen, tab_list, tab_dict, Nat.reduceAdd, Nat.reduceSub, tupG]
      have hh : headB chart = true := by
        have h' : (headB chart && _) = true := hb
        rw [Bool.and_eq_true] at h'
        exact h'.1
      obtain ⟨z, p, ls, sl, e, rfl⟩ := chart_shape hh
      refine ⟨fun q1 => ?_, fun q1 => ?_⟩
      · have e1 : pointB mp (.tuple [.str z, .int p, .tuple ls, .tuple sl, e]) v = false := by
          cases v <;> first | rfl | skip
          rename_i xs
          match xs with
          | [] | [_] | _ :: _ :: _ :: _ :: _ => rfl
          | [w, j] => simp [tupIn] at q1
          | [w, s, i] => simp [tupIn] at q1
        rw [e1] at h2
        exact h2
      · rcases two_three (by simpa using q1) with ⟨w, j, rfl⟩ | ⟨w, s, i, rfl⟩
        · simp only [bodyB, env0, slA, List.map_cons, List.map_nil, List.cons_append, List.nil_append, List.length_cons, List.length_nil, List.replicate, List.getElem?_cons_zero, List.getElem?_cons_succ, List.set_cons_zero, List.set_cons_succ, Option.some.injEq, Sl.dat.injEq, Sl.own.injEq, PyData.bool.injEq, PyData.int.injEq, PyData.str.injEq, PyData.tuple.injEq, PyData.list.injEq, PyData.dict.injEq, Sl.tab.injEq, List.cons.injEq, exists_eq_left', exists_eq_left, eq_self, decide_true, if_true, reduceIte, Int.reduceLE, pure1, pure2, pure3, pure4, leiF_int, liF_int, giF_int, geiF_int, addF_int, subF_int, eqEF_nil, neF_int, eqF_int, lenF_str, lenF_list, lenF_tup, wipe0, wipe1, true_and, and_true, frz_list, frz_dict, frz_tup, frz_dat, frz_no, frz_pen, tab_list, tab_dict, Nat.reduceAdd, Nat.reduceSub, eqF_int, eqSF_str, at5_2, at5_1, idxG]
          have e1 : pointB mp (.tuple [.str z, .int p, .tuple ls, .tuple sl, e]) (.tuple [w, j]) = ((strIs w "node" && intIn j 0 ((ls.length : Int) - 1)) || (strIs w "port" && intIn j 0 (p - 1))) := rfl
          rw [e1] at h2
          refine ⟨fun q => absurd q (by decide), fun _ => ⟨fun q2 => ⟨fun q3 => ?_, fun q3 => ⟨fun q4 => ?_, fun q4 => ?_⟩⟩, fun q2 => ⟨fun q => absurd q Bool.false_ne_true, fun _ => ⟨fun q4 => ?_, fun q4 => ?_⟩⟩⟩⟩
          · rw [q2, q3, Bool.true_and, Bool.true_or] at h2
            exact h2
          · rw [q3, q4, Bool.and_false, Bool.false_or, Bool.true_and] at h2
            exact h2
          · rw [q3, q4, Bool.and_false, Bool.false_or, Bool.false_and] at h2
            exact h2
          · rw [q2, q4, Bool.false_and, Bool.false_or, Bool.true_and] at h2
            exact h2
          · rw [q2, q4, Bool.false_and, Bool.false_or, Bool.false_and] at h2
            exact h2
        · simp only [bodyB, env0, slA, List.map_cons, List.map_nil, List.cons_append, List.nil_append, List.length_cons, List.length_nil, List.replicate, List.getElem?_cons_zero, List.getElem?_cons_succ, List.set_cons_zero, List.set_cons_succ, Option.some.injEq, Sl.dat.injEq, Sl.own.injEq, PyData.bool.injEq, PyData.int.injEq, PyData.str.injEq, PyData.tuple.injEq, PyData.list.injEq, PyData.dict.injEq, Sl.tab.injEq, List.cons.injEq, exists_eq_left', exists_eq_left, eq_self, decide_true, if_true, reduceIte, Int.reduceLE, pure1, pure2, pure3, pure4, leiF_int, liF_int, giF_int, geiF_int, addF_int, subF_int, eqEF_nil, neF_int, eqF_int, lenF_str, lenF_list, lenF_tup, wipe0, wipe1, true_and, and_true, frz_list, frz_dict, frz_tup, frz_dat, frz_no, frz_pen, tab_list, tab_dict, Nat.reduceAdd, Nat.reduceSub, eqF_int, eqSF_str, at5_3, idxG]
          have e1 : pointB mp (.tuple [.str z, .int p, .tuple ls, .tuple sl, e]) (.tuple [w, s, i]) = (strIs w "slot" && intIn s 0 ((sl.length : Int) - 1) && thirdB mp (.tuple [.str z, .int p, .tuple ls, .tuple sl, e]) i s) := rfl
          rw [e1] at h2
          refine ⟨fun _ => ⟨fun q2 => ⟨fun q3 => ?_, fun q3 => ?_⟩, fun q2 => ?_⟩, fun q => absurd q (by decide)⟩
          · obtain ⟨n, rfl, n0, n1⟩ := int_in q3
            obtain ⟨nm, m, q, r, g1, g2, _, hm, g3⟩ := held_at hb n0 (show n < sl.length by omega)
            obtain ⟨z2, p2, ls2, sl2, e2, rfl⟩ := chart_shape hm
            refine ⟨nm, g1, _, g2, _, rfl, _, rfl, ?_⟩
            rw [q2, q3, Bool.true_and, Bool.true_and] at h2
            have e3 : thirdB mp (.tuple [.str z, .int p, .tuple ls, .tuple sl, e]) i (.int n) = intIn i 0 (p2 - 1) := by
              show intIn i 0 (portsD (innerD mp (.tuple [.str z, .int p, .tuple ls, .tuple sl, e]) n) - 1) = _
              rw [g3] <;> rfl
            rw [e3] at h2
            exact h2
          · rw [q3, Bool.and_false, Bool.false_and] at h2
            exact h2
          · rw [q2, Bool.false_and, Bool.false_and] at h2
            exact h2
    · rw [if_neg hb] at h1
      cases h1
  · cases h1
end
end SM

set_option Elab.async false
set_option linter.all false
set_option maxRecDepth 100000
set_option maxHeartbeats 4000000
namespace SM
open PySem PySem.Spec PyProof.Rows L2
section
variable [PW] {K : PySem.W.Frag} {mg : Str → Option Value} {base : Heap} {kt : Str}
abbrev s_is_edge : Stmt := topS 29
theorem sc_is_edge : FnScope ["maps", "chart", "value", "source", "target", "cost"] ["maps", "chart", "value"] (defScope s_is_edge) := ⟨rfl, rfl, rfl, by decide +kernel, rfl, by decide +kernel, by decide +kernel⟩

def edgeB (mp : List (PyData × PyData)) (chart : PyData) : PyData → Bool
  | .tuple [s, t, c] => pointB mp chart s && pointB mp chart t && !PyData.eqv s t && intIn c 1 1000000
  | _ => false
def edgeG1 : List PyData → Option PyData
  | [.dict mp, chart, v] => if heldB mp chart = true then some (.bool (edgeB mp chart v)) else none
  | _ => none
/-- a word and numbers -/
def ptB : PyData → Bool
  | .tuple [.str _, .int _] => true
  | .tuple [.str _, .int _, .int _] => true
  | _ => false
theorem str_of_is {d : PyData} {z : Str} (h : strIs d z = true) : ∃ x, d = .str x := by
  cases d <;> first | (cases h; done) | exact ⟨_, rfl⟩
theorem point_pt {mp : List (PyData × PyData)} {chart v : PyData} (h : pointB mp chart v = true) : ptB v = true := by
  unfold pointB at h
  split at h
  · rename_i w s i
    simp only [Bool.and_eq_true] at h
    obtain ⟨⟨h1, h2⟩, h3⟩ := h
    obtain ⟨x, rfl⟩ := str_of_is h1
    obtain ⟨n, rfl, _⟩ := int_in h2
    obtain ⟨m, rfl, _⟩ := int_in (show intIn i 0 _ = true from h3)
    rfl
  · rename_i w j
    simp only [Bool.or_eq_true, Bool.and_eq_true] at h
    rcases h with ⟨h1, h2⟩ | ⟨h1, h2⟩
    · obtain ⟨x, rfl⟩ := str_of_is h1
      obtain ⟨n, rfl, _⟩ := int_in h2
      rfl
    · obtain ⟨x, rfl⟩ := str_of_is h1
      obtain ⟨n, rfl, _⟩ := int_in h2
      rfl
  · cases h
theorem pt_shape {v : PyData} (h : ptB v = true) : (∃ x i, v = .tuple [.str x, .int i]) ∨ ∃ x i j, v = .tuple [.str x, .int i, .int j] := by
  unfold ptB at h
  split at h
  · exact .inl ⟨_, _, rfl⟩
  · exact .inr ⟨_, _, _, rfl⟩
  · cases h
theorem pt_plain {v : PyData} (h : ptB v = true) : v.plain = true ∧ v.depth = 1 := by
  rcases pt_shape h with ⟨x, i, rfl⟩ | ⟨x, i, j, rfl⟩ <;> exact ⟨rfl, rfl⟩
theorem pt_alike {v u : PyData} (h : ptB v = true) (h' : ptB u = true) : PySem.W.alike v u = true := by
  rcases pt_shape h with ⟨x, i, rfl⟩ | ⟨x, i, j, rfl⟩ <;> rcases pt_shape h' with ⟨y, k, rfl⟩ | ⟨y, k, l, rfl⟩ <;> rfl
theorem neF_pt {v u : PyData} (h : ptB v = true) (h' : ptB u = true) : neF v u = some (.bool (!PyData.eqv v u)) := by
  unfold neF
  rw [if_pos (by simp [shal, (pt_plain h).1, (pt_plain h').1, (pt_plain h).2])]
theorem three {v : PyData} (h : tupIn v 3 3 = true) : ∃ a b c, v = .tuple [a, b, c] := by
  cases v <;> first | (cases h; done) | skip
  rename_i xs
  simp only [tupIn, Bool.and_eq_true, decide_eq_true_eq] at h
  match xs with
  | [] => simp at h
  | [_] => simp at h
  | [_, _] => simp at h
  | [a, b, c] => exact ⟨a, b, c, rfl⟩
  | _ :: _ :: _ :: _ :: _ => simp at h; omega
abbrev O_is_edge (K : PySem.W.Frag) (mg : Str → Option Value) (base : Heap) (kt : Str) : Prop := Ok PW.prog PW.world K mg base CX0 "is_edge" ["maps", "chart", "value"] 5 (liftS K kt 3 (pureS edgeG1))
theorem ok_is_edge (T : Txt K mg) (D : Def K mg "is_edge" s_is_edge ["maps", "chart", "value"]) (O1 : O_is_tuple K mg base kt) (O2 : O_is_point K mg base kt) (O3 : O_is_integer_in K mg base kt) : O_is_edge K mg base kt := by
  obtain ⟨f_is_tuple, fd_is_tuple, G_is_tuple, g_is_tuple, k_is_tuple, b_is_tuple⟩ := O1
  obtain ⟨f_is_point, fd_is_point, G_is_point, g_is_point, k_is_point, b_is_point⟩ := O2
  obtain ⟨f_is_integer_in, fd_is_integer_in, G_is_integer_in, g_is_integer_in, k_is_integer_in, b_is_integer_in⟩ := O3
  refine D.okS sc_is_edge rfl fun f cdv A outer s H E hr hq => ⟨_, _, (pss_cons (ps_if (pt_not (pt_val (pe_callG G_is_tuple (hr.mono (by omega)) hq (by rfl) g_is_tuple k_is_tuple b_is_tuple pass0 (pa_cons (pv 2) (pa_cons pe_int (pa_cons pe_int pa_nil)))))) (pss_one (ps_ret pe_bl)) pss_nil)
      (pss_cons (ps_asg (pv 2) (pg_tup (n := 3) (by rfl) (pgs_cons (pg_name (i := 3) sc_is_edge.nd rfl (Or.inl rfl)) (pgs_cons (pg_name (i := 4) sc_is_edge.nd rfl (Or.inl rfl)) (pgs_cons (pg_name (i := 5) sc_is_edge.nd rfl (Or.inl rfl)) pgs_nil)))))
      (pss_one (ps_ret (pe_and (pe_callG G_is_point (hr.mono (by omega)) hq (by rfl) g_is_point k_is_point b_is_point pass0 (pa_cons (pv 0) (pa_cons (pv 1) (pa_cons (pv 3) pa_nil)))) (pe_and (pe_callG G_is_point (hr.mono (by omega)) hq (by rfl) g_is_point k_is_point b_is_point pass0 (pa_cons (pv 0) (pa_cons (pv 1) (pa_cons (pv 4) pa_nil)))) (pe_and (pe_cmpR (op_neP hr.units) (pv 3) (pv 4) (nomark _)) (pe_one (pe_callG G_is_integer_in (hr.mono (by omega)) hq (by rfl) g_is_integer_in k_is_integer_in b_is_integer_in pass0 (pa_cons (pv 5) (pa_cons pe_int (pa_cons (pe_glob (v := .int 1000000) (by rfl) T.k_MOST_COST.choose_spec ⟨_, rfl⟩) pa_nil)))))))))))), (as_seq (as_if (at_not (at_B (ab_call (ap_cons (ab_var 2) (ap_cons (ab_int _) (ap_cons (ab_int _) ap_nil)))))) (as_ret (ab_bl _)) as_nil)
      (as_seq (as_asg (ws := [3, 4, 5]) (ab_var 2) (ag_tup (ag_cons (ag_name 3 (by decide)) (ag_cons (ag_name 4 (by decide)) (ag_cons (ag_name 5 (by decide)) ag_nil)))))
      (as_ret (ab_and (ab_call (ap_cons (ab_var 0) (ap_cons (ab_var 1) (ap_cons (ab_var 3) ap_nil)))) (ab_and (ab_call (ap_cons (ab_var 0) (ap_cons (ab_var 1) (ap_cons (ab_var 4) ap_nil)))) (ab_and (ab_op oa_neP (ab_var 3) (ab_var 4)) (ab_call (ap_cons (ab_var 5) (ap_cons (ab_int _) (ap_cons (ab_int _) ap_nil)))))))))), fun qs k R hl h => ?_⟩
  obtain ⟨ds, d, rfl, h1, h2⟩ := pure_in h
  unfold edgeG1 at h1
  split at h1
  · rename_i mp chart v
    by_cases hb : heldB mp chart = true
    · rw [if_pos hb] at h1
      cases h1
      simp only [bodyB, env0, slA, List.map_cons, List.map_nil, List.cons_append, List.nil_append, List.length_cons, List.length_nil, List.replicate, List.getElem?_cons_zero, List.getElem?_cons_succ, List.set_cons_zero, List.set_cons_succ, Option.some.injEq, Sl.dat.injEq, Sl.own.injEq, PyData.bool.injEq, PyData.int.injEq, PyData.str.injEq, PyData.tuple.injEq, PyData.list.injEq, PyData.dict.injEq, Sl.tab.injEq, List.cons.injEq, exists_eq_left', exists_eq_left, eq_self, decide_true, if_true, reduceIte, Int.reduceLE, pure1, pure2, pure3, pure4, leiF_int, liF_int, giF_int, geiF_int, addF_int, subF_int, eqEF_nil, neF_int, eqF_int, lenF_str, lenF_list, lenF_tup, wipe0, wipe1, true_and, and_true, frz_list, frz_dict, frz_tup, frz_dat, frz_no, frz_pen, tab_list, tab_dict, Nat.reduceAdd, Nat.reduceSub, tupG]
      refine ⟨fun q1 => ?_, fun q1 => ?_⟩
      · have e1 : edgeB mp chart v = false := by
          cases v <;> first | rfl | skip
          rename_i xs
          match xs with
          | [] | [_] | [_, _] | _ :: _ :: _ :: _ :: _ => rfl
          | [a, b, c] => simp [tupIn] at q1
        rw [e1] at h2
        exact h2
      · obtain ⟨a, b, c, rfl⟩ := three (by simpa using q1)
        have e0 : ∀ u, pointG [.dict mp, chart, u] = some (.bool (pointB mp chart u)) := fun u => if_pos hb
        simp only [bodyB, env0, slA, List.map_cons, List.map_nil, List.cons_append, List.nil_append, List.length_cons, List.length_nil, List.replicate, List.getElem?_cons_zero, List.getElem?_cons_succ, List.set_cons_zero, List.set_cons_succ, Option.some.injEq, Sl.dat.injEq, Sl.own.injEq, PyData.bool.injEq, PyData.int.injEq, PyData.str.injEq, PyData.tuple.injEq, PyData.list.injEq, PyData.dict.injEq, Sl.tab.injEq, List.cons.injEq, exists_eq_left', exists_eq_left, eq_self, decide_true, if_true, reduceIte, Int.reduceLE, pure1, pure2, pure3, pure4, leiF_int, liF_int, giF_int, geiF_int, addF_int, subF_int, eqEF_nil, neF_int, eqF_int, lenF_str, lenF_list, lenF_tup, wipe0, wipe1, true_and, and_true, frz_list, frz_dict, frz_tup, frz_dat, frz_no, frz_pen, tab_list, tab_dict, Nat.reduceAdd, Nat.reduceSub, e0, intInG]
        have e1 : edgeB mp chart (.tuple [a, b, c]) = (pointB mp chart a && pointB mp chart b && !PyData.eqv a b && intIn c 1 1000000) := rfl
        rw [e1] at h2
        refine ⟨fun q2 => ⟨fun q3 => ?_, fun q3 => ?_⟩, fun q2 => ?_⟩
        · rw [neF_pt (point_pt q2) (point_pt q3)]
          simp only [bodyB, env0, slA, List.map_cons, List.map_nil, List.cons_append, List.nil_append, List.length_cons, List.length_nil, List.replicate, List.getElem?_cons_zero, List.getElem?_cons_succ, List.set_cons_zero, List.set_cons_succ, Option.some.injEq, Sl.dat.injEq, Sl.own.injEq, PyData.bool.injEq, PyData.int.injEq, PyData.str.injEq, PyData.tuple.injEq, PyData.list.injEq, PyData.dict.injEq, Sl.tab.injEq, List.cons.injEq, exists_eq_left', exists_eq_left, eq_self, decide_true, if_true, reduceIte, Int.reduceLE, pure1, pure2, pure3, pure4, leiF_int, liF_int, giF_int, geiF_int, addF_int, subF_int, eqEF_nil, neF_int, eqF_int, lenF_str, lenF_list, lenF_tup, wipe0, wipe1, true_and, and_true, frz_list, frz_dict, frz_tup, frz_dat, frz_no, frz_pen, tab_list, tab_dict, Nat.reduceAdd, Nat.reduceSub]
          rw [q2, q3, Bool.true_and, Bool.true_and] at h2
          refine ⟨fun q4 => ?_, fun q4 => ?_⟩
          · rw [q4, Bool.true_and] at h2
            exact h2
          · rw [q4, Bool.false_and] at h2
            exact h2
        · rw [q3, Bool.and_false, Bool.false_and, Bool.false_and] at h2
          exact h2
        · rw [q2, Bool.false_and, Bool.false_and, Bool.false_and] at h2
          exact h2
    · rw [if_neg hb] at h1
      cases h1
  · cases h1
end
end SM

set_option Elab.async false
set_option linter.all false
set_option maxRecDepth 100000
set_option maxHeartbeats 4000000
namespace SM
open PySem PySem.Spec PyProof.Rows L2
section
variable [PW] {K : PySem.W.Frag} {mg : Str → Option Value} {base : Heap} {kt : Str}
abbrev s_edge_fault : Stmt := topS 28
theorem sc_edge_fault : FnScope ["atlas", "maps", "k", "chart", "before", "e", "edge"] ["atlas"] (defScope s_edge_fault) := ⟨rfl, rfl, rfl, by decide +kernel, rfl, by decide +kernel, by decide +kernel⟩

def twoD : PyData → PyData
  | .tuple (s :: t :: _) => .tuple [s, t]
  | _ => .tuple []
def edgeIn (mp : List (PyData × PyData)) (chart : PyData) (k : Nat) : Nat → PyData → List PyData → Option PyData
  | _, _, [] => none
  | e, b, d :: r => if (!edgeB mp chart d || !PySem.W.dataLt b (twoD d)) = true then some (.tuple [.str "edge", .int (k : Nat), .int (e : Nat)]) else edgeIn mp chart k (e + 1) (twoD d) r
def edgeAt (mp : List (PyData × PyData)) : Nat → List PyData → PyData
  | _, [] => .none
  | k, d :: r => match edgeIn mp d k 0 (.tuple []) (itemsD (partD 4 d)) with
    | some e => e
    | none => edgeAt mp (k + 1) r
def edgePre (ds : List PyData) : Bool := decide (ds.length ≤ 100000) && ds.all headB && ds.all (heldB (mapsD [] ds)) && ds.all fun d => isTup (partD 4 d)
def edgeG : List PyData → Option PyData
  | [.tuple ds] => if edgePre ds = true then some (edgeAt (mapsD [] ds) 0 ds) else none
  | _ => none
/-- what stood ahead: nothing, or two points -/
def befB (b : PyData) : Prop := b = .tuple [] ∨ ∃ s t, b = .tuple [s, t] ∧ ptB s = true ∧ ptB t = true
theorem edge_shape {mp : List (PyData × PyData)} {chart d : PyData} (h : edgeB mp chart d = true) : ∃ s t c, d = .tuple [s, t, c] ∧ ptB s = true ∧ ptB t = true := by
  unfold edgeB at h
  split at h
  · rename_i s t c
    simp only [Bool.and_eq_true] at h
    exact ⟨s, t, c, rfl, point_pt h.1.1.1, point_pt h.1.1.2⟩
  · cases h
theorem two_plain {s t : PyData} (h : ptB s = true) (h' : ptB t = true) : (PyData.tuple [s, t]).plain = true ∧ (PyData.tuple [s, t]).depth = 2 := by
  obtain ⟨h1, h2⟩ := pt_plain h
  obtain ⟨h3, h4⟩ := pt_plain h'
  refine ⟨?_, ?_⟩
  · show (s.plain && (t.plain && true)) = true
    rw [h1, h3] <;> rfl
  · show max s.depth (max t.depth 0) + 1 = 2
    rw [h2, h4] <;> rfl
theorem leF_two {s t b : PyData} (h : ptB s = true) (h' : ptB t = true) (hb : befB b) : leF (.tuple [s, t]) b = some (.bool (!PySem.W.dataLt b (.tuple [s, t]))) := by
  obtain ⟨h1, h2⟩ := two_plain h h'
  unfold leF
  rw [if_pos]
  rcases hb with rfl | ⟨s', t', rfl, h3, h4⟩
  · simp [shal, h1, h2, isNone, PyData.plain, PyData.plainAll, PySem.W.alike, PySem.W.alikeAll, (pt_plain h).1, (pt_plain h').1]
  · obtain ⟨h5, h6⟩ := two_plain h3 h4
    have e : PySem.W.alike (.tuple [s, t]) (.tuple [s', t']) = true := by
      show (PySem.W.alike s s' && (PySem.W.alike t t' && true)) = true
      rw [pt_alike h h3, pt_alike h' h4] <;> rfl
    simp [shal, h1, h2, h5, isNone, e]
theorem cut2 (s t c : PyData) : slTF (.tuple [s, t, c]) none (some 2) = some (.tuple [s, t]) := rfl
abbrev O_edge_fault (K : PySem.W.Frag) (mg : Str → Option Value) (base : Heap) (kt : Str) : Prop := Ok PW.prog PW.world K mg base CX0 "edge_fault" ["atlas"] 6 (liftS K kt 1 (pureS edgeG))
theorem ok_edge_fault (T : Txt K mg) (D : Def K mg "edge_fault" s_edge_fault ["atlas"]) (O1 : O_maps_by_name K mg base kt) (O2 : O_is_edge K mg base kt) : O_edge_fault K mg base kt := by
  obtain ⟨f_maps_by_name, fd_maps_by_name, G_maps_by_name, g_maps_by_name, k_maps_by_name, b_maps_by_name⟩ := O1
  obtain ⟨f_is_edge, fd_is_edge, G_is_edge, g_is_edge, k_is_edge, b_is_edge⟩ := O2
  refine D.okS sc_edge_fault rfl fun f cdv A outer s H E hr hq => ⟨_, _, (pss_cons (ps_set (i := 1) sc_edge_fault.nd rfl (Or.inl rfl) (pe_callG G_maps_by_name (hr.mono (by omega)) hq (by rfl) g_maps_by_name k_maps_by_name b_maps_by_name pass0 (pa_cons (pv 0) pa_nil)))
      (pss_cons (ps_for PassesOwn.never rfl (pi_enumT (by rfl) T.b_enumerate (pa_cons (pv 0) pa_nil)) (pg_tup (n := 2) (by rfl) (pgs_cons (pg_name (i := 2) sc_edge_fault.nd rfl (Or.inl rfl)) (pgs_cons (pg_name (i := 3) sc_edge_fault.nd rfl (Or.inl rfl)) pgs_nil)))
        (pss_cons (ps_set (i := 4) sc_edge_fault.nd rfl (Or.inl rfl) (pe_tup pa_nil))
          (pss_one (ps_for PassesOwn.never rfl (pi_enumT (by rfl) T.b_enumerate (pa_cons (pe_ix ix_seq (pv 3) pe_int (fun _ _ => rfl)) pa_nil)) (pg_tup (n := 2) (by rfl) (pgs_cons (pg_name (i := 5) sc_edge_fault.nd rfl (Or.inl rfl)) (pgs_cons (pg_name (i := 6) sc_edge_fault.nd rfl (Or.inl rfl)) pgs_nil)))
            (pss_cons (ps_if (PW.pt (pw_or (pt_not (pt_val (pe_callG G_is_edge (hr.mono (by omega)) hq (by rfl) g_is_edge k_is_edge b_is_edge pass0 (pa_cons (pv 1) (pa_cons (pv 3) (pa_cons (pv 6) pa_nil)))))) (pw_or1 (pt_cmpR (op_leP hr.units) (pe_slice sl_tupA (pv 6) po_none (po_some pe_int)) (pv 4) (nomark _))))) (pss_one (ps_ret (pe_tup (pa_cons pe_str (pa_cons (pv 2) (pa_cons (pv 5) pa_nil)))))) pss_nil)
              (pss_one (ps_set (i := 4) sc_edge_fault.nd rfl (Or.inl rfl) (pe_slice sl_tupA (pv 6) po_none (po_some pe_int)))))))))
      (pss_one (ps_ret pe_non)))), (as_seq (as_set 1 (ab_call (ap_cons (ab_var 0) ap_nil)))
      (as_seq (as_for (ws := [2, 3]) (ai_enumT (ab_acons (ab_var 0) ab_anil)) (ag_tup (ag_cons (ag_name 2 (by decide)) (ag_cons (ag_name 3 (by decide)) ag_nil)))
        (as_seq (as_set 4 (ab_tup ab_anil))
          (as_for (ws := [5, 6]) (ai_enumT (ab_acons (ab_op oa_ix (ab_var 3) (ab_int _)) ab_anil)) (ag_tup (ag_cons (ag_name 5 (by decide)) (ag_cons (ag_name 6 (by decide)) ag_nil)))
            (as_seq (as_if (at_or (at_not (at_B (ab_call (ap_cons (ab_var 1) (ap_cons (ab_var 3) (ap_cons (ab_var 6) ap_nil)))))) (at_test (ab_op oa_leP (ab_sl sa_tup (ab_var 6) ao_none (ao_some (ab_int _))) (ab_var 4)))) (as_ret (ab_tup (ab_acons (ab_str _ (by decide +kernel)) (ab_acons (ab_var 2) (ab_acons (ab_var 5) ab_anil))))) as_nil)
              (as_set 4 (ab_sl sa_tup (ab_var 6) ao_none (ao_some (ab_int _))))))))
      (as_ret ab_non))), fun qs k R hl h => ?_⟩
  obtain ⟨ds, d, rfl, h1, h2⟩ := pure_in h
  unfold edgeG at h1
  split at h1
  · rename_i ds
    by_cases hp : edgePre ds = true
    · rw [if_pos hp] at h1
      cases h1
      simp only [edgePre, Bool.and_eq_true] at hp
      obtain ⟨⟨⟨hz, hd⟩, hh⟩, ht⟩ := hp
      have e0 : mapsG [.tuple ds] = some (.dict (mapsD [] ds)) := if_pos (by rw [hz, hd] <;> rfl)
      simp only [bodyB, env0, slA, List.map_cons, List.map_nil, List.cons_append, List.nil_append, List.length_cons, List.length_nil, List.replicate, List.getElem?_cons_zero, List.getElem?_cons_succ, List.set_cons_zero, List.set_cons_succ, Option.some.injEq, Sl.dat.injEq, Sl.own.injEq, PyData.bool.injEq, PyData.int.injEq, PyData.str.injEq, PyData.tuple.injEq, PyData.list.injEq, PyData.dict.injEq, Sl.tab.injEq, List.cons.injEq, exists_eq_left', exists_eq_left, eq_self, decide_true, if_true, reduceIte, Int.reduceLE, pure1, pure2, pure3, pure4, leiF_int, liF_int, giF_int, geiF_int, addF_int, subF_int, eqEF_nil, neF_int, eqF_int, lenF_str, lenF_list, lenF_tup, wipe0, wipe1, true_and, and_true, frz_list, frz_dict, frz_tup, frz_dat, frz_no, frz_pen, tab_list, tab_dict, Nat.reduceAdd, Nat.reduceSub, e0]
      generalize mapsD [] ds = mp at h2 hh ⊢
      refine for_rec (fun es env k1 => ∃ (i : Nat) (rs : List PyData) (s2 s3 s4 s5 s6 : Sl), es = enumD i rs ∧ rs.all headB = true ∧ rs.all (heldB mp) = true ∧ (rs.all fun d => isTup (partD 4 d)) = true ∧ env = [.dat (.tuple ds), .dat (.dict mp), s2, s3, s4, s5, s6] ∧ ∃ k', k' ≤ k1 ∧ R (edgeAt mp i rs) k') ?_ ?_ ⟨0, ds, _, _, _, _, _, rfl, hd, hh, ht, rfl, h2⟩
      · rintro env k1 ⟨i, rs, s2, s3, s4, s5, s6, e, _, _, _, _, r⟩
        cases rs with
        | nil => exact r
        | cons => cases e
      · rintro d es env k1 ⟨i, rs, s2, s3, s4, s5, s6, e, ha, hb, hc, rfl, r⟩ N hN
        cases rs with
        | nil => cases e
        | cons x rs =>
          cases e
          rw [List.all_cons, Bool.and_eq_true] at ha hb hc
          obtain ⟨a, b, c, l, e, rfl⟩ := head_five ha.1
          have hx := hb.1
          have he : ∃ xs, e = .tuple xs := by
            have q : isTup e = true := hc.1
            cases e <;> first | (cases q; done) | exact ⟨_, rfl⟩
          obtain ⟨xs, rfl⟩ := he
          generalize hch : PyData.tuple [a, b, c, l, .tuple xs] = chart at hx r
          have g4 : atD chart (.int 4) = some (.tuple xs) := by
            rw [← hch]
            exact at5_4 _ _ _ _ _
          have e2 : edgeAt mp i (chart :: rs) = match edgeIn mp chart i 0 (.tuple []) xs with
            | some e => e
            | none => edgeAt mp (i + 1) rs := by
            rw [← hch] <;> rfl
          simp only [bodyB, env0, slA, List.map_cons, List.map_nil, List.cons_append, List.nil_append, List.length_cons, List.length_nil, List.replicate, List.getElem?_cons_zero, List.getElem?_cons_succ, List.set_cons_zero, List.set_cons_succ, Option.some.injEq, Sl.dat.injEq, Sl.own.injEq, PyData.bool.injEq, PyData.int.injEq, PyData.str.injEq, PyData.tuple.injEq, PyData.list.injEq, PyData.dict.injEq, Sl.tab.injEq, List.cons.injEq, exists_eq_left', exists_eq_left, eq_self, decide_true, if_true, reduceIte, Int.reduceLE, pure1, pure2, pure3, pure4, leiF_int, liF_int, giF_int, geiF_int, addF_int, subF_int, eqEF_nil, neF_int, eqF_int, lenF_str, lenF_list, lenF_tup, wipe0, wipe1, true_and, and_true, frz_list, frz_dict, frz_tup, frz_dat, frz_no, frz_pen, tab_list, tab_dict, Nat.reduceAdd, Nat.reduceSub, g4]
          rw [e2] at r
          refine ⟨by decide, ?_⟩
          refine for_rec (fun es env k1 => ∃ (j : Nat) (ys : List PyData) (bf : PyData) (s5 s6 : Sl), es = enumD j ys ∧ befB bf ∧ env = [.dat (.tuple ds), .dat (.dict mp), .dat (.int (i : Nat)), .dat chart, .dat bf, s5, s6] ∧ ∃ k', k' ≤ k1 ∧ R (match edgeIn mp chart i j bf ys with
            | some e => e
            | none => edgeAt mp (i + 1) rs) k') ?_ ?_ ⟨0, xs, .tuple [], _, _, rfl, .inl rfl, rfl, r⟩
          · rintro env k2 ⟨j, ys, bf, s5, s6, e, _, rfl, r⟩
            cases ys with
            | nil => exact hN _ _ ⟨i + 1, rs, _, _, _, _, _, rfl, ha.2, hb.2, hc.2, rfl, r⟩
            | cons => cases e
          · rintro d es env k2 ⟨j, ys, bf, s5, s6, e, hbf, rfl, r⟩ N2 hN2
            cases ys with
            | nil => cases e
            | cons y ys =>
              cases e
              have g0 : edgeG1 [.dict mp, chart, y] = some (.bool (edgeB mp chart y)) := if_pos hx
              simp only [bodyB, env0, slA, List.map_cons, List.map_nil, List.cons_append, List.nil_append, List.length_cons, List.length_nil, List.replicate, List.getElem?_cons_zero, List.getElem?_cons_succ, List.set_cons_zero, List.set_cons_succ, Option.some.injEq, Sl.dat.injEq, Sl.own.injEq, PyData.bool.injEq, PyData.int.injEq, PyData.str.injEq, PyData.tuple.injEq, PyData.list.injEq, PyData.dict.injEq, Sl.tab.injEq, List.cons.injEq, exists_eq_left', exists_eq_left, eq_self, decide_true, if_true, reduceIte, Int.reduceLE, pure1, pure2, pure3, pure4, leiF_int, liF_int, giF_int, geiF_int, addF_int, subF_int, eqEF_nil, neF_int, eqF_int, lenF_str, lenF_list, lenF_tup, wipe0, wipe1, true_and, and_true, frz_list, frz_dict, frz_tup, frz_dat, frz_no, frz_pen, tab_list, tab_dict, Nat.reduceAdd, Nat.reduceSub, g0]
              have e3 : edgeIn mp chart i j bf (y :: ys) = if (!edgeB mp chart y || !PySem.W.dataLt bf (twoD y)) = true then some (.tuple [.str "edge", .int (i : Nat), .int (j : Nat)]) else edgeIn mp chart i (j + 1) (twoD y) ys := rfl
              rw [e3] at r
              refine ⟨fun q1 => ?_, fun q1 => ?_⟩
              · rw [if_pos (by rw [q1, Bool.true_or])] at r
                exact ⟨fun _ => ⟨by decide, r⟩, fun z => absurd z (by decide)⟩
              · obtain ⟨s, t, cc, rfl, p1, p2⟩ := edge_shape (by simpa using q1)
                rw [q1, Bool.false_or] at r
                simp only [bodyB, env0, slA, List.map_cons, List.map_nil, List.cons_append, List.nil_append, List.length_cons, List.length_nil, List.replicate, List.getElem?_cons_zero, List.getElem?_cons_succ, List.set_cons_zero, List.set_cons_succ, Option.some.injEq, Sl.dat.injEq, Sl.own.injEq, PyData.bool.injEq, PyData.int.injEq, PyData.str.injEq, PyData.tuple.injEq, PyData.list.injEq, PyData.dict.injEq, Sl.tab.injEq, List.cons.injEq, exists_eq_left', exists_eq_left, eq_self, decide_true, if_true, reduceIte, Int.reduceLE, pure1, pure2, pure3, pure4, leiF_int, liF_int, giF_int, geiF_int, addF_int, subF_int, eqEF_nil, neF_int, eqF_int, lenF_str, lenF_list, lenF_tup, wipe0, wipe1, true_and, and_true, frz_list, frz_dict, frz_tup, frz_dat, frz_no, frz_pen, tab_list, tab_dict, Nat.reduceAdd, Nat.reduceSub, cut2, leF_two p1 p2 hbf]
                refine ⟨fun q2 => ?_, fun q2 => ?_⟩
                · rw [if_pos (show (!PySem.W.dataLt bf (twoD (.tuple [s, t, cc]))) = true from q2)] at r
                  exact ⟨by decide, r⟩
                · rw [if_neg (by rw [show (!PySem.W.dataLt bf (twoD (.tuple [s, t, cc]))) = false from q2]; exact Bool.false_ne_true)] at r
                  exact hN2 _ _ ⟨j + 1, ys, .tuple [s, t], _, _, rfl, .inr ⟨s, t, rfl, p1, p2⟩, rfl, r⟩
    · rw [if_neg hp] at h1
      cases h1
  · cases h1
end
end SM

set_option Elab.async false
set_option linter.all false
set_option maxRecDepth 100000
set_option maxHeartbeats 4000000
namespace SM
open PySem PySem.Spec PyProof.Rows L2
section
variable [PW] {K : PySem.W.Frag} {mg : Str → Option Value} {base : Heap} {kt : Str}
theorem map_none : ∀ {ds : List PyData} {i : Nat} {b : PyData}, isNone (mapAt i b ds) = true → ds.all headB = true
  | [], _, _, _ => rfl
  | d :: r, i, b, h => by
    unfold mapAt at h
    by_cases q : (!headB d || !PySem.W.dataLt b (firstD d)) = true
    · rw [if_pos q] at h
      cases h
    · rw [if_neg q] at h
      have q1 : headB d = true := by
        cases e : headB d with
        | true => rfl
        | false => exact absurd (by rw [e]; rfl) q
      rw [List.all_cons, q1, map_none h] <;> rfl
theorem slot_in_none {ns : List PyData} {k : Nat} : ∀ {xs : List PyData} {s : Nat}, slotIn ns k s xs = none → xs.all (inNames ns) = true
  | [], _, _ => rfl
  | d :: r, s, h => by
    unfold slotIn at h
    by_cases q : inNames ns d = true
    · rw [if_pos q] at h
      rw [List.all_cons, q, slot_in_none h] <;> rfl
    · rw [if_neg q] at h
      cases h
theorem slot_none {ns : List PyData} : ∀ {ds : List PyData} {i : Nat}, isNone (slotAt ns i ds) = true → (ds.all fun d => (slotsD d).all (inNames ns)) = true
  | [], _, _ => rfl
  | d :: r, i, h => by
    have e : slotAt ns i (d :: r) = match slotIn ns i 0 (slotsD d) with
      | some e => e
      | none => slotAt ns (i + 1) r := rfl
    rw [e] at h
    cases q : slotIn ns i 0 (slotsD d) with
    | some x =>
      rw [q] at h
      have key : ∀ {xs : List PyData} {s : Nat} {x : PyData}, slotIn ns i s xs = some x → isNone x = false := by
        intro xs
        induction xs with
        | nil => intro s x q; cases q
        | cons y ys ih =>
          intro s x q
          unfold slotIn at q
          split at q
          · exact ih q
          · cases q
            rfl
      rw [show isNone x = false from key q] at h
      cases h
    | none =>
      rw [q] at h
      rw [List.all_cons, slot_in_none q, slot_none h] <;> rfl
theorem edges_none : ∀ {ds : List PyData} {i : Nat}, isNone (edgesAt i ds) = true → (ds.all fun d => isTup (partD 4 d)) = true
  | [], _, _ => rfl
  | d :: r, i, h => by
    unfold edgesAt at h
    by_cases q : tupIn (partD 4 d) 0 40 = true
    · rw [if_pos q] at h
      have q1 : isTup (partD 4 d) = true := by
        cases e : partD 4 d <;> first | rfl | (rw [e] at q; cases q; done)
      rw [List.all_cons, q1, edges_none h] <;> rfl
    · rw [if_neg q] at h
      cases h
/-! every name of the maps is a key -/
theorem keyEq_iff {p : PyData} {k : Key} : keyEq p k = true ↔ toKey p = some k := by
  unfold keyEq
  cases toKey p with
  | none => simp
  | some j => simp
theorem look_cons (p : PyData × PyData) (r : List (PyData × PyData)) (k : Key) : lookD (p :: r) k = if keyEq p.1 k = true then some p.2 else lookD r k := by
  unfold lookD
  by_cases h : keyEq p.1 k = true
  · rw [List.find?_cons_of_pos (p := fun q : PyData × PyData => keyEq q.1 k) h, if_pos h] <;> rfl
  · rw [List.find?_cons_of_neg (p := fun q : PyData × PyData => keyEq q.1 k) h, if_neg h]
theorem look_map (j k : Key) (c : PyData) : ∀ ds : List (PyData × PyData), lookD (ds.map fun p => if keyEq p.1 j = true then (p.1, c) else p) k = if k = j then (lookD ds k).map (fun _ => c) else lookD ds k
  | [] => by
    split <;> rfl
  | p :: r => by
    rw [List.map_cons, look_cons, look_cons, look_map j k c r]
    by_cases hj : keyEq p.1 j = true
    · rw [if_pos hj]
      by_cases hk : keyEq p.1 k = true
      · have e : k = j := by
          rw [keyEq_iff] at hj hk
          rw [hj] at hk
          exact (Option.some.inj hk).symm
        rw [if_pos hk, if_pos hk, if_pos e] <;> rfl
      · have hk' : ¬ keyEq (p.1, c).1 k = true := hk
        rw [if_neg hk', if_neg hk]
    · rw [if_neg hj]
      by_cases hk : keyEq p.1 k = true
      · have e : ¬ k = j := fun z => hj (by rw [← z]; exact hk)
        rw [if_pos hk, if_neg e, if_pos hk]
      · rw [if_neg hk, if_neg hk]
theorem look_any (j : Key) : ∀ ds : List (PyData × PyData), (ds.any fun p => keyEq p.1 j) = (lookD ds j).isSome
  | [] => rfl
  | p :: r => by
    rw [List.any_cons, look_cons, look_any j r]
    by_cases h : keyEq p.1 j = true
    · rw [if_pos h, h] <;> rfl
    · rw [if_neg h, Bool.eq_false_iff.mpr h, Bool.false_or]
theorem look_snoc (j k : Key) (c : PyData) : ∀ ds : List (PyData × PyData), lookD ds j = none → lookD (ds ++ [(kP j, c)]) k = if k = j then some c else lookD ds k
  | [], _ => by
    rw [List.nil_append, look_cons, key_kP]
    by_cases e : k = j
    · rw [if_pos e, if_pos (decide_eq_true e.symm)]
    · rw [if_neg e, if_neg (by rw [decide_eq_false (fun z => e z.symm)]; exact Bool.false_ne_true)]
  | p :: r, h => by
    rw [look_cons] at h
    by_cases hj : keyEq p.1 j = true
    · rw [if_pos hj] at h
      cases h
    · rw [if_neg hj] at h
      rw [List.cons_append, look_cons, look_cons, look_snoc j k c r h]
      by_cases hk : keyEq p.1 k = true
      · have e : ¬ k = j := fun z => hj (by rw [← z]; exact hk)
        rw [if_pos hk, if_neg e, if_pos hk]
      · rw [if_neg hk, if_neg hk]
theorem look_put {ds : List (PyData × PyData)} {j k : Key} {c : PyData} : lookD (putD ds j c) k = if k = j then some c else lookD ds k := by
  unfold putD
  rw [look_any]
  cases h : lookD ds j with
  | none =>
    rw [if_neg (show ¬ (Option.isSome (none : Option PyData)) = true by decide)]
    exact look_snoc j k c ds h
  | some d =>
    rw [if_pos (show (some d).isSome = true from rfl), look_map]
    by_cases e : k = j
    · rw [if_pos e, if_pos e, e, h] <;> rfl
    · rw [if_neg e, if_neg e]
theorem maps_has : ∀ {ds : List PyData} {acc : List (PyData × PyData)} {k : Key}, ds.all headB = true → ((∃ m, lookD acc k = some m ∧ headB m = true) ∨ ∃ d ∈ ds, toKey (firstD d) = some k) → ∃ m, lookD (mapsD acc ds) k = some m ∧ headB m = true
  | [], acc, k, _, h => by
    rcases h with h | ⟨d, hd, _⟩
    · exact h
    · cases hd
  | d :: r, acc, k, ha, h => by
    rw [List.all_cons, Bool.and_eq_true] at ha
    obtain ⟨z, hz⟩ := first_str ha.1
    have e : mapsD acc (d :: r) = mapsD (putD acc (.inr z) d) r := by
      show (match toKey (firstD d) with
        | some k => mapsD (putD acc k d) r
        | none => mapsD acc r) = _
      rw [hz] <;> rfl
    rw [e]
    refine maps_has ha.2 ?_
    by_cases q : k = .inr z
    · exact .inl ⟨d, by rw [look_put, if_pos q], ha.1⟩
    · rcases h with ⟨m, h1, h2⟩ | ⟨x, hx, h1⟩
      · exact .inl ⟨m, by rw [look_put, if_neg q]; exact h1, h2⟩
      · rcases List.mem_cons.mp hx with y | y
        · subst y
          rw [hz] at h1
          exact absurd (Option.some.inj h1).symm q
        · exact .inr ⟨x, y, h1⟩
end
end SM

set_option Elab.async false
set_option linter.all false
set_option maxRecDepth 100000
set_option maxHeartbeats 4000000
namespace SM
open PySem PySem.Spec PyProof.Rows L2
section
variable [PW] {K : PySem.W.Frag} {mg : Str → Option Value} {base : Heap} {kt : Str}
theorem held_all {ds : List PyData} (h1 : ds.all headB = true) (h2 : (ds.all fun d => (slotsD d).all (inNames (ds.map firstD))) = true) : ds.all (heldB (mapsD [] ds)) = true := by
  refine List.all_eq_true.mpr fun d hd => ?_
  have a1 := List.all_eq_true.mp h1 d hd
  have a2 := List.all_eq_true.mp h2 d hd
  obtain ⟨a, b, c, l, e, rfl⟩ := head_five a1
  obtain ⟨xs, rfl, hx⟩ := head_slots a1
  show (headB (.tuple [a, b, c, .tuple xs, e]) && xs.all fun n => match (toKey n).bind (lookD (mapsD [] ds)) with
    | some m => headB m
    | none => false) = true
  rw [a1, Bool.true_and]
  refine List.all_eq_true.mpr fun n hn => ?_
  obtain ⟨z, rfl⟩ := hx n hn
  have a3 := List.all_eq_true.mp a2 _ hn
  obtain ⟨y, hy, q⟩ := List.any_eq_true.mp (show (ds.map firstD).any (fun y => PyData.eqv y (.str z)) = true from a3)
  obtain ⟨x, hx2, rfl⟩ := List.mem_map.mp hy
  obtain ⟨z2, hz⟩ := first_str (List.all_eq_true.mp h1 x hx2)
  rw [hz] at q
  have ez : z2 = z := by
    have q' : (z2 == z) = true := by simpa [PyData.eqv] using q
    exact eq_of_beq q'
  obtain ⟨m, g1, g2⟩ := maps_has (acc := []) (k := .inr z) h1 (.inr ⟨x, hx2, by rw [hz, ez]; rfl⟩)
  show (match lookD (mapsD [] ds) (.inr z) with
    | some m => headB m
    | none => false) = true
  rw [g1]
  exact g2
abbrev s_atlas_error : Stmt := topS 21
theorem sc_atlas_error : FnScope ["value", "reason"] ["value"] (defScope s_atlas_error) := ⟨rfl, rfl, rfl, by decide +kernel, rfl, by decide +kernel, by decide +kernel⟩

/-- the first of two reasons -/
def orD (d e : PyData) : PyData := if isNone d = true then e else d
def errorD (v : PyData) : PyData :=
  if tupIn v 1 8 = true then orD (orD (orD (mapAt 0 (.str "") (itemsD v)) (slotAt ((itemsD v).map firstD) 0 (itemsD v))) (edgesAt 0 (itemsD v))) (edgeAt (mapsD [] (itemsD v)) 0 (itemsD v))
  else .tuple [.str "atlas"]
def errorG : List PyData → Option PyData
  | [v] => some (errorD v)
  | _ => none
abbrev O_atlas_error (K : PySem.W.Frag) (mg : Str → Option Value) (base : Heap) (kt : Str) : Prop := Ok PW.prog PW.world K mg base CX0 "atlas_error" ["value"] 7 (liftS K kt 1 (pureS errorG))
theorem ok_atlas_error (T : Txt K mg) (D : Def K mg "atlas_error" s_atlas_error ["value"]) (O1 : O_is_tuple K mg base kt) (O2 : O_map_fault K mg base kt) (O3 : O_slot_fault K mg base kt) (O4 : O_edges_fault K mg base kt) (O5 : O_edge_fault K mg base kt) : O_atlas_error K mg base kt := by
  obtain ⟨f_is_tuple, fd_is_tuple, G_is_tuple, g_is_tuple, k_is_tuple, b_is_tuple⟩ := O1
  obtain ⟨f_map_fault, fd_map_fault, G_map_fault, g_map_fault, k_map_fault, b_map_fault⟩ := O2
  obtain ⟨f_slot_fault, fd_slot_fault, G_slot_fault, g_slot_fault, k_slot_fault, b_slot_fault⟩ := O3
  obtain ⟨f_edges_fault, fd_edges_fault, G_edges_fault, g_edges_fault, k_edges_fault, b_edges_fault⟩ := O4
  obtain ⟨f_edge_fault, fd_edge_fault, G_edge_fault, g_edge_fault, k_edge_fault, b_edge_fault⟩ := O5
  refine D.okS sc_atlas_error rfl fun f cdv A outer s H E hr hq => ⟨_, _, (pss_cons (ps_if (pt_not (pt_val (pe_callG G_is_tuple (hr.mono (by omega)) hq (by rfl) g_is_tuple k_is_tuple b_is_tuple pass0 (pa_cons (pv 0) (pa_cons pe_int (pa_cons (pe_glob (v := .int 8) (by rfl) T.k_MOST_MAPS.choose_spec ⟨_, rfl⟩) pa_nil)))))) (pss_one (ps_ret (pe_tup (pa_cons pe_str pa_nil)))) pss_nil)
      (pss_cons (ps_set (i := 1) sc_atlas_error.nd rfl (Or.inl rfl) (pe_callG G_map_fault (hr.mono (by omega)) hq (by rfl) g_map_fault k_map_fault b_map_fault pass0 (pa_cons (pv 0) pa_nil)))
      (C8.pss_cut (ps_if (pt_cmpR op_isN (pv 1) pe_non (nomark _)) (pss_one (ps_set (i := 1) sc_atlas_error.nd rfl (Or.inl rfl) (pe_callG G_slot_fault (hr.mono (by omega)) hq (by rfl) g_slot_fault k_slot_fault b_slot_fault pass0 (pa_cons (pv 0) pa_nil)))) pss_nil)
      (C8.pss_cut (ps_if (pt_cmpR op_isN (pv 1) pe_non (nomark _)) (pss_one (ps_set (i := 1) sc_atlas_error.nd rfl (Or.inl rfl) (pe_callG G_edges_fault (hr.mono (by omega)) hq (by rfl) g_edges_fault k_edges_fault b_edges_fault pass0 (pa_cons (pv 0) pa_nil)))) pss_nil)
      (C8.pss_cut (ps_if (pt_cmpR op_isN (pv 1) pe_non (nomark _)) (pss_one (ps_set (i := 1) sc_atlas_error.nd rfl (Or.inl rfl) (pe_callG G_edge_fault (hr.mono (by omega)) hq (by rfl) g_edge_fault k_edge_fault b_edge_fault pass0 (pa_cons (pv 0) pa_nil)))) pss_nil)
      (pss_one (ps_ret (pv 1)))))))), (as_seq (as_if (at_not (at_B (ab_call (ap_cons (ab_var 0) (ap_cons (ab_int _) (ap_cons (ab_int _) ap_nil)))))) (as_ret (ab_tup (ab_acons (ab_str _ (by decide +kernel)) ab_anil))) as_nil)
      (as_seq (as_set 1 (ab_call (ap_cons (ab_var 0) ap_nil)))
      (as_cut (as_if (at_test (ab_op oa_isN (ab_var 1) ab_non)) (as_set 1 (ab_call (ap_cons (ab_var 0) ap_nil))) as_nil)
      (as_cut (as_if (at_test (ab_op oa_isN (ab_var 1) ab_non)) (as_set 1 (ab_call (ap_cons (ab_var 0) ap_nil))) as_nil)
      (as_cut (as_if (at_test (ab_op oa_isN (ab_var 1) ab_non)) (as_set 1 (ab_call (ap_cons (ab_var 0) ap_nil))) as_nil)
      (as_ret (ab_var 1))))))), fun qs k R hl h => ?_⟩
  obtain ⟨ds, d, rfl, h1, h2⟩ := pure_in h
  unfold errorG at h1
  split at h1 <;> cases h1
  rename_i v
  simp only [bodyB, env0, slA, List.map_cons, List.map_nil, List.cons_append, List.nil_append, List.length_cons, List.length_nil, List.replicate, List.getElem?_cons_zero, List.getElem?_cons_succ, List.set_cons_zero, List.set_cons_succ, Option.some.injEq, Sl.dat.injEq, Sl.own.injEq, PyData.bool.injEq, PyData.int.injEq, PyData.str.injEq, PyData.tuple.injEq, PyData.list.injEq, PyData.dict.injEq, Sl.tab.injEq, List.cons.injEq, exists_eq_left', exists_eq_left, eq_self, decide_true, if_true, reduceIte, Int.reduceLE, pure1, pure2, pure3, pure4, leiF_int, liF_int, giF_int, geiF_int, addF_int, subF_int, eqEF_nil, neF_int, eqF_int, lenF_str, lenF_list, lenF_tup, wipe0, wipe1, true_and, and_true, frz_list, frz_dict, frz_tup, frz_dat, frz_no, frz_pen, tab_list, tab_dict, Nat.reduceAdd, Nat.reduceSub, tupG]
  refine ⟨fun q1 => ?_, fun q1 => ?_⟩
  · unfold errorD at h2
    rw [if_neg (by simpa using q1)] at h2
    exact ⟨by decide, h2⟩
  · have q2 : tupIn v 1 8 = true := by simpa using q1
    unfold errorD at h2
    rw [if_pos q2] at h2
    cases v <;> first | (cases q2; done) | skip
    rename_i ds
    have hz : decide (ds.length ≤ 100000) = true := by
      simp only [tupIn, Bool.and_eq_true, decide_eq_true_eq] at q2
      exact decide_eq_true (by omega)
    have h3 : ∃ k', k' ≤ k ∧ R (orD (orD (orD (mapAt 0 (.str "") ds) (slotAt (ds.map firstD) 0 ds)) (edgesAt 0 ds)) (edgeAt (mapsD [] ds) 0 ds)) k' := h2
    have isF_non : ∀ d : PyData, isF d .none = some (.bool (isNone d)) := fun d => rfl
    generalize hm : mapAt 0 (.str "") ds = r1 at h3
    generalize hs : slotAt (ds.map firstD) 0 ds = r2 at h3
    generalize he : edgesAt 0 ds = r3 at h3
    generalize hf : edgeAt (mapsD [] ds) 0 ds = r4 at h3
    have g1 : mapG [.tuple ds] = some r1 := by rw [← hm]; rfl
    simp only [bodyB, env0, slA, List.map_cons, List.map_nil, List.cons_append, List.nil_append, List.length_cons, List.length_nil, List.replicate, List.getElem?_cons_zero, List.getElem?_cons_succ, List.set_cons_zero, List.set_cons_succ, Option.some.injEq, Sl.dat.injEq, Sl.own.injEq, PyData.bool.injEq, PyData.int.injEq, PyData.str.injEq, PyData.tuple.injEq, PyData.list.injEq, PyData.dict.injEq, Sl.tab.injEq, List.cons.injEq, exists_eq_left', exists_eq_left, eq_self, decide_true, if_true, reduceIte, Int.reduceLE, pure1, pure2, pure3, pure4, leiF_int, liF_int, giF_int, geiF_int, addF_int, subF_int, eqEF_nil, neF_int, eqF_int, lenF_str, lenF_list, lenF_tup, wipe0, wipe1, true_and, and_true, frz_list, frz_dict, frz_tup, frz_dat, frz_no, frz_pen, tab_list, tab_dict, Nat.reduceAdd, Nat.reduceSub, g1, isF_non]
    refine ⟨fun e k' => e = [.dat (.tuple ds), .dat (orD r1 r2)] ∧ k' = k ∧ (isNone (orD r1 r2) = true → ds.all headB = true ∧ (ds.all fun d => (slotsD d).all (inNames (ds.map firstD))) = true), ⟨fun n1 => ?_, fun n1 => ?_⟩, ?_⟩
    · have hd : ds.all headB = true := map_none (by rw [hm]; exact n1)
      refine ⟨r2, ?_, ?_, rfl, fun n2 => ⟨hd, ?_⟩⟩
      · rw [← hs]
        exact if_pos (by rw [hz, hd] <;> rfl)
      · unfold orD
        rw [if_pos n1]
      · have n3 : isNone r2 = true := by
          unfold orD at n2
          rw [if_pos n1] at n2
          exact n2
        exact slot_none (by rw [hs]; exact n3)
    · have e : orD r1 r2 = r1 := by
        unfold orD
        rw [if_neg (by rw [n1]; exact Bool.false_ne_true)]
      rw [e]
      exact ⟨rfl, rfl, fun z => absurd (n1.symm.trans z) Bool.false_ne_true⟩
    · rintro e' k' ⟨rfl, hk, p1⟩
      rw [hk]
      generalize orD r1 r2 = r12 at p1 h3 ⊢
      simp only [bodyB, env0, slA, List.map_cons, List.map_nil, List.cons_append, List.nil_append, List.length_cons, List.length_nil, List.replicate, List.getElem?_cons_zero, List.getElem?_cons_succ, List.set_cons_zero, List.set_cons_succ, Option.some.injEq, Sl.dat.injEq, Sl.own.injEq, PyData.bool.injEq, PyData.int.injEq, PyData.str.injEq, PyData.tuple.injEq, PyData.list.injEq, PyData.dict.injEq, Sl.tab.injEq, List.cons.injEq, exists_eq_left', exists_eq_left, eq_self, decide_true, if_true, reduceIte, Int.reduceLE, pure1, pure2, pure3, pure4, leiF_int, liF_int, giF_int, geiF_int, addF_int, subF_int, eqEF_nil, neF_int, eqF_int, lenF_str, lenF_list, lenF_tup, wipe0, wipe1, true_and, and_true, frz_list, frz_dict, frz_tup, frz_dat, frz_no, frz_pen, tab_list, tab_dict, Nat.reduceAdd, Nat.reduceSub, isF_non]
      refine ⟨fun e k' => e = [.dat (.tuple ds), .dat (orD r12 r3)] ∧ k' = k ∧ (isNone (orD r12 r3) = true → edgePre ds = true), ⟨fun n1 => ?_, fun n1 => ?_⟩, ?_⟩
      · obtain ⟨hd, hn⟩ := p1 n1
        refine ⟨r3, ?_, ?_, rfl, fun n2 => ?_⟩
        · rw [← he]
          exact if_pos hd
        · unfold orD
          rw [if_pos n1]
        · have n3 : isNone r3 = true := by
            unfold orD at n2
            rw [if_pos n1] at n2
            exact n2
          have ht := edges_none (ds := ds) (i := 0) (by rw [he]; exact n3)
          unfold edgePre
          rw [hz, hd, held_all hd hn, ht] <;> rfl
      · have e : orD r12 r3 = r12 := by
          unfold orD
          rw [if_neg (by rw [n1]; exact Bool.false_ne_true)]
        rw [e]
        exact ⟨rfl, rfl, fun z => absurd (n1.symm.trans z) Bool.false_ne_true⟩
      · rintro e' k' ⟨rfl, hk, p2⟩
        rw [hk]
        generalize orD r12 r3 = r123 at p2 h3 ⊢
        simp only [bodyB, env0, slA, List.map_cons, List.map_nil, List.cons_append, List.nil_append, List.length_cons, List.length_nil, List.replicate, List.getElem?_cons_zero, List.getElem?_cons_succ, List.set_cons_zero, List.set_cons_succ, Option.some.injEq, Sl.dat.injEq, Sl.own.injEq, PyData.bool.injEq, PyData.int.injEq, PyData.str.injEq, PyData.tuple.injEq, PyData.list.injEq, PyData.dict.injEq, Sl.tab.injEq, List.cons.injEq, exists_eq_left', exists_eq_left, eq_self, decide_true, if_true, reduceIte, Int.reduceLE, pure1, pure2, pure3, pure4, leiF_int, liF_int, giF_int, geiF_int, addF_int, subF_int, eqEF_nil, neF_int, eqF_int, lenF_str, lenF_list, lenF_tup, wipe0, wipe1, true_and, and_true, frz_list, frz_dict, frz_tup, frz_dat, frz_no, frz_pen, tab_list, tab_dict, Nat.reduceAdd, Nat.reduceSub, isF_non]
        refine ⟨fun e k' => e = [.dat (.tuple ds), .dat (orD r123 r4)] ∧ k' = k, ⟨fun n1 => ?_, fun n1 => ?_⟩, ?_⟩
        · refine ⟨r4, ?_, ?_, rfl⟩
          · rw [← hf]
            exact if_pos (p2 n1)
          · unfold orD
            rw [if_pos n1]
        · have e : orD r123 r4 = r123 := by
            unfold orD
            rw [if_neg (by rw [n1]; exact Bool.false_ne_true)]
          rw [e]
          exact ⟨rfl, rfl⟩
        · rintro e' k' ⟨rfl, hk⟩
          rw [hk]
          simp only [bodyB, env0, slA, List.map_cons, List.map_nil, List.cons_append, List.nil_append, List.length_cons, List.length_nil, List.replicate, List.getElem?_cons_zero, List.getElem?_cons_succ, List.set_cons_zero, List.set_cons_succ, Option.some.injEq, Sl.dat.injEq, Sl.own.injEq, PyData.bool.injEq, PyData.int.injEq, PyData.str.injEq, PyData.tuple.injEq, PyData.list.injEq, PyData.dict.injEq, Sl.tab.injEq, List.cons.injEq, exists_eq_left', exists_eq_left, eq_self, decide_true, if_true, reduceIte, Int.reduceLE, pure1, pure2, pure3, pure4, leiF_int, liF_int, giF_int, geiF_int, addF_int, subF_int, eqEF_nil, neF_int, eqF_int, lenF_str, lenF_list, lenF_tup, wipe0, wipe1, true_and, and_true, frz_list, frz_dict, frz_tup, frz_dat, frz_no, frz_pen, tab_list, tab_dict, Nat.reduceAdd, Nat.reduceSub]
          exact h3
end
end SM

set_option Elab.async false
set_option linter.all false
set_option maxRecDepth 100000
set_option maxHeartbeats 4000000
namespace SM
open PySem PySem.Spec PyProof.Rows L2
section
variable [PW] {K : PySem.W.Frag} {mg : Str → Option Value} {base : Heap} {kt : Str}
theorem abc : (Str.ofString "abcdefghijklmnopqrstuvwxyz").cps.toList = (List.range 26).map (97 + ·) := by decide +kernel
theorem letter_in (c : Nat) : decide (c ∈ (Str.ofString "abcdefghijklmnopqrstuvwxyz").cps.toList) = letter c := by
  rw [abc]
  unfold letter
  rw [← Bool.decide_and, decide_eq_decide, List.mem_map]
  constructor
  · rintro ⟨i, hi, rfl⟩
    have := List.mem_range.mp hi
    omega
  · rintro ⟨h1, h2⟩
    exact ⟨c - 97, List.mem_range.mpr (by omega), by omega⟩
theorem ninSF_one (c : Nat) (z : Str) : ninSF (.str ⟨#[c]⟩) (.str z) = some (.bool (!decide (c ∈ z.cps.toList))) := rfl
end
end SM

set_option Elab.async false
set_option linter.all false
set_option maxRecDepth 100000
set_option maxHeartbeats 4000000
namespace SM
open PySem PySem.Spec PyProof.Rows L2
section
variable [PW] {K : PySem.W.Frag} {mg : Str → Option Value} {base : Heap} {kt : Str}
abbrev s_draw : Stmt := topS 47
theorem sc_draw : FnScope ["pen", "many", "digit", "at", "cell", "mixed"] ["pen", "many"] (defScope s_draw) := ⟨rfl, rfl, rfl, by decide +kernel, rfl, by decide +kernel, by decide +kernel⟩

theorem okA : OkT "at" := ⟨by decide, by decide⟩
theorem mod_pos {i j : Int} (h : 0 < j) : modF (.int i) (.int j) = some (.int (i % j)) := if_pos (decide_eq_true h)
theorem div_pos {i j : Int} (h : 0 < j) (h2 : j ≤ lineD) : divWF (.int i) (.int j) = some (.int (i / j)) := if_pos (by simp [h, h2])
theorem mul_small {i j : Int} (h : -(2 ^ 64) < i) (h2 : i < 2 ^ 64) : mulF (.int i) (.int j) = some (.int (i * j)) := if_pos (by
  unfold mulB
  rw [decide_eq_true h, decide_eq_true h2] <;> rfl)
theorem mul_nat {i j : Int} (h : 0 ≤ i) (h2 : i < 18446744073709551616) : mulF (.int i) (.int j) = some (.int (i * j)) := mul_small (by omega) (by omega)
theorem mul_smallR {i j : Int} (h : -(2 ^ 64) < j) (h2 : j < 2 ^ 64) : mulF (.int i) (.int j) = some (.int (i * j)) := if_pos (by
  unfold mulB
  rw [decide_eq_true h, decide_eq_true h2] <;> simp)
theorem pow_18 : powF (.int 10) (.int 18) = some (.int 1000000000000000000) := by
  simp [powF, fIC]
/-- a number below m -/
def drawS : SP := fun qs k R => ∃ m : Int, qs = [none, some (.int m)] ∧ 0 < m ∧ m ≤ lineD ∧ 0 < k ∧ k ≤ 1000000000 ∧ ∀ i : Int, 0 ≤ i → i < m → R (.int i) (k - 1)
abbrev O_law_draw (K : PySem.W.Frag) (mg : Str → Option Value) (base : Heap) (kt : Str) : Prop := Ok PW.prog PW.world K mg base CX0 "_law_draw" ["pen", "many"] 1 (liftS K kt 2 drawS)
theorem ok_draw (T : Txt K mg) (D : Def K mg "_law_draw" s_draw ["pen", "many"]) : O_law_draw K mg base "at" := by
  refine D.okS sc_draw rfl fun f cdv A outer s H E hr hq => ⟨_, _, (pss_cons (ps_if (pt_cmpR op_gt (pe_dget (hu_of hr) (pv 0) pe_str (fun _ _ => rfl)) pe_int (nomark _)) (pss_cons (ps_set (i := 2) sc_draw.nd rfl (Or.inl rfl) (pe_op op_mod (pe_dget (hu_of hr) (pv 0) pe_str (fun _ _ => rfl)) (pv 1)))
        (pss_cons (ps_dput (hu_of hr) (pv 0) pe_str (pe_op op_fdivW (pe_dget (hu_of hr) (pv 0) pe_str (fun _ _ => rfl)) (pv 1)) (by rfl))
        (pss_one (ps_ret (pv 2))))) pss_nil)
      (pss_cons (ps_set (i := 3) sc_draw.nd rfl (Or.inl rfl) (pe_dget (hu_of hr) (pv 0) pe_str (fun _ _ => rfl)))
      (pss_cons (ps_dput (hu_of hr) (pv 0) pe_str (pe_op op_add (pv 3) pe_int) (by rfl))
      (pss_cons (ps_set (i := 4) sc_draw.nd rfl (Or.inl rfl) pe_int)
      (C8.pss_cut (ps_if (pt_cmpR (op_neP hr.units) (pe_dget (hu_of hr) (pv 0) pe_str (fun _ _ => rfl)) (pe_lst pa_nil) (nomark _)) (pss_one (ps_set (i := 4) sc_draw.nd rfl (Or.inl rfl) (pe_callB call_abs (by rfl) T.b_abs (by decide +kernel) (pa_cons (pe_ix ix_seq (pe_dget (hu_of hr) (pv 0) pe_str (fun _ _ => rfl)) (pe_op op_mod (pv 3) (pe_callB call_len (by rfl) T.b_len (by decide +kernel) (pa_cons (pe_dget (hu_of hr) (pv 0) pe_str (fun _ _ => rfl)) pa_nil))) (fun _ _ => rfl)) pa_nil)))) pss_nil)
      (pss_cons (ps_if (PW.pt (pw_and (pt_cmpR op_lt (pv 3) (pe_callB call_len (by rfl) T.b_len (by decide +kernel) (pa_cons (pe_dget (hu_of hr) (pv 0) pe_str (fun _ _ => rfl)) pa_nil)) (nomark _)) (pw_and1 (pt_cmpR op_ge (pv 4) (pe_op op_pow pe_int pe_int) (nomark _))))) (pss_cons (ps_dput (hu_of hr) (pv 0) pe_str (pe_op op_fdivW (pe_op op_sub (pv 4) (pe_op op_pow pe_int pe_int)) (pv 1)) (by rfl))
        (pss_one (ps_ret (pe_op op_mod (pe_op op_sub (pv 4) (pe_op op_pow pe_int pe_int)) (pv 1))))) pss_nil)
      (pss_cons (ps_set (i := 5) sc_draw.nd rfl (Or.inl rfl) (pe_op op_mod (pe_op op_mul (pe_op op_add (pe_op op_mod (pv 4) pe_int) pe_int) (pe_op op_add (pe_op op_add (pe_op op_mul (pv 3) (pv 3)) (pe_op op_mul pe_int (pv 3))) pe_int)) pe_int))
      (pss_cons (ps_set (i := 5) sc_draw.nd rfl (Or.inl rfl) (pe_op op_mod (pe_op op_mul (pe_op op_add (pe_op op_mod (pe_op op_mul (pv 5) (pv 5)) pe_int) (pe_op op_mul pe_int (pv 3))) pe_int) pe_int))
      (pss_one (ps_ret (pe_op op_mod (pe_op op_fdivW (pv 5) pe_int) (pv 1)))))))))))), (as_seq (as_if (at_test (ab_op oa_gi (ab_penR 0 okA) (ab_int _))) (as_seq (as_set 2 (ab_op oa_mod (ab_penR 0 okA) (ab_var 1)))
        (as_seq (as_penR 0 okA (ab_op oa_divW (ab_penR 0 okA) (ab_var 1)))
        (as_ret (ab_var 2)))) as_nil)
      (as_seq (as_set 3 (ab_penT 0 okA))
      (as_seq (as_penT 0 okA (ab_op oa_add (ab_var 3) (ab_int _)))
      (as_seq (as_set 4 (ab_int _))
      (as_cut (as_cellsA 0 3 4)
      (as_seq (as_if (at_and (at_test (ab_op oa_li (ab_var 3) (ab_penLen 0))) (at_test (ab_op oa_gei (ab_var 4) (ab_op oa_pow (ab_int _) (ab_int _))))) (as_seq (as_penR 0 okA (ab_op oa_divW (ab_op oa_sub (ab_var 4) (ab_op oa_pow (ab_int _) (ab_int _))) (ab_var 1)))
        (as_ret (ab_op oa_mod (ab_op oa_sub (ab_var 4) (ab_op oa_pow (ab_int _) (ab_int _))) (ab_var 1)))) as_nil)
      (as_seq (as_set 5 (ab_op oa_mod (ab_op oa_mul (ab_op oa_add (ab_op oa_mod (ab_var 4) (ab_int _)) (ab_int _)) (ab_op oa_add (ab_op oa_add (ab_op oa_mul (ab_var 3) (ab_var 3)) (ab_op oa_mul (ab_int _) (ab_var 3))) (ab_int _))) (ab_int _)))
      (as_seq (as_set 5 (ab_op oa_mod (ab_op oa_mul (ab_op oa_add (ab_op oa_mod (ab_op oa_mul (ab_var 5) (ab_var 5)) (ab_int _)) (ab_op oa_mul (ab_int _) (ab_var 3))) (ab_int _)) (ab_int _)))
      (as_ret (ab_op oa_mod (ab_op oa_divW (ab_var 5) (ab_int _)) (ab_var 1))))))))))), fun qs k R hl h => ?_⟩
  obtain ⟨m, rfl, hm, hm2, hk, hk2, h⟩ := h
  have hR : ∀ i : Int, 0 ≤ i → i < m → ∃ k', k' ≤ k - 1 ∧ R (.int i) k' := fun i a b => ⟨k - 1, Nat.le_refl _, h i a b⟩
  simp only [bodyB, env0, slA, List.map_cons, List.map_nil, List.cons_append, List.nil_append, List.length_cons, List.length_nil, List.replicate, List.getElem?_cons_zero, List.getElem?_cons_succ, List.set_cons_zero, List.set_cons_succ, Option.some.injEq, Sl.dat.injEq, Sl.own.injEq, PyData.bool.injEq, PyData.int.injEq, PyData.str.injEq, PyData.tuple.injEq, PyData.list.injEq, PyData.dict.injEq, Sl.tab.injEq, List.cons.injEq, exists_eq_left', exists_eq_left, eq_self, decide_true, if_true, reduceIte, Int.reduceLE, pure1, pure2, pure3, pure4, leiF_int, liF_int, giF_int, geiF_int, addF_int, subF_int, eqEF_nil, neF_int, eqF_int, lenF_str, lenF_list, lenF_tup, wipe0, wipe1, true_and, and_true, frz_list, frz_dict, frz_tup, frz_dat, frz_no, frz_pen, tab_list, tab_dict, Nat.reduceAdd, Nat.reduceSub]
  refine fun r hr0 => ⟨fun c r2 hr2 => ?_, fun c t ht htk => ⟨by omega, hk, by omega, ?_⟩⟩
  · refine ⟨_, mod_pos hm, fun r3 hr3 => ⟨_, div_pos hm hm2, _, rfl, Int.ediv_nonneg hr3 (Int.le_of_lt hm), k - 1, Nat.sub_le _ _, ?_⟩⟩
    exact h _ (Int.emod_nonneg _ (Int.ne_of_gt hm)) (Int.emod_lt_of_pos _ hm)
  refine ⟨fun e' k' => k' = k - 1 ∧ ∃ x : Int, 0 ≤ x ∧ e' = [Sl.pen, Sl.dat (PyData.int m), Sl.no, Sl.dat (PyData.int t), Sl.dat (.int x), Sl.no], ⟨ht, ⟨rfl, _, by decide, rfl⟩, fun x hx => ⟨rfl, x, hx, rfl⟩⟩, ?_⟩
  rintro e' k' ⟨rfl, x, hx, rfl⟩
  simp only [bodyB, env0, slA, List.map_cons, List.map_nil, List.cons_append, List.nil_append, List.length_cons, List.length_nil, List.replicate, List.getElem?_cons_zero, List.getElem?_cons_succ, List.set_cons_zero, List.set_cons_succ, Option.some.injEq, Sl.dat.injEq, Sl.own.injEq, PyData.bool.injEq, PyData.int.injEq, PyData.str.injEq, PyData.tuple.injEq, PyData.list.injEq, PyData.dict.injEq, Sl.tab.injEq, List.cons.injEq, exists_eq_left', exists_eq_left, eq_self, decide_true, if_true, reduceIte, Int.reduceLE, pure1, pure2, pure3, pure4, leiF_int, liF_int, giF_int, geiF_int, addF_int, subF_int, eqEF_nil, neF_int, eqF_int, lenF_str, lenF_list, lenF_tup, wipe0, wipe1, true_and, and_true, frz_list, frz_dict, frz_tup, frz_dat, frz_no, frz_pen, tab_list, tab_dict, Nat.reduceAdd, Nat.reduceSub]
  have tail : ∃ c, modF (.int x) (.int 2147483587) = some c ∧ ∃ c_2, addF c (.int 17) = some c_2 ∧ ∃ c, mulF (.int t) (.int t) = some c ∧ ∃ c_3, mulF (.int 9) (.int t) = some c_3 ∧ ∃ c_4, addF c c_3 = some c_4 ∧ ∃ c, addF c_4 (.int 23) = some c ∧
      ∃ c_5, mulF c_2 c = some c_5 ∧ ∃ c, modF c_5 (.int 2147483647) = some c ∧ ∃ c_6, mulF c c = some c_6 ∧ ∃ c, modF c_6 (.int 2147483629) = some c ∧ ∃ c_7, mulF (.int 50021) (.int t) = some c_7 ∧ ∃ c_8, addF c c_7 = some c_8 ∧ ∃ c, mulF c_8 (.int 16807) = some c ∧
      ∃ c_9, modF c (.int 2147483579) = some c_9 ∧ ∃ c, divWF c_9 (.int 32) = some c ∧ ∃ c_10, modF c (.int m) = some c_10 ∧ ∃ k', k' ≤ k - 1 ∧ R c_10 k' := by
    refine ⟨_, mod_pos (by decide), _, rfl, _, mul_small (by omega) (by omega), _, mul_small (by decide) (by decide), _, rfl, _, rfl, _, mul_small (by omega) (by omega), _, mod_pos (by decide), _, mul_small (by omega) (by omega), _, mod_pos (by decide), _, mul_small (by decide) (by decide), _, rfl, _, mul_smallR (by decide) (by decide), _, mod_pos (by decide), _, div_pos (by decide) (by decide +kernel), _, mod_pos hm, hR _ (Int.emod_nonneg _ (Int.ne_of_gt hm)) (Int.emod_lt_of_pos _ hm)⟩
  refine fun n hn => ⟨fun _ => ⟨_, pow_18, _, rfl, _, rfl, fun c2 => ?_, fun _ => tail⟩, fun _ => ⟨fun z => (nomatch z), fun _ => tail⟩⟩
  have c3 := of_decide_eq_true c2
  refine ⟨_, pow_18, _, rfl, _, div_pos hm hm2, _, rfl, Int.ediv_nonneg (by omega) (Int.le_of_lt hm), _, pow_18, _, rfl, _, mod_pos hm, hR _ (Int.emod_nonneg _ (Int.ne_of_gt hm)) (Int.emod_lt_of_pos _ hm)⟩
end
end SM

set_option Elab.async false
set_option linter.all false
set_option maxRecDepth 100000
set_option maxHeartbeats 4000000
namespace SM
open PySem PySem.Spec PyProof.Rows L2
section
variable [PW] {K : PySem.W.Frag} {mg : Str → Option Value} {base : Heap} {kt : Str}
theorem line_le {i : Int} (h : i ≤ 1000000000) : i ≤ lineD := Int.le_trans h (by decide +kernel)
theorem draw_iff {m : Int} {k : Nat} {R : PyData → Nat → Prop} : drawS [none, some (.int m)] k R ↔ (0 < m ∧ m ≤ lineD ∧ 0 < k ∧ k ≤ 1000000000 ∧ ∀ i : Int, 0 ≤ i → i < m → R (.int i) (k - 1)) := by
  constructor
  · rintro ⟨m', e, h⟩
    cases e
    exact h
  · intro h
    exact ⟨m, rfl, h⟩
abbrev s_pick : Stmt := topS 48
theorem sc_pick : FnScope ["pen", "items"] ["pen", "items"] (defScope s_pick) := ⟨rfl, rfl, rfl, by decide +kernel, rfl, by decide +kernel, by decide +kernel⟩

/-- one of several -/
def pickS : SP := fun qs k R => ∃ it : PyData, qs = [none, some it] ∧ ∃ n : Nat, lenD it = some (.int n) ∧ 0 < n ∧ n < 1000000 ∧ 0 < k ∧ k ≤ 1000000000 ∧ ∀ i : Nat, i < n → ∃ d, atD it (.int i) = some d ∧ R d (k - 1)
abbrev O_law_pick (K : PySem.W.Frag) (mg : Str → Option Value) (base : Heap) (kt : Str) : Prop := Ok PW.prog PW.world K mg base CX0 "_law_pick" ["pen", "items"] 2 (liftS K kt 2 pickS)
theorem lenF_one (d : PyData) : lenF [d] = lenD d := rfl
theorem ok_pick (T : Txt K mg) (D : Def K mg "_law_pick" s_pick ["pen", "items"]) (O1 : O_law_draw K mg base kt) : O_law_pick K mg base kt := by
  obtain ⟨f_draw, fd_draw, G_draw, g_draw, k_draw, b_draw⟩ := O1
  refine D.okS sc_pick rfl fun f cdv A outer s H E hr hq => ⟨_, _, (pss_one (ps_ret (pe_ix ix_seq (pv 1) (pe_callG G_draw (hr.mono (by omega)) hq (by rfl) g_draw k_draw b_draw pass0 (pa_cons (pv 0) (pa_cons (pe_callB call_len (by rfl) T.b_len (by decide +kernel) (pa_cons (pv 1) pa_nil)) pa_nil))) (fun _ _ => rfl)))), (as_ret (ab_op oa_ix (ab_var 1) (ab_call (ap_pen 0 (ap_cons (ab_callB ca_len (ab_acons (ab_var 1) ab_anil)) ap_nil))))), fun qs k R hl h => ?_⟩
  obtain ⟨it, rfl, n, hn, h0, h1, hk, hk2, h⟩ := h
  simp only [bodyB, env0, slA, List.map_cons, List.map_nil, List.cons_append, List.nil_append, List.length_cons, List.length_nil, List.replicate, List.getElem?_cons_zero, List.getElem?_cons_succ, List.set_cons_zero, List.set_cons_succ, Option.some.injEq, Sl.dat.injEq, Sl.own.injEq, PyData.bool.injEq, PyData.int.injEq, PyData.str.injEq, PyData.tuple.injEq, PyData.list.injEq, PyData.dict.injEq, Sl.tab.injEq, List.cons.injEq, exists_eq_left', exists_eq_left, eq_self, decide_true, if_true, reduceIte, Int.reduceLE, pure1, pure2, pure3, pure4, leiF_int, liF_int, giF_int, geiF_int, addF_int, subF_int, eqEF_nil, neF_int, eqF_int, lenF_str, lenF_list, lenF_tup, wipe0, wipe1, true_and, and_true, frz_list, frz_dict, frz_tup, frz_dat, frz_no, frz_pen, tab_list, tab_dict, Nat.reduceAdd, Nat.reduceSub, draw_iff, lenF_one, hn]
  refine ⟨by omega, line_le (by omega), hk, hk2, fun i i0 i1 => ?_⟩
  obtain ⟨j, rfl⟩ := Int.eq_ofNat_of_zero_le i0
  obtain ⟨d, e, r⟩ := h j (by omega)
  exact ⟨d, e, k - 1, Nat.le_refl _, r⟩
theorem pick_list {xs : List PyData} {k : Nat} {R : PyData → Nat → Prop} : pickS [none, some (.list xs)] k R ↔ (0 < xs.length ∧ xs.length < 1000000 ∧ 0 < k ∧ k ≤ 1000000000 ∧ ∀ d, d ∈ xs → R d (k - 1)) := by
  constructor
  · rintro ⟨it, e, n, hn, h0, h1, hk, hk2, h⟩
    cases e
    cases hn
    refine ⟨h0, h1, hk, hk2, fun d hd => ?_⟩
    obtain ⟨i, hi, rfl⟩ := List.mem_iff_getElem.mp hd
    obtain ⟨d', e', r⟩ := h i hi
    have : atD (.list xs) (.int i) = some xs[i] := by
      show (ixN xs.length i).bind (fun j => xs[j]?) = _
      unfold ixN
      rw [if_pos (by omega), if_pos (by omega)]
      show xs[(i : Int).toNat]? = _
      rw [Int.toNat_natCast, List.getElem?_eq_getElem hi]
    rw [this] at e'
    cases e'
    exact r
  · rintro ⟨h0, h1, hk, hk2, h⟩
    refine ⟨_, rfl, xs.length, rfl, h0, h1, hk, hk2, fun i hi => ⟨xs[i], ?_, h _ (List.getElem_mem hi)⟩⟩
    show (ixN xs.length i).bind (fun j => xs[j]?) = _
    unfold ixN
    rw [if_pos (by omega), if_pos (by omega)]
    show xs[(i : Int).toNat]? = _
    rw [Int.toNat_natCast, List.getElem?_eq_getElem hi]
theorem pick_tup {xs : List PyData} {k : Nat} {R : PyData → Nat → Prop} (h0 : 0 < xs.length) (h1 : xs.length < 1000000) (hk : 0 < k) (hk2 : k ≤ 1000000000) (h : ∀ d, d ∈ xs → R d (k - 1)) : pickS [none, some (.tuple xs)] k R := by
  refine ⟨_, rfl, xs.length, rfl, h0, h1, hk, hk2, fun i hi => ⟨xs[i], ?_, h _ (List.getElem_mem hi)⟩⟩
  show (ixN xs.length i).bind (fun j => xs[j]?) = _
  unfold ixN
  rw [if_pos (by omega), if_pos (by omega)]
  show xs[(i : Int).toNat]? = _
  rw [Int.toNat_natCast, List.getElem?_eq_getElem hi]
theorem pick_str {z : Str} {k : Nat} {R : PyData → Nat → Prop} (h0 : 0 < z.length) (h1 : z.length < 1000000) (hk : 0 < k) (hk2 : k ≤ 1000000000) (h : ∀ c, c ∈ z.cps.toList → R (.str ⟨#[c]⟩) (k - 1)) : pickS [none, some (.str z)] k R := by
  refine ⟨_, rfl, z.length, rfl, h0, h1, hk, hk2, fun i hi => ?_⟩
  have hi' : i < z.cps.toList.length := by rw [Array.length_toList]; exact hi
  refine ⟨.str ⟨#[z.cps.toList[i]]⟩, ?_, h _ (List.getElem_mem hi')⟩
  show ((ixN z.cps.toList.length i).bind (fun j => z.cps.toList[j]?)).map _ = _
  unfold ixN
  rw [if_pos (by omega), if_pos (by omega)]
  show (z.cps.toList[(i : Int).toNat]?).map _ = _
  rw [Int.toNat_natCast, List.getElem?_eq_getElem hi']
  rfl
end
end SM

set_option Elab.async false
set_option linter.all false
set_option maxRecDepth 100000
set_option maxHeartbeats 4000000
namespace SM
open PySem PySem.Spec PyProof.Rows L2
section
variable [PW]
theorem pow_6 : powF (.int 10) (.int 6) = some (.int 1000000) := by
  simp [powF, fIC]
def nameIs (z : Str) (d : PyData) : Bool := PyData.eqv (firstD d) (.str z)
def itemOf (ds : List PyData) (z : Str) : Option PyData := (ds.filter (nameIs z)).head?
def seqD : PyData → Option (List PyData)
  | .list ds | .tuple ds => some ds
  | _ => none
def itemG : List PyData → Option PyData
  | [a, .str z] => match seqD a with
    | some ds => if (ds.all headB && decide (ds.length ≤ 100000)) = true then itemOf ds z else none
    | none => none
  | _ => none
theorem seqD_of {a : PyData} {ds : List PyData} (h : seqD a = some ds) : a = .list ds ∨ a = .tuple ds := by
  cases a <;> cases h
  · exact .inl rfl
  · exact .inr rfl
theorem at_head {ds : List PyData} {d : PyData} (h : ds.head? = some d) : atD (.list ds) (.int 0) = some d := by
  cases ds with
  | nil => cases h
  | cons x r =>
    cases h
    show (ixN (d :: r).length 0).bind (fun j => (d :: r)[j]?) = some d
    rw [show ixN (d :: r).length 0 = some 0 by simp [ixN]]
    rfl
theorem eqF_str (x z : Str) : eqF (.str x) (.str z) = some (.bool (PyData.eqv (.str x) (.str z))) := if_pos shal_str
end
end SM

set_option Elab.async false
set_option linter.all false
set_option maxRecDepth 100000
set_option maxHeartbeats 4000000
namespace SM
open PySem PySem.Spec PyProof.Rows L2
section
variable [PW]
def nodePts (n : Nat) : List PyData := (List.range n).map fun j => .tuple [.str "node", .int (j : Nat)]
def portPts (n : Nat) : List PyData := (List.range n).map fun i => .tuple [.str "port", .int (i : Nat)]
def labelsD (chart : PyData) : List PyData := itemsD (partD 2 chart)
def ownPts (d : PyData) : List PyData := nodePts (labelsD d).length ++ portPts (portsD d).toNat
theorem head_bounds {z : Str} {p : Int} {ls sl : List PyData} {e : PyData} (h : headB (.tuple [.str z, .int p, .tuple ls, .tuple sl, e]) = true) : 1 ≤ p ∧ p ≤ 4 ∧ ls.length ≤ 8 ∧ sl.length ≤ 4 := by
  simp only [headB, Bool.and_eq_true, intIn, namesB, decide_eq_true_eq] at h
  omega
def slotPts (ds : List PyData) : Nat → List PyData → List PyData
  | _, [] => []
  | s, n :: r => ((List.range (match n with | .str z => ((itemOf ds z).map fun d => (portsD d).toNat).getD 0 | _ => 0)).map fun i => PyData.tuple [.str "slot", .int (s : Nat), .int (i : Nat)]) ++ slotPts ds (s + 1) r
def inItems (ds : List PyData) : PyData → Bool
  | .str z => (itemOf ds z).isSome
  | _ => false
def allPts (ds : List PyData) (d : PyData) : List PyData := ownPts d ++ slotPts ds 0 (slotsD d)
theorem item_mem {ds : List PyData} {z : Str} {d : PyData} (h : itemOf ds z = some d) : d ∈ ds ∧ nameIs z d = true := by
  have := List.mem_of_mem_head? (Option.mem_def.mpr h)
  exact ⟨(List.mem_filter.mp this).1, (List.mem_filter.mp this).2⟩
theorem own_length {d : PyData} (h : headB d = true) : (ownPts d).length ≤ 12 := by
  obtain ⟨z, p, ls, sl, e, rfl⟩ := chart_shape h
  obtain ⟨b1, b2, b3, b4⟩ := head_bounds h
  show (nodePts ls.length ++ portPts p.toNat).length ≤ 12
  unfold nodePts portPts
  rw [List.length_append, List.length_map, List.length_map, List.length_range, List.length_range]
  omega
end
end SM

set_option Elab.async false
set_option linter.all false
set_option maxRecDepth 100000
set_option maxHeartbeats 4000000
namespace SM
open PySem PySem.Spec PyProof.Rows L2
section
variable [PW]
def Sx (l : List Nat) : Str := ⟨l.toArray⟩
theorem sx_cps (l : List Nat) : (Sx l).cps.toList = l := by simp [Sx]
theorem sx_of (z : Str) : z = Sx z.cps.toList := by simp [Sx]
theorem sx_len (l : List Nat) : (Sx l).length = l.length := by simp [Sx, Str.length]
theorem sx_add (a b : List Nat) : Sx a ++ Sx b = Sx (a ++ b) := by
  show (⟨a.toArray ++ b.toArray⟩ : Str) = ⟨(a ++ b).toArray⟩
  rw [List.append_toArray]
theorem cut_take (l : List Nat) (n : Nat) : cutS (Sx l) none (some (n : Int)) = Sx (l.take n) := by
  unfold cutS
  rw [HT.sIx_none, HT.sIx_nat, sx_len, sx_cps, List.drop_zero, Nat.sub_zero]
  show Sx _ = Sx _
  congr 1
  rw [List.take_eq_take_iff]
  omega
theorem cut_drop (l : List Nat) (n : Nat) : cutS (Sx l) (some (n : Int)) none = Sx (l.drop n) := by
  unfold cutS
  rw [HT.sIx_none, HT.sIx_nat, sx_len, sx_cps]
  show Sx _ = Sx _
  congr 1
  by_cases h : n ≤ l.length
  · rw [Nat.min_eq_left h, List.take_of_length_le (by rw [List.length_drop]; omega)]
  · rw [Nat.min_eq_right (by omega), List.drop_eq_nil_of_le (Nat.le_refl _), List.drop_eq_nil_of_le (by omega), List.take_nil]
theorem cutD_take (xs : List PyData) (n : Nat) : cutD xs none (some (n : Int)) = xs.take n := by
  unfold cutD
  rw [HT.sIx_none, HT.sIx_nat, List.drop_zero, Nat.sub_zero, List.take_eq_take_iff]
  omega
theorem cutD_drop (xs : List PyData) (n : Nat) : cutD xs (some (n : Int)) none = xs.drop n := by
  unfold cutD
  rw [HT.sIx_none, HT.sIx_nat]
  by_cases h : n ≤ xs.length
  · rw [Nat.min_eq_left h, List.take_of_length_le (by rw [List.length_drop]; omega)]
  · rw [Nat.min_eq_right (by omega), List.drop_eq_nil_of_le (Nat.le_refl _), List.drop_eq_nil_of_le (by omega), List.take_nil]
theorem join_signs : ∀ cs : List Nat, Txt.join (Str.ofString "") (cs.map fun c => (⟨#[c]⟩ : Str)) = Sx cs := by
  have go : ∀ cs : List Nat, Str.join (Str.ofString "") (cs.map fun c => (⟨#[c]⟩ : Str)) = Sx cs := by
    intro cs
    induction cs with
    | nil => rfl
    | cons c r ih =>
      cases r with
      | nil => rfl
      | cons d r =>
        show (⟨#[c]⟩ : Str) ++ Str.ofString "" ++ Str.join (Str.ofString "") ((d :: r).map fun c => (⟨#[c]⟩ : Str)) = _
        rw [ih]
        have e : (⟨#[c]⟩ : Str) ++ Str.ofString "" = Sx [c] := by
          have q : Str.ofString "" = Sx [] := by decide +kernel
          rw [q]
          exact sx_add [c] []
        rw [e, sx_add]
        rfl
  intro cs
  exact (TL.join_eq _ _).trans (go cs)
theorem odd_inj {y f i j : Nat} (hy : y ∈ [1, 3, 5, 7, 9, 11, 15, 17, 19, 21, 23, 25]) (hi : i < 8) (hj : j < 8) (h : (f + y * i) % 26 = (f + y * j) % 26) : i = j := by
  simp only [List.mem_cons, List.mem_nil_iff, or_false] at hy
  rcases hy with rfl | rfl | rfl | rfl | rfl | rfl | rfl | rfl | rfl | rfl | rfl | rfl <;> omega
theorem name_sx {l : List Nat} (h1 : 1 ≤ l.length) (h2 : l.length ≤ 8) (h : l.all letter = true) : nameB (.str (Sx l)) = true := by
  show (decide (1 ≤ (Sx l).length) && decide ((Sx l).length ≤ 8) && (Sx l).cps.toList.all letter) = true
  rw [sx_len, sx_cps, h, decide_eq_true h1, decide_eq_true h2] <;> rfl
theorem sx_inj {a b : List Nat} (h : Sx a = Sx b) : a = b := by
  have := congrArg (fun z : Str => z.cps.toList) h
  simpa [sx_cps] using this
theorem nodup_map_on {α β : Type} {g : α → β} : ∀ {l : List α}, (∀ x, x ∈ l → ∀ y, y ∈ l → g x = g y → x = y) → l.Nodup → (l.map g).Nodup
  | [], _, _ => List.nodup_nil
  | x :: r, h, n => by
    rw [List.nodup_cons] at n
    rw [List.map_cons, List.nodup_cons]
    refine ⟨fun z => ?_, nodup_map_on (fun a ha b hb => h a (List.mem_cons_of_mem _ ha) b (List.mem_cons_of_mem _ hb)) n.2⟩
    obtain ⟨y, hy, e⟩ := List.mem_map.mp z
    have := h y (List.mem_cons_of_mem _ hy) x List.mem_cons_self e
    rw [this] at hy
    exact n.1 hy
theorem nodup_set {α : Type} : ∀ {l : List α} {j : Nat} {y : α}, l.Nodup → y ∉ l → (l.set j y).Nodup
  | [], _, _, h, _ => h
  | x :: r, 0, y, h, n => by
    rw [List.set_cons_zero, List.nodup_cons]
    rw [List.nodup_cons] at h
    exact ⟨fun z => n (List.mem_cons_of_mem _ z), h.2⟩
  | x :: r, j + 1, y, h, n => by
    rw [List.set_cons_succ, List.nodup_cons]
    rw [List.nodup_cons] at h
    refine ⟨fun z => ?_, nodup_set h.2 (fun z => n (List.mem_cons_of_mem _ z))⟩
    rcases List.mem_or_eq_of_mem_set z with q | q
    · exact h.1 q
    · exact n (by rw [q]; exact List.mem_cons_self)
def namesOk (count : Int) (ns : List Str) : Prop := (ns.length : Int) = count ∧ (∀ z, z ∈ ns → nameB (.str z) = true) ∧ ns.Nodup
end
end SM

set_option Elab.async false
set_option linter.all false
set_option maxRecDepth 100000
set_option maxHeartbeats 4000000
namespace SM
open PySem PySem.Spec PyProof.Rows L2
section
variable [PW]
theorem lt_cons {x y : PyData} (h : PySem.W.alike x y = true) (xs ys : List PyData) : PySem.W.dataLt (.tuple (x :: xs)) (.tuple (y :: ys)) = if PyData.eqv x y = true then PySem.W.dataLt (.tuple xs) (.tuple ys) else PySem.W.dataLt x y := by
  rw [PySem.W.dataLt_tuple, PySem.W.dataLt_cons h, PySem.W.dataLt_tuple]
theorem edge_lt {s t c s' t' c' : PyData} (hs : ptB s = true) (ht : ptB t = true) (hs' : ptB s' = true) (ht' : ptB t' = true) (n : (PyData.eqv s s' && PyData.eqv t t') = false) :
    PySem.W.dataLt (.tuple [s, t, c]) (.tuple [s', t', c']) = PySem.W.dataLt (.tuple [s, t]) (.tuple [s', t']) := by
  rw [lt_cons (pt_alike hs hs'), lt_cons (pt_alike hs hs'), lt_cons (pt_alike ht ht'), lt_cons (pt_alike ht ht')]
  cases e1 : PyData.eqv s s' with
  | false => simp
  | true =>
    cases e2 : PyData.eqv t t' with
    | false => simp
    | true =>
      rw [e1, e2] at n
      cases n
/-- of two alike data that are not equal one is the less -/
theorem lt_total {x y : PyData} (h1 : PySem.W.dataLt x y = false) (h2 : PySem.W.dataLt y x = false) : PySem.W.keyToks x = PySem.W.keyToks y := PyProof.Rows.lex_total _ _ h1 h2
theorem pt_toks {s t : PyData} (hs : ptB s = true) (ht : ptB t = true) (h : PySem.W.keyToks s = PySem.W.keyToks t) : PyData.eqv s t = true := by
  have al := pt_alike hs ht
  cases e : PyData.eqv s t with
  | true => rfl
  | false =>
    have q := (PySem.W.toks_eqv s t al).2 e
    have q2 := (PySem.W.toks_eqv t s (by rw [PySem.W.alike_comm]; exact al)).2 (by rw [PySem.W.eqv_comm]; exact e)
    rcases pt_shape hs with ⟨x, i, rfl⟩ | ⟨x, i, j, rfl⟩ <;> rcases pt_shape ht with ⟨x', i', rfl⟩ | ⟨x', i', j', rfl⟩
    all_goals
      simp [PySem.W.keyToks, PySem.W.keyToksAll] at h
    · obtain ⟨h1, h2⟩ := h
      have : x = x' := PySem.W.str_of_cps (by rw [h1])
      subst this h2
      simp [PyData.eqv, PyData.eqvAll] at e
    · obtain ⟨h1, h2, h3⟩ := h
      have : x = x' := PySem.W.str_of_cps (by rw [h1])
      subst this h2 h3
      simp [PyData.eqv, PyData.eqvAll] at e
theorem pt_eq {s t : PyData} (hs : ptB s = true) (ht : ptB t = true) (h : PyData.eqv s t = true) : s = t := by
  rcases pt_shape hs with ⟨x, i, rfl⟩ | ⟨x, i, j, rfl⟩ <;> rcases pt_shape ht with ⟨x', i', rfl⟩ | ⟨x', i', j', rfl⟩
  all_goals
    simp [PyData.eqv, PyData.eqvAll] at h
  · obtain ⟨rfl, rfl⟩ := h
    rfl
  · obtain ⟨rfl, rfl, rfl⟩ := h
    rfl
theorem pt_nk {s : PyData} (hs : ptB s = true) : ∃ k, toNK s = some k ∧ k.depth ≤ 1 := by
  rcases pt_shape hs with ⟨x, i, rfl⟩ | ⟨x, i, j, rfl⟩
  · exact ⟨_, rfl, by simp [NestedKey.depth, NestedKey.depthAll]⟩
  · exact ⟨_, rfl, by simp [NestedKey.depth, NestedKey.depthAll]⟩
theorem two_nk {s t : PyData} (hs : ptB s = true) (ht : ptB t = true) : ∃ k, toNK (.tuple [s, t]) = some k ∧ k.depth ≤ 8 := by
  obtain ⟨k1, h1, d1⟩ := pt_nk hs
  obtain ⟨k2, h2, d2⟩ := pt_nk ht
  refine ⟨.tup [k1, k2], ?_, ?_⟩
  · show (((toNK s).bind fun k => (((toNK t).bind fun k => (some []).map (k :: ·))).map (k :: ·))).map NestedKey.tup = _
    rw [h1, h2]
    rfl
  · show max k1.depth (max k2.depth 0) + 1 ≤ 8
    omega
/-- an edge between some points -/
def edgeP (pts : List PyData) (e : PyData) : Prop := ∃ s t c, e = .tuple [s, t, .int c] ∧ s ∈ pts ∧ t ∈ pts ∧ PyData.eqv s t = false ∧ 1 ≤ c ∧ c ≤ 1000000
def edgesOk (pts : List PyData) (most : Int) (es : List PyData) : Prop := (es.length : Int) ≤ most ∧ (∀ e, e ∈ es → edgeP pts e) ∧ es.Pairwise fun a b => PySem.W.dataLt (twoD a) (twoD b) = true
def apart (a b : PyData) : Prop := ¬ (twoD a = twoD b)
theorem edges_sorted {pts es : List PyData} {most : Int} (hp : ∀ p, p ∈ pts → ptB p = true) (hl : (es.length : Int) ≤ most) (he : ∀ e, e ∈ es → edgeP pts e) (ha : es.Pairwise apart) : edgesOk pts most (es.mergeSort (PySem.W.dataLe false id)) := by
  have perm := List.mergeSort_perm es (PySem.W.dataLe false id)
  refine ⟨by rw [perm.length_eq]; exact hl, fun e hm => he e (perm.mem_iff.mp hm), ?_⟩
  have s1 := PySem.W.sort_pairwise (le := PySem.W.dataLe false id) (PySem.W.sortLe_total (PyProof.Rows.listOrd PyProof.Rows.itemOrd) false fun b : PyData => PySem.W.keyToks (id b)) es
  have s2 : (es.mergeSort (PySem.W.dataLe false id)).Pairwise apart := (List.Perm.pairwise_iff (fun h => fun z => h z.symm) perm).mpr ha
  refine List.Pairwise.imp_of_mem ?_ (s1.and s2)
  rintro a b ha hb ⟨h1, h2⟩
  obtain ⟨s, t, c, rfl, q1, q2, q3, _⟩ := he a (perm.mem_iff.mp ha)
  obtain ⟨s', t', c', rfl, r1, r2, r3, _⟩ := he b (perm.mem_iff.mp hb)
  have n : (PyData.eqv s' s && PyData.eqv t' t) = false := by
    cases e : (PyData.eqv s' s && PyData.eqv t' t) with
    | false => rfl
    | true =>
      simp only [Bool.and_eq_true] at e
      refine absurd ?_ h2
      show PyData.tuple [s, t] = .tuple [s', t']
      rw [pt_eq (hp _ r1) (hp _ q1) e.1, pt_eq (hp _ r2) (hp _ q2) e.2]
  have h3 : PySem.W.dataLt (.tuple [s', t', .int c']) (.tuple [s, t, .int c]) = false := by
    have : (!PySem.W.dataLt (.tuple [s', t', .int c']) (.tuple [s, t, .int c])) = true := h1
    simpa using this
  rw [edge_lt (hp _ r1) (hp _ r2) (hp _ q1) (hp _ q2) n] at h3
  show PySem.W.dataLt (.tuple [s, t]) (.tuple [s', t']) = true
  cases e : PySem.W.dataLt (.tuple [s, t]) (.tuple [s', t']) with
  | true => rfl
  | false =>
    have tk := lt_total e h3
    exfalso
    have cq : ∀ {a b : Str}, a.cps = b.cps ↔ a = b := fun {a b} => ⟨fun h => by cases a; cases b; cases h; rfl, fun h => by rw [h]⟩
    have tk2 : PySem.W.keyToksAll [s, t] = PySem.W.keyToksAll [s', t'] := tk
    rcases pt_shape (hp _ q1) with ⟨x, i, rfl⟩ | ⟨x, i, j, rfl⟩ <;> rcases pt_shape (hp _ r1) with ⟨x', i', rfl⟩ | ⟨x', i', j', rfl⟩
    all_goals rcases pt_shape (hp _ q2) with ⟨y, i2, rfl⟩ | ⟨y, i2, j2, rfl⟩ <;> rcases pt_shape (hp _ r2) with ⟨y', i2', rfl⟩ | ⟨y', i2', j2', rfl⟩
    all_goals
      simp [PySem.W.keyToks, PySem.W.keyToksAll] at tk2
    all_goals
      refine h2 ?_
      simp only [twoD]
    all_goals
      simp only [cq] at tk2
      simp [tk2]
def entP (pts : List PyData) (p : PyData × PyData) : Prop := ∃ s t c, p = (.tuple [s, t], .int c) ∧ s ∈ pts ∧ t ∈ pts ∧ PyData.eqv s t = false ∧ 1 ≤ c ∧ c ≤ 1000000
def keysApart (ds : List (PyData × PyData)) : Prop := ds.Pairwise fun p q => toNK p.1 ≠ toNK q.1
theorem look_none {ds : List (PyData × PyData)} {k : NestedKey} (h : lookN ds k = none) : ∀ p, p ∈ ds → toNK p.1 ≠ some k := fun p hp e => by
  unfold lookN at h
  rw [Option.map_eq_none_iff, List.find?_eq_none] at h
  exact h p hp (decide_eq_true e)
theorem look_self : ∀ {ds : List (PyData × PyData)} {p : PyData × PyData} {k : NestedKey}, keysApart ds → p ∈ ds → toNK p.1 = some k → lookN ds k = some p.2
  | q :: r, p, k, h, hp, e => by
    rw [keysApart, List.pairwise_cons] at h
    unfold lookN
    rcases List.mem_cons.mp hp with z | z
    · subst z
      rw [List.find?_cons_of_pos (p := fun p : PyData × PyData => isNK p.1 k) (decide_eq_true e)]
      rfl
    · rw [List.find?_cons_of_neg (p := fun p : PyData × PyData => isNK p.1 k) (fun y => h.1 p z ((of_decide_eq_true y).trans e.symm))]
      exact look_self (ds := r) h.2 z e
theorem put_ok {pts : List PyData} {ds : List (PyData × PyData)} {s t : PyData} {c : Int} {k : NestedKey} (hd : ∀ p, p ∈ ds → entP pts p) (ha : keysApart ds) (e : toNK (.tuple [s, t]) = some k) (h1 : s ∈ pts) (h2 : t ∈ pts) (h3 : PyData.eqv s t = false) (c1 : 1 ≤ c) (c2 : c ≤ 1000000) :
    (∀ p, p ∈ putND ds (.tuple [s, t]) k (.int c) → entP pts p) ∧ keysApart (putND ds (.tuple [s, t]) k (.int c)) := by
  unfold putND
  cases q : lookN ds k with
  | some d =>
    rw [if_pos (show (some d).isSome = true from rfl)]
    refine ⟨fun p hp => ?_, ?_⟩
    · obtain ⟨x, hx, rfl⟩ := List.mem_map.mp hp
      obtain ⟨s', t', c', rfl, r1, r2, r3, r4⟩ := hd x hx
      show entP pts (if isNK (.tuple [s', t']) k = true then _ else _)
      split
      · exact ⟨s', t', c, rfl, r1, r2, r3, c1, c2⟩
      · exact ⟨s', t', c', rfl, r1, r2, r3, r4⟩
    · unfold keysApart
      rw [List.pairwise_map]
      refine List.Pairwise.imp (fun {a b} h => ?_) ha
      have f : ∀ x : PyData × PyData, (if isNK x.1 k = true then (x.1, PyData.int c) else x).1 = x.1 := fun x => by split <;> rfl
      rw [f, f]
      exact h
  | none =>
    rw [if_neg (fun z => Bool.noConfusion z)]
    refine ⟨fun p hp => ?_, ?_⟩
    · rcases List.mem_append.mp hp with z | z
      · exact hd p z
      · rw [List.mem_singleton.mp z]
        exact ⟨s, t, c, rfl, h1, h2, h3, c1, c2⟩
    · unfold keysApart
      rw [List.pairwise_append]
      refine ⟨ha, List.pairwise_singleton _ _, fun a ha' b hb => ?_⟩
      rw [List.mem_singleton.mp hb, e]
      exact look_none q a ha'
def triD (ds : List (PyData × PyData)) : PyData → PyData
  | .tuple [s, t] => .tuple [s, t, ((toNK (.tuple [s, t])).bind (lookN ds)).getD .none]
  | d => d
theorem tri_mem {pts : List PyData} {ds : List (PyData × PyData)} (hp : ∀ p, p ∈ pts → ptB p = true) (hd : ∀ p, p ∈ ds → entP pts p) (ha : keysApart ds) {p : PyData × PyData} (h : p ∈ ds) :
    ∃ s t c k, p = (.tuple [s, t], .int c) ∧ toNK (.tuple [s, t]) = some k ∧ k.depth ≤ 8 ∧ lookN ds k = some (.int c) ∧ triD ds p.1 = .tuple [s, t, .int c] ∧ edgeP pts (.tuple [s, t, .int c]) := by
  obtain ⟨s, t, c, e, r1, r2, r3, r4⟩ := hd p h
  obtain ⟨k, e1, e2⟩ := two_nk (hp _ r1) (hp _ r2)
  have l := look_self ha h (k := k) (by rw [e]; exact e1)
  refine ⟨s, t, c, k, e, e1, e2, by rw [l, e], ?_, s, t, c, rfl, r1, r2, r3, r4⟩
  subst e
  show PyData.tuple [s, t, ((toNK (.tuple [s, t])).bind (lookN ds)).getD .none] = _
  rw [e1]
  show PyData.tuple [s, t, (lookN ds k).getD .none] = _
  rw [l]
  rfl
theorem edge_plain {pts : List PyData} {e : PyData} (hp : ∀ p, p ∈ pts → ptB p = true) (h : edgeP pts e) : e.plain = true ∧ e.depth = 2 := by
  obtain ⟨s, t, c, rfl, h1, h2, _⟩ := h
  obtain ⟨a1, a2⟩ := pt_plain (hp _ h1)
  obtain ⟨b1, b2⟩ := pt_plain (hp _ h2)
  refine ⟨?_, ?_⟩
  · show (s.plain && (t.plain && (true && true))) = true
    rw [a1, b1] <;> rfl
  · show max s.depth (max t.depth (max 0 0)) + 1 = 2
    rw [a2, b2] <;> rfl
theorem edge_alike {pts : List PyData} {e e' : PyData} (hp : ∀ p, p ∈ pts → ptB p = true) (h : edgeP pts e) (h' : edgeP pts e') : PySem.W.alike e e' = true := by
  obtain ⟨s, t, c, rfl, h1, h2, _⟩ := h
  obtain ⟨s', t', c', rfl, h3, h4, _⟩ := h'
  show (PySem.W.alike s s' && (PySem.W.alike t t' && (true && true))) = true
  rw [pt_alike (hp _ h1) (hp _ h3), pt_alike (hp _ h2) (hp _ h4)] <;> rfl
end
end SM

set_option Elab.async false
set_option linter.all false
set_option maxRecDepth 100000
set_option maxHeartbeats 4000000
namespace SM
open PySem PySem.Spec PyProof.Rows L2
section
variable [PW]
/-- a map without its edges -/
def fourD : PyData → PyData
  | .tuple (a :: b :: c :: l :: _) => .tuple [a, b, c, l]
  | d => d
structure AtlasP (maps ports nodes slots edges : Int) (ds : List PyData) : Prop where
  len1 : 1 ≤ ds.length
  len2 : (ds.length : Int) ≤ maps
  head : ∀ d, d ∈ ds → headB d = true
  bnd : ∀ d, d ∈ ds → portsD d ≤ ports ∧ ((labelsD d).length : Int) ≤ nodes ∧ ((slotsD d).length : Int) ≤ slots
  asc : ds.Pairwise fun a b => PySem.W.dataLt (firstD a) (firstD b) = true
  slt : ∀ d, d ∈ ds → (slotsD d).all (inItems ds) = true
  edg : ∀ d, d ∈ ds → ∃ es, partD 4 d = .tuple es ∧ edgesOk (allPts ds d) edges es
theorem first_four (d : PyData) : firstD (fourD d) = firstD d := by
  unfold fourD
  split <;> rfl
theorem ports_four (d : PyData) : portsD (fourD d) = portsD d := by
  unfold fourD
  split
  · rename_i a b c l r
    cases b <;> rfl
  · rfl
theorem item_four {ds hs : List PyData} (h : ds.map fourD = hs.map fourD) (z : Str) : (itemOf ds z).map fourD = (itemOf hs z).map fourD := by
  have f : ∀ l : List PyData, (l.filter (nameIs z)).map fourD = (l.map fourD).filter (nameIs z) := fun l => by
    rw [List.filter_map]
    congr 1
    refine List.filter_congr fun d _ => ?_
    show nameIs z d = nameIs z (fourD d)
    unfold nameIs
    rw [first_four]
  unfold itemOf
  rw [← List.head?_map, ← List.head?_map, f, f, h]
theorem ports_item {ds hs : List PyData} (h : ds.map fourD = hs.map fourD) (z : Str) : (itemOf ds z).map (fun d => (portsD d).toNat) = (itemOf hs z).map fun d => (portsD d).toNat := by
  have q := congrArg (Option.map fun d => (portsD d).toNat) (item_four h z)
  rw [Option.map_map, Option.map_map] at q
  have e : ((fun d => (portsD d).toNat) ∘ fourD) = fun d => (portsD d).toNat := by
    funext d
    show (portsD (fourD d)).toNat = _
    rw [ports_four]
  rw [e] at q
  exact q
theorem slot_four {ds hs : List PyData} (h : ds.map fourD = hs.map fourD) : ∀ (sl : List PyData) (s : Nat), slotPts ds s sl = slotPts hs s sl
  | [], _ => rfl
  | n :: r, s => by
    unfold slotPts
    rw [slot_four h r (s + 1)]
    cases n <;> first | rfl | skip
    rename_i z
    simp only [ports_item h z]
theorem in_four {ds hs : List PyData} (h : ds.map fourD = hs.map fourD) (n : PyData) : inItems ds n = inItems hs n := by
  cases n <;> first | rfl | skip
  rename_i z
  show (itemOf ds z).isSome = (itemOf hs z).isSome
  have q := congrArg Option.isSome (item_four h z)
  rwa [Option.isSome_map, Option.isSome_map] at q
/-- several of a list, drawn one by one -/
theorem picks {xs : List PyData} {v w : Nat} {env : List Sl} {R : PyData → Nat → Prop} (h0 : ∀ x, (env.set v x)[0]? = some Sl.pen) (hw : ∀ x, (env.set v x)[w]? = some (.dat (.list xs))) (l0 : 0 < xs.length) (l1 : xs.length < 1000000) :
    ∀ {ds acc : List PyData} {k : Nat}, k ≤ 1000000000 → ds.length ≤ k → (∀ ys, ys.length = ds.length → (∀ y, y ∈ ys → y ∈ xs) → R (.list (acc ++ ys)) (k - ds.length)) →
      compD (fun d env k R => R (env.set v (Sl.dat d)) k) (fun _ k R => R true k) (fun env k R => env[0]? = some Sl.pen ∧ ∃ d, env[w]? = some (Sl.dat d) ∧ pickS [none, some d] k R) env ds acc k R
  | [], acc, k, _, _, h => by
    have := h [] rfl (fun y hy => nomatch hy)
    rw [List.append_nil] at this
    exact this
  | d :: r, acc, k, hk, hl, h => by
    rw [List.length_cons] at hl
    refine ⟨fun _ => ⟨h0 _, _, hw _, pick_list.mpr ⟨l0, l1, by omega, hk, fun x hx => ?_⟩⟩, fun q => nomatch q⟩
    refine picks h0 hw l0 l1 (by omega) (by omega) fun ys e1 e2 => ?_
    have := h (x :: ys) (by rw [List.length_cons, e1]; rfl) (fun y hy => (List.mem_cons.mp hy).elim (fun q => by rw [q]; exact hx) (e2 y))
    rw [List.append_assoc]
    rw [show k - 1 - r.length = k - (d :: r).length by rw [List.length_cons]; omega]
    exact this
theorem strs_plain : ∀ ns : List Str, PyData.plainAll (ns.map PyData.str) = true
  | [] => rfl
  | z :: r => by
    rw [List.map_cons, PyData.plainAll, strs_plain r]
    rfl
theorem strs_sort {ns : List Str} (nd : ns.Nodup) : ((ns.map PyData.str).mergeSort (PySem.W.dataLe false id)).Pairwise fun a b => PySem.W.dataLt a b = true := by
  have perm := List.mergeSort_perm (ns.map PyData.str) (PySem.W.dataLe false id)
  have s1 := PySem.W.sort_pairwise (le := PySem.W.dataLe false id) (PySem.W.sortLe_total (PyProof.Rows.listOrd PyProof.Rows.itemOrd) false fun b : PyData => PySem.W.keyToks (id b)) (ns.map PyData.str)
  have s2 : ((ns.map PyData.str).mergeSort (PySem.W.dataLe false id)).Pairwise (fun a b => a ≠ b) := by
    refine (List.Perm.pairwise_iff (fun h => h.symm) perm).mpr ?_
    rw [List.pairwise_map]
    refine List.Pairwise.imp (fun {a b} h => ?_) (show ns.Pairwise (fun a b => a ≠ b) from nd)
    intro z
    cases z
    exact h rfl
  refine List.Pairwise.imp_of_mem ?_ (s1.and s2)
  rintro a b ha hb ⟨h1, h2⟩
  obtain ⟨x, _, rfl⟩ := List.mem_map.mp (perm.mem_iff.mp ha)
  obtain ⟨y, _, rfl⟩ := List.mem_map.mp (perm.mem_iff.mp hb)
  have h3 : (!PySem.W.dataLt (.str y) (.str x)) = true := h1
  cases e : PySem.W.dataLt (.str x) (.str y) with
  | true => rfl
  | false =>
    have tk := lt_total e (by simpa using h3)
    simp [PySem.W.keyToks] at tk
    exact absurd (by
      have : x = y := by cases x; cases y; cases tk; rfl
      rw [this]) h2
/-- a map as it is drawn first -/
def headP (ports nodes slots : Int) (sn : List PyData) (d : PyData) : Prop := ∃ z p ls sl, d = .tuple [.str z, .int p, .tuple ls, .tuple sl, .tuple []] ∧ nameB (.str z) = true ∧ 1 ≤ p ∧ p ≤ ports ∧ (ls.length : Int) ≤ nodes ∧ (∀ x, x ∈ ls → nameB x = true) ∧ (sl.length : Int) ≤ slots ∧ ∀ x, x ∈ sl → x ∈ sn
theorem cut4 (a b c l e : PyData) : slTF (.tuple [a, b, c, l, e]) none (some 4) = some (.tuple [a, b, c, l]) := rfl
theorem head_of {ports nodes slots : Int} {sn : List PyData} {z : Str} {p : Int} {ls sl : List PyData} {e : PyData} (hs : ∀ x, x ∈ sn → nameB x = true) (b1 : ports ≤ 4) (b2 : nodes ≤ 8) (b3 : slots ≤ 4) (h1 : nameB (.str z) = true) (h2 : 1 ≤ p) (h3 : p ≤ ports)
    (h4 : (ls.length : Int) ≤ nodes) (h5 : ∀ x, x ∈ ls → nameB x = true) (h6 : (sl.length : Int) ≤ slots) (h7 : ∀ x, x ∈ sl → x ∈ sn) : headB (.tuple [.str z, .int p, .tuple ls, .tuple sl, e]) = true := by
  show (nameB (.str z) && intIn (.int p) 1 4 && namesB 8 (.tuple ls) && namesB 4 (.tuple sl)) = true
  have q1 : intIn (.int p) 1 4 = true := by
    show (decide ((1 : Int) ≤ p) && decide (p ≤ 4)) = true
    rw [decide_eq_true h2, decide_eq_true (show p ≤ 4 by omega)] <;> rfl
  have q2 : namesB 8 (.tuple ls) = true := by
    show (decide ((ls.length : Int) ≤ 8) && ls.all nameB) = true
    rw [decide_eq_true (show (ls.length : Int) ≤ 8 by omega), List.all_eq_true.mpr h5] <;> rfl
  have q3 : namesB 4 (.tuple sl) = true := by
    show (decide ((sl.length : Int) ≤ 4) && sl.all nameB) = true
    rw [decide_eq_true (show (sl.length : Int) ≤ 4 by omega), List.all_eq_true.mpr fun x hx => hs x (h7 x hx)] <;> rfl
  rw [h1, q1, q2, q3] <;> rfl
theorem item_some : ∀ {hs : List PyData} {x : PyData} {z : Str}, x = .str z → x ∈ hs.map firstD → (itemOf hs z).isSome = true := by
  intro hs x z e hx
  obtain ⟨d, hd, e2⟩ := List.mem_map.mp hx
  unfold itemOf
  rw [List.isSome_head?]
  have : d ∈ hs.filter (nameIs z) := List.mem_filter.mpr ⟨hd, by
    unfold nameIs
    rw [e2, e]
    simp [PyData.eqv]⟩
  intro q
  rw [q] at this
  cases this
theorem slotPts_pt {ds : List PyData} : ∀ (sl : List PyData) (s : Nat) (p : PyData), p ∈ slotPts ds s sl → ptB p = true
  | [], _, _, h => nomatch h
  | n :: r, s, p, h => by
    unfold slotPts at h
    rcases List.mem_append.mp h with q | q
    · obtain ⟨i, _, rfl⟩ := List.mem_map.mp q
      rfl
    · exact slotPts_pt r (s + 1) p q
theorem allPts_pt {ds : List PyData} {d p : PyData} (h : p ∈ allPts ds d) : ptB p = true := by
  unfold allPts ownPts nodePts portPts at h
  rcases List.mem_append.mp h with q | q
  · rcases List.mem_append.mp q with q | q
    all_goals
      obtain ⟨i, _, rfl⟩ := List.mem_map.mp q
      rfl
  · exact slotPts_pt _ _ _ q
theorem slotPts_len {ds : List PyData} (h : ∀ d, d ∈ ds → headB d = true) : ∀ (sl : List PyData) (s : Nat), (slotPts ds s sl).length ≤ 4 * sl.length
  | [], _ => Nat.le_refl _
  | n :: r, s => by
    have ih := slotPts_len h r (s + 1)
    have q : ∃ m, m ≤ 4 ∧ slotPts ds s (n :: r) = ((List.range m).map fun i => PyData.tuple [.str "slot", .int (s : Nat), .int (i : Nat)]) ++ slotPts ds (s + 1) r := by
      cases n <;> first | exact ⟨0, by decide, rfl⟩ | skip
      rename_i z
      refine ⟨((itemOf ds z).map fun d => (portsD d).toNat).getD 0, ?_, rfl⟩
      cases e : itemOf ds z with
      | none => exact Nat.zero_le _
      | some m =>
        obtain ⟨z2, p2, ls2, sl2, e2, rfl⟩ := chart_shape (h m (item_mem e).1)
        obtain ⟨b1, b2, b3, b4⟩ := head_bounds (h _ (item_mem e).1)
        show p2.toNat ≤ 4
        omega
    obtain ⟨m, hm, e⟩ := q
    rw [e, List.length_append, List.length_map, List.length_range, List.length_cons]
    omega
end
end SM

set_option Elab.async false
set_option linter.all false
set_option maxRecDepth 100000
set_option maxHeartbeats 4000000
namespace SM
open PySem PySem.Spec PyProof.Rows L2
section
variable [PW]
def ascP (ds : List PyData) : Prop := ds.Pairwise fun a b => PySem.W.dataLt (firstD a) (firstD b) = true
theorem nameIs_iff {d : PyData} {y z : Str} (h : firstD d = .str y) : nameIs z d = true ↔ z = y := by
  unfold nameIs
  rw [h]
  show (y == z) = true ↔ _
  exact ⟨fun q => (eq_of_beq q).symm, fun q => by rw [q]; exact beq_self_eq_true y⟩
theorem item_cons (d : PyData) (r : List PyData) (z : Str) : itemOf (d :: r) z = if nameIs z d = true then some d else itemOf r z := by
  unfold itemOf
  by_cases h : nameIs z d = true
  · rw [List.filter_cons_of_pos h, if_pos h] <;> rfl
  · rw [List.filter_cons_of_neg h, if_neg h]
theorem look_maps {z : Str} : ∀ {ds : List PyData} {acc : List (PyData × PyData)}, ds.all headB = true → ascP ds → lookD (mapsD acc ds) (.inr z) = match itemOf ds z with
    | some d => some d
    | none => lookD acc (.inr z)
  | [], _, _, _ => rfl
  | d :: r, acc, ha, hp => by
    rw [List.all_cons, Bool.and_eq_true] at ha
    obtain ⟨y, hy⟩ := first_str ha.1
    have hp' := List.pairwise_cons.mp hp
    have e : mapsD acc (d :: r) = mapsD (putD acc (.inr y) d) r := by
      show (match toKey (firstD d) with
        | some k => mapsD (putD acc k d) r
        | none => mapsD acc r) = _
      rw [hy] <;> rfl
    rw [e, look_maps ha.2 hp'.2, item_cons]
    by_cases q : nameIs z d = true
    · have hz := (nameIs_iff hy).mp q
      rw [if_pos q]
      have e2 : itemOf r z = none := by
        cases e3 : itemOf r z with
        | none => rfl
        | some m =>
          obtain ⟨m1, m2⟩ := item_mem e3
          obtain ⟨w, hw⟩ := first_str (List.all_eq_true.mp ha.2 m m1)
          have hzw := (nameIs_iff hw).mp m2
          have q3 := hp'.1 m m1
          rw [hy, hw, ← hz, ← hzw] at q3
          exact absurd q3 (by rw [show PySem.W.dataLt (.str z) (.str z) = false from PyProof.Rows.lex_irrefl _]; exact Bool.false_ne_true)
      rw [e2]
      show lookD (putD acc (.inr y) d) (.inr z) = some d
      rw [look_put, if_pos (by rw [hz])]
    · rw [if_neg q]
      cases itemOf r z with
      | some m => rfl
      | none =>
        show lookD (putD acc (.inr y) d) (.inr z) = lookD acc (.inr z)
        rw [look_put, if_neg fun c => q ((nameIs_iff hy).mpr (Sum.inr.inj c))]
theorem neF_str (x z : Str) : neF (.str x) (.str z) = some (.bool (!PyData.eqv (.str x) (.str z))) := if_pos shal_str
theorem eqv_str (x z : Str) : PyData.eqv (.str x) (.str z) = strIs (.str x) z := rfl
theorem look_two (x : Str) (a b : PyData) : lookD [(.str "node", a), (.str "port", b)] (.inr x) = if strIs (.str x) "node" = true then some a else if strIs (.str x) "port" = true then some b else none := by
  rw [look_cons, look_cons]
  have e : ∀ w : Str, keyEq (.str w) (.inr x) = strIs (.str x) w := fun w => by
    show decide ((Sum.inr w : Key) = .inr x) = (x == w)
    by_cases q : x = w
    · rw [q, decide_eq_true rfl, beq_self_eq_true]
    · rw [decide_eq_false (fun h => q (Sum.inr.inj h).symm), beq_eq_false_iff_ne.mpr q]
  show (if keyEq (.str "node") (.inr x) = true then some a else if keyEq (.str "port") (.inr x) = true then some b else lookD [] (.inr x)) = _
  rw [e, e] <;> rfl
theorem str_at {z : Str} {p : Int} {ls sl : List PyData} {e nm : PyData} {n : Int} (h : headB (.tuple [.str z, .int p, .tuple ls, .tuple sl, e]) = true) (g : atD (.tuple sl) (.int n) = some nm) : ∃ y, nm = .str y := by
  obtain ⟨xs, h1, h2⟩ := head_slots h
  cases h1
  obtain ⟨j, h3, h4⟩ := Option.bind_eq_some_iff.mp (show (ixN sl.length n).bind (fun j => sl[j]?) = some nm from g)
  exact h2 nm (List.mem_of_getElem? h4)
theorem at2_0 (w j : PyData) : atD (.tuple [w, j]) (.int 0) = some w := rfl
theorem at2_1 (w j : PyData) : atD (.tuple [w, j]) (.int 1) = some j := rfl
theorem at3_0 (w j i : PyData) : atD (.tuple [w, j, i]) (.int 0) = some w := rfl
theorem at3_1 (w j i : PyData) : atD (.tuple [w, j, i]) (.int 1) = some j := rfl
theorem at3_2 (w j i : PyData) : atD (.tuple [w, j, i]) (.int 2) = some i := rfl
theorem tup_tup (xs : List PyData) : isTup (.tuple xs) = true := rfl
theorem str_str (x : Str) : isStr (.str x) = true := rfl
theorem c22 : decide ((2 : Int) ≤ ((2 : Nat) : Int)) = true := rfl
theorem c23 : decide (((2 : Nat) : Int) ≤ 3) = true := rfl
theorem c33 : decide (((3 : Nat) : Int) ≤ 3) = true := rfl
theorem c32 : decide ((2 : Int) ≤ ((3 : Nat) : Int)) = true := rfl
theorem d22 : decide (((2 : Nat) : Int) = 2) = true := rfl
theorem d32 : decide (((3 : Nat) : Int) = 2) = false := rfl
theorem d33 : decide (((3 : Nat) : Int) = 3) = true := rfl
theorem disp2 (a b : PyData) : dispD [] [(.str "node", a), (.str "port", b)] = some [(.str "node", a), (.str "port", b)] := rfl
theorem whole3 (d : PyData) (lo hi : Int) : intInG [d, .int lo, .int hi] = some (.bool (intIn d lo hi)) := rfl
theorem sub_ii (a b : Int) : subF (.int a) (.int b) = some (.int (a - b)) := rfl
theorem itemG2 (ds : List PyData) (z : Str) (h : (ds.all headB && decide (ds.length ≤ 100000)) = true) : itemG [.tuple ds, .str z] = itemOf ds z := if_pos h
theorem inDF2 (x : Str) (es : List (PyData × PyData)) : inDF (.str x) (.dict es) = some (.bool (lookD es (.inr x)).isSome) := rfl
theorem getF2 (x : Str) (es : List (PyData × PyData)) : getF (.dict es) (.str x) = lookD es (.inr x) := rfl
end
end SM

set_option Elab.async false
set_option linter.all false
set_option maxRecDepth 100000
set_option maxHeartbeats 4000000
namespace SM
open PySem PySem.Spec PyProof.Rows L2
section
variable [PW]
theorem pow_59 : powF (.int 10) (.int 59) = some (.int 100000000000000000000000000000000000000000000000000000000000) := by
  simp [powF, fIC]
theorem neg_int (i : Int) : negF (.int i) = some (.int (-i)) := rfl
theorem disp1 (z : Str) (d : PyData) : dispD [] [(.str z, d)] = some [(.str z, d)] := rfl
theorem cat_ll {xs ys : List PyData} (h : xs.length + ys.length ≤ 100000) : catF (.list xs) (.list ys) = some (.list (xs ++ ys)) := if_pos h
/-- of what is drawn -/
def oddB (d : PyData) : Bool := okD (10 ^ 59) d && decide (d.weight ≤ 300) && decide (d.depth ≤ 4)
end
end SM

set_option Elab.async false
set_option linter.all false
set_option maxRecDepth 100000
set_option maxHeartbeats 4000000
namespace SM
open PySem PySem.Spec PyProof.Rows L2
section
variable [PW]
theorem lt_trans {x y z : PyData} (h1 : PySem.W.dataLt x y = true) (h2 : PySem.W.dataLt y z = true) : PySem.W.dataLt x z = true := PyProof.Rows.lex_trans _ _ _ h1 h2
theorem lt_self (x : PyData) : PySem.W.dataLt x x = false := PyProof.Rows.lex_irrefl _
theorem map_asc : ∀ {ds : List PyData} {i : Nat} {b : PyData}, isNone (mapAt i b ds) = true → (∀ d, d ∈ ds → PySem.W.dataLt b (firstD d) = true) ∧ ascP ds
  | [], _, _, _ => ⟨fun d h => (nomatch h), List.Pairwise.nil⟩
  | d :: r, i, b, h => by
    unfold mapAt at h
    by_cases q : (!headB d || !PySem.W.dataLt b (firstD d)) = true
    · rw [if_pos q] at h
      cases h
    · rw [if_neg q] at h
      have q1 : PySem.W.dataLt b (firstD d) = true := by
        cases e : PySem.W.dataLt b (firstD d) with
        | true => rfl
        | false => exact absurd (by rw [e, Bool.not_false, Bool.or_true]) q
      obtain ⟨h1, h2⟩ := map_asc h
      refine ⟨fun x hx => ?_, List.pairwise_cons.mpr ⟨h1, h2⟩⟩
      rcases List.mem_cons.mp hx with e | hx
      · rw [e]
        exact q1
      · exact lt_trans q1 (h1 x hx)
theorem err_map {ds : List PyData} (h : tupIn (.tuple ds) 1 8 = true) (n : isNone (mapAt 0 (.str "") ds) = false) : errorD (.tuple ds) = mapAt 0 (.str "") ds := by
  unfold errorD
  rw [if_pos h]
  show orD (orD (orD (mapAt 0 (.str "") ds) _) _) _ = _
  have e : ∀ x : PyData, orD (mapAt 0 (.str "") ds) x = mapAt 0 (.str "") ds := fun x => by
    unfold orD
    rw [if_neg (by rw [n]; exact Bool.false_ne_true)]
  rw [e, e, e]
theorem err_slot {ds : List PyData} (h : tupIn (.tuple ds) 1 8 = true) (m : isNone (mapAt 0 (.str "") ds) = true) (n : isNone (slotAt (ds.map firstD) 0 ds) = false) : errorD (.tuple ds) = slotAt (ds.map firstD) 0 ds := by
  unfold errorD
  rw [if_pos h]
  show orD (orD (orD (mapAt 0 (.str "") ds) (slotAt (ds.map firstD) 0 ds)) _) _ = _
  rw [show orD (mapAt 0 (.str "") ds) (slotAt (ds.map firstD) 0 ds) = slotAt (ds.map firstD) 0 ds from if_pos m]
  have e : ∀ x : PyData, orD (slotAt (ds.map firstD) 0 ds) x = slotAt (ds.map firstD) 0 ds := fun x => by
    unfold orD
    rw [if_neg (by rw [n]; exact Bool.false_ne_true)]
  rw [e, e]
theorem err_edges {ds : List PyData} (h : tupIn (.tuple ds) 1 8 = true) (m : isNone (mapAt 0 (.str "") ds) = true) (m2 : isNone (slotAt (ds.map firstD) 0 ds) = true) (n : isNone (edgesAt 0 ds) = false) : errorD (.tuple ds) = edgesAt 0 ds := by
  unfold errorD
  rw [if_pos h]
  show orD (orD (orD (mapAt 0 (.str "") ds) (slotAt (ds.map firstD) 0 ds)) (edgesAt 0 ds)) _ = _
  rw [show orD (mapAt 0 (.str "") ds) (slotAt (ds.map firstD) 0 ds) = slotAt (ds.map firstD) 0 ds from if_pos m, show orD (slotAt (ds.map firstD) 0 ds) (edgesAt 0 ds) = edgesAt 0 ds from if_pos m2]
  unfold orD
  rw [if_neg (by rw [n]; exact Bool.false_ne_true)]
theorem err_edge {ds : List PyData} (h : tupIn (.tuple ds) 1 8 = true) (m : isNone (mapAt 0 (.str "") ds) = true) (m2 : isNone (slotAt (ds.map firstD) 0 ds) = true) (m3 : isNone (edgesAt 0 ds) = true) : errorD (.tuple ds) = edgeAt (mapsD [] ds) 0 ds := by
  unfold errorD
  rw [if_pos h]
  show orD (orD (orD (mapAt 0 (.str "") ds) (slotAt (ds.map firstD) 0 ds)) (edgesAt 0 ds)) (edgeAt (mapsD [] ds) 0 ds) = _
  rw [show orD (mapAt 0 (.str "") ds) (slotAt (ds.map firstD) 0 ds) = slotAt (ds.map firstD) 0 ds from if_pos m, show orD (slotAt (ds.map firstD) 0 ds) (edgesAt 0 ds) = edgesAt 0 ds from if_pos m2]
  exact if_pos m3
theorem name_pos {z : Str} {r : List PyData} (h : headB (.tuple (.str z :: r)) = true) : PySem.W.dataLt (.str "") (.str z) = true := by
  obtain ⟨a, b, c, l, e, q⟩ := head_five h
  cases q
  have h' : (nameB (.str z) && intIn b 1 4 && namesB 8 c && namesB 4 l) = true := h
  simp only [Bool.and_eq_true] at h'
  have h3 := h'.1.1.1
  rw [PySem.W.dataLt_str]
  have e2 : (("" : Str)).cps.toList = [] := by decide +kernel
  rw [e2]
  cases q : z.cps.toList with
  | cons => simp
  | nil =>
    have : z.length = 0 := by
      show z.cps.size = 0
      rw [← Array.length_toList, q] <;> rfl
    simp [nameB, this] at h3
theorem edge_full {mp : List (PyData × PyData)} {chart d : PyData} (h : edgeB mp chart d = true) : ∃ s t c, d = .tuple [s, t, .int c] ∧ ptB s = true ∧ ptB t = true := by
  unfold edgeB at h
  split at h
  · rename_i s t c
    simp only [Bool.and_eq_true] at h
    obtain ⟨n, rfl, _⟩ := int_in h.2
    exact ⟨s, t, n, rfl, point_pt h.1.1.1, point_pt h.1.1.2⟩
  · cases h
theorem edge3_plain {s t : PyData} {c : Int} (h : ptB s = true) (h' : ptB t = true) : (PyData.tuple [s, t, .int c]).plain = true ∧ (PyData.tuple [s, t, .int c]).depth = 2 := by
  obtain ⟨h1, h2⟩ := pt_plain h
  obtain ⟨h3, h4⟩ := pt_plain h'
  refine ⟨?_, ?_⟩
  · show (s.plain && (t.plain && (true && true))) = true
    rw [h1, h3] <;> rfl
  · show max s.depth (max t.depth (max 0 0)) + 1 = 2
    rw [h2, h4] <;> rfl
theorem geF_edge {s t s' t' : PyData} {c c' : Int} (h1 : ptB s = true) (h2 : ptB t = true) (h3 : ptB s' = true) (h4 : ptB t' = true) : geF (.tuple [s, t, .int c]) (.tuple [s', t', .int c']) = some (.bool (!PySem.W.dataLt (.tuple [s, t, .int c]) (.tuple [s', t', .int c']))) := by
  obtain ⟨w1, w2⟩ := edge3_plain (c := c) h1 h2
  obtain ⟨w3, w4⟩ := edge3_plain (c := c') h3 h4
  unfold geF
  have e : PySem.W.alike (.tuple [s, t, .int c]) (.tuple [s', t', .int c']) = true := by
    show (PySem.W.alike s s' && (PySem.W.alike t t' && (true && true))) = true
    rw [pt_alike h1 h3, pt_alike h2 h4] <;> rfl
  rw [if_pos (by simp [shal, w1, w2, w3, w4, isNone, e])]
theorem eqF_two {s t s' t' : PyData} (h1 : ptB s = true) (h2 : ptB t = true) (h3 : ptB s' = true) (h4 : ptB t' = true) : eqF (.tuple [s, t]) (.tuple [s', t']) = some (.bool (PyData.eqv s s' && PyData.eqv t t')) := by
  obtain ⟨w1, w2⟩ := two_plain h1 h2
  obtain ⟨w3, w4⟩ := two_plain h3 h4
  unfold eqF
  rw [if_pos (by simp [shal, w1, w2, w3, w4])]
  simp [PyData.eqv, PyData.eqvAll]
theorem ahead_edge {s t c s' t' c' : PyData} (h1 : ptB s = true) (h2 : ptB t = true) (h3 : ptB s' = true) (h4 : ptB t' = true) : (!PySem.W.dataLt (.tuple [s, t]) (.tuple [s', t'])) = (!PySem.W.dataLt (.tuple [s, t, c]) (.tuple [s', t', c']) || (PyData.eqv s s' && PyData.eqv t t')) := by
  by_cases q : (PyData.eqv s s' && PyData.eqv t t') = true
  · have q' := q
    rw [Bool.and_eq_true] at q'
    rw [q, Bool.or_true, pt_eq h1 h3 q'.1, pt_eq h2 h4 q'.2, lt_self] <;> rfl
  · rw [Bool.not_eq_true] at q
    rw [q, Bool.or_false, edge_lt h1 h2 h3 h4 q]
theorem lt_none2 (s t : PyData) : PySem.W.dataLt (.tuple []) (.tuple [s, t]) = true := by
  rw [PySem.W.dataLt_tuple]
  simp only [PySem.W.keyToksAll]
  exact PyProof.Rows.lex_true.mpr (.inl rfl)
theorem cutD_last (dn : List PyData) (p : PyData) : cutD (dn ++ [p]) (some (-1)) none = [p] := by
  have e : HT.sIx (dn ++ [p]).length 0 (some (-1)) = dn.length := by
    show (if (-1 : Int) < 0 then ((-1 : Int) + ((dn ++ [p]).length : Int)).toNat else min (-1 : Int).toNat (dn ++ [p]).length) = _
    rw [if_pos (by decide), List.length_append]
    show ((-1 : Int) + ((dn.length + 1 : Nat) : Int)).toNat = _
    omega
  unfold cutD
  rw [e, List.drop_left, HT.sIx_none, List.take_of_length_le]
  rw [List.length_append, Nat.add_sub_cancel_left]
  exact Nat.le_refl _
end
end SM

set_option Elab.async false
set_option linter.all false
set_option maxRecDepth 100000
set_option maxHeartbeats 4000000
namespace SM
open PySem PySem.Spec PyProof.Rows L2
section
variable [PW]
def fitP (W n : Nat) (d : PyData) : Prop := okD (10 ^ 59) d = true ∧ d.weight ≤ W ∧ d.depth ≤ n
theorem fit_mono {W V n m : Nat} {d : PyData} (h : fitP W n d) (h1 : W ≤ V) (h2 : n ≤ m) : fitP V m d := ⟨h.1, Nat.le_trans h.2.1 h1, Nat.le_trans h.2.2 h2⟩
theorem weight_all {W : Nat} : ∀ {xs : List PyData}, (∀ x, x ∈ xs → x.weight ≤ W) → PyData.weightAll xs ≤ xs.length * (W + 1)
  | [], _ => Nat.zero_le _
  | x :: r, h => by
    have h1 := h x List.mem_cons_self
    have h2 := weight_all (xs := r) fun y hy => h y (List.mem_cons_of_mem _ hy)
    rw [PyData.weightAll, List.length_cons, Nat.succ_mul]
    omega
theorem fit_tup {W n m V : Nat} {xs : List PyData} (h : ∀ x, x ∈ xs → fitP W n x) (hm : xs.length ≤ m) (hV : m * (W + 1) ≤ V) : fitP V (n + 1) (.tuple xs) := by
  refine ⟨?_, ?_, ?_⟩
  · have : okAll (10 ^ 59) xs = true := okAll_iff.mpr fun x hx => (h x hx).1
    simpa only [okD] using this
  · exact Nat.le_trans (weight_all fun x hx => (h x hx).2.1) (Nat.le_trans (Nat.mul_le_mul_right _ hm) hV)
  · show PyData.depthAll xs + 1 ≤ n + 1
    have := depthAll_iff.mpr fun x hx => (h x hx).2.2
    omega
theorem fit_int {i : Int} (h : i.natAbs ≤ 1048575) : fitP 20 0 (.int i) := by
  refine ⟨?_, ?_, Nat.le_refl _⟩
  · simp only [okD, decide_eq_true_eq]
    omega
  · show (if (i == 0) = true then 0 else i.natAbs.log2 + 1) ≤ 20
    split
    · exact Nat.zero_le _
    · rename_i q
      have z : i.natAbs ≠ 0 := fun z => q (by rw [Int.natAbs_eq_zero.mp z]; rfl)
      have := (Nat.log2_lt z).mpr (show i.natAbs < 2 ^ 20 by omega)
      omega
theorem fit_str {z : Str} {W : Nat} (h : ∀ c, c ∈ z.cps.toList → c < 128) (h2 : z.length ≤ W) : fitP W 0 (.str z) := ⟨plainT_iff.mpr h, h2, Nat.le_refl _⟩
theorem fit_two {a b : PyData} {V W n : Nat} (h1 : fitP V n a) (h2 : fitP W n b) : fitP (V + W + 2) (n + 1) (.tuple [a, b]) := by
  refine ⟨?_, ?_, ?_⟩
  · simp only [okD, okAll, h1.1, h2.1, Bool.and_self]
  · show a.weight + 1 + (b.weight + 1 + 0) ≤ _
    have := h1.2.1
    have := h2.2.1
    omega
  · show max a.depth (max b.depth 0) + 1 ≤ n + 1
    have := h1.2.2
    have := h2.2.2
    omega
theorem fit_three {a b c : PyData} {U V W n : Nat} (h1 : fitP U n a) (h2 : fitP V n b) (h3 : fitP W n c) : fitP (U + V + W + 3) (n + 1) (.tuple [a, b, c]) := by
  refine ⟨?_, ?_, ?_⟩
  · simp only [okD, okAll, h1.1, h2.1, h3.1, Bool.and_self]
  · show a.weight + 1 + (b.weight + 1 + (c.weight + 1 + 0)) ≤ _
    have := h1.2.1
    have := h2.2.1
    have := h3.2.1
    omega
  · show max a.depth (max b.depth (max c.depth 0)) + 1 ≤ n + 1
    have := h1.2.2
    have := h2.2.2
    have := h3.2.2
    omega
theorem fit_map {a b c l e : PyData} (h1 : fitP 8 0 a) (h2 : fitP 20 0 b) (h3 : fitP 81 1 c) (h4 : fitP 45 1 l) (h5 : fitP 4956 3 e) : fitP 5200 4 (.tuple [a, b, c, l, e]) := by
  refine ⟨?_, ?_, ?_⟩
  · simp only [okD, okAll, h1.1, h2.1, h3.1, h4.1, h5.1, Bool.and_self]
  · show a.weight + 1 + (b.weight + 1 + (c.weight + 1 + (l.weight + 1 + (e.weight + 1 + 0)))) ≤ _
    have := h1.2.1
    have := h2.2.1
    have := h3.2.1
    have := h4.2.1
    have := h5.2.1
    omega
  · show max a.depth (max b.depth (max c.depth (max l.depth (max e.depth 0)))) + 1 ≤ 4
    have := h1.2.2
    have := h2.2.2
    have := h3.2.2
    have := h4.2.2
    have := h5.2.2
    omega
/-- a point of a drawn map -/
def ptF (p : PyData) : Prop := ptB p = true ∧ fitP 47 1 p
def edF (e : PyData) : Prop := ∃ s t c, e = .tuple [s, t, .int c] ∧ ptF s ∧ ptF t ∧ c.natAbs ≤ 1000001
theorem edF_fit {e : PyData} (h : edF e) : fitP 117 2 e := by
  obtain ⟨s, t, c, rfl, h1, h2, h3⟩ := h
  exact fit_mono (fit_three h1.2 h2.2 (fit_mono (fit_int (show c.natAbs ≤ 1048575 by omega)) (Nat.le_refl _) (by decide))) (by decide) (Nat.le_refl _)
/-- a drawn map -/
def mpF (d : PyData) : Prop := ∃ z p ls sl es, d = .tuple [.str z, .int p, .tuple ls, .tuple sl, .tuple es] ∧ fitP 8 0 (.str z) ∧ p.natAbs ≤ 1000 ∧ (∀ x, x ∈ ls → fitP 8 0 x) ∧ ls.length ≤ 8 ∧ (∀ x, x ∈ sl → fitP 8 0 x) ∧ sl.length ≤ 4 ∧ (∀ x, x ∈ es → edF x) ∧ es.length ≤ 40
theorem edges_fit {es : List PyData} (h : ∀ x, x ∈ es → edF x) (hl : es.length ≤ 42) : fitP 4956 3 (.tuple es) := fit_tup (fun x hx => edF_fit (h x hx)) hl (by decide)
theorem mpF_fit {d : PyData} (h : mpF d) : fitP 5200 4 d := by
  obtain ⟨z, p, ls, sl, es, rfl, h1, h2, h3, h4, h5, h6, h7, h8⟩ := h
  exact fit_map h1 (fit_int (by omega)) (fit_tup h3 (Nat.le_trans h4 (by decide)) (show 9 * (8 + 1) ≤ 81 by decide)) (fit_tup h5 (Nat.le_trans h6 (by decide)) (show 5 * (8 + 1) ≤ 45 by decide)) (edges_fit h7 (by omega))
theorem name_fit {d : PyData} (h : nameB d = true) : fitP 8 0 d := by
  obtain ⟨z, rfl⟩ := name_str h
  have h' : (decide (1 ≤ z.length) && decide (z.length ≤ 8) && z.cps.toList.all letter) = true := h
  simp only [Bool.and_eq_true, decide_eq_true_eq, List.all_eq_true] at h'
  refine fit_str (fun c hc => ?_) h'.1.2
  have := h'.2 c hc
  simp only [letter, Bool.and_eq_true, decide_eq_true_eq] at this
  omega
theorem slotPts_fit {ds : List PyData} (h : ∀ d, d ∈ ds → headB d = true) : ∀ (sl : List PyData) (s : Nat) (p : PyData), s + sl.length ≤ 100 → p ∈ slotPts ds s sl → ptF p
  | [], _, _, _, q => nomatch q
  | n :: r, s, p, hs, q => by
    unfold slotPts at q
    rw [List.length_cons] at hs
    rcases List.mem_append.mp q with q | q
    · obtain ⟨i, hi, rfl⟩ := List.mem_map.mp q
      have hi2 : i < 4 := by
        have hi3 := List.mem_range.mp hi
        cases n with
        | str z =>
          have hi4 : i < ((itemOf ds z).map fun d => (portsD d).toNat).getD 0 := hi3
          cases e : itemOf ds z with
          | none =>
            rw [e] at hi4
            exact absurd hi4 (Nat.not_lt_zero _)
          | some m =>
            rw [e] at hi4
            obtain ⟨z2, p2, ls2, sl2, e2, rfl⟩ := chart_shape (h m (item_mem e).1)
            obtain ⟨b1, b2, b3, b4⟩ := head_bounds (h _ (item_mem e).1)
            have hi5 : i < p2.toNat := hi4
            omega
        | none => exact absurd hi3 (Nat.not_lt_zero _)
        | bool _ => exact absurd hi3 (Nat.not_lt_zero _)
        | int _ => exact absurd hi3 (Nat.not_lt_zero _)
        | list _ => exact absurd hi3 (Nat.not_lt_zero _)
        | tuple _ => exact absurd hi3 (Nat.not_lt_zero _)
        | dict _ => exact absurd hi3 (Nat.not_lt_zero _)
      exact ⟨rfl, fit_mono (fit_three (fit_str (z := "slot") (W := 4) (by decide +kernel) (by decide)) (fit_int (i := (s : Nat)) (by omega)) (fit_int (i := (i : Nat)) (by omega))) (by decide) (Nat.le_refl _)⟩
    · exact slotPts_fit h r (s + 1) p (by omega) q
theorem allPts_fit {ds : List PyData} (h : ∀ d, d ∈ ds → headB d = true) {d p : PyData} (hd : headB d = true) (q : p ∈ allPts ds d) : ptF p := by
  obtain ⟨z, pp, ls, sl, e, rfl⟩ := chart_shape hd
  obtain ⟨b1, b2, b3, b4⟩ := head_bounds hd
  have q' : p ∈ (nodePts ls.length ++ portPts pp.toNat) ++ slotPts ds 0 sl := q
  unfold nodePts portPts at q'
  rcases List.mem_append.mp q' with q | q
  · rcases List.mem_append.mp q with q | q
    · obtain ⟨i, hi, rfl⟩ := List.mem_map.mp q
      have := List.mem_range.mp hi
      exact ⟨rfl, fit_mono (fit_two (fit_str (z := "node") (W := 4) (by decide +kernel) (by decide)) (fit_int (i := (i : Nat)) (by omega))) (by decide) (Nat.le_refl _)⟩
    · obtain ⟨i, hi, rfl⟩ := List.mem_map.mp q
      have := List.mem_range.mp hi
      exact ⟨rfl, fit_mono (fit_two (fit_str (z := "port") (W := 4) (by decide +kernel) (by decide)) (fit_int (i := (i : Nat)) (by omega))) (by decide) (Nat.le_refl _)⟩
  · exact slotPts_fit h sl 0 p (by omega) q
theorem atlas_mpF {maps ports nodes slots edges : Int} {ds : List PyData} (h : AtlasP maps ports nodes slots edges ds) (he : edges ≤ 40) : ∀ d, d ∈ ds → mpF d := fun d hd => by
  have hh := h.head d hd
  obtain ⟨es, e1, e2⟩ := h.edg d hd
  have hal : ∀ p, p ∈ allPts ds d → ptF p := fun p hp => allPts_fit h.head hh hp
  obtain ⟨z, p, ls, sl, e, rfl⟩ := chart_shape hh
  obtain ⟨b1, b2, b3, b4⟩ := head_bounds hh
  cases (show e = .tuple es from e1)
  have h' : (nameB (.str z) && intIn (.int p) 1 4 && namesB 8 (.tuple ls) && namesB 4 (.tuple sl)) = true := hh
  simp only [Bool.and_eq_true, namesB, List.all_eq_true] at h'
  refine ⟨z, p, ls, sl, es, rfl, name_fit h'.1.1.1, by omega, fun x hx => name_fit (h'.1.2.2 x hx), b3, fun x hx => name_fit (h'.2.2 x hx), b4, fun x hx => ?_, by have := e2.1; omega⟩
  obtain ⟨s, t, c, rfl, s1, s2, _, c1, c2⟩ := e2.2.1 x hx
  exact ⟨s, t, c, rfl, hal s s1, hal t s2, by omega⟩
theorem atlas_fit {ds : List PyData} (h : ∀ d, d ∈ ds → mpF d) (hl : ds.length ≤ 8) : fitP 41608 5 (.tuple ds) := fit_tup (fun x hx => mpF_fit (h x hx)) hl (by decide)
end
end SM

set_option Elab.async false
set_option linter.all false
set_option maxRecDepth 100000
set_option maxHeartbeats 4000000
namespace SM
open PySem PySem.Spec PyProof.Rows L2
section
variable [PW]
theorem mapAt_none : ∀ {ds : List PyData} {i : Nat} {b : PyData}, ds.all headB = true → ascP ds → (∀ d, d ∈ ds → PySem.W.dataLt b (firstD d) = true) → mapAt i b ds = .none
  | [], _, _, _, _, _ => rfl
  | d :: r, i, b, h, ha, hb => by
    rw [List.all_cons, Bool.and_eq_true] at h
    have ha' := List.pairwise_cons.mp ha
    unfold mapAt
    rw [if_neg (by rw [h.1, hb d List.mem_cons_self]; exact Bool.false_ne_true)]
    exact mapAt_none h.2 ha'.2 fun x hx => ha'.1 x hx
theorem slotIn_none {ns : List PyData} {k : Nat} : ∀ {xs : List PyData} {s : Nat}, xs.all (inNames ns) = true → slotIn ns k s xs = none
  | [], _, _ => rfl
  | d :: r, s, h => by
    rw [List.all_cons, Bool.and_eq_true] at h
    unfold slotIn
    rw [if_pos h.1]
    exact slotIn_none h.2
theorem slotAt_none {ns : List PyData} : ∀ {ds : List PyData} {i : Nat}, (∀ d, d ∈ ds → (slotsD d).all (inNames ns) = true) → slotAt ns i ds = .none
  | [], _, _ => rfl
  | d :: r, i, h => by
    have e : slotAt ns i (d :: r) = match slotIn ns i 0 (slotsD d) with
      | some e => e
      | none => slotAt ns (i + 1) r := rfl
    rw [e, slotIn_none (h d List.mem_cons_self)]
    exact slotAt_none fun x hx => h x (List.mem_cons_of_mem _ hx)
theorem in_names {ds : List PyData} {n : PyData} (h : inItems ds n = true) : inNames (ds.map firstD) n = true := by
  cases n with
  | str z =>
    have h' : (itemOf ds z).isSome = true := h
    obtain ⟨m, hm⟩ := Option.isSome_iff_exists.mp h'
    obtain ⟨m1, m2⟩ := item_mem hm
    exact List.any_eq_true.mpr ⟨firstD m, List.mem_map_of_mem m1, m2⟩
  | none => cases h
  | bool _ => cases h
  | int _ => cases h
  | list _ => cases h
  | tuple _ => cases h
  | dict _ => cases h
theorem edgesAt_none : ∀ {ds : List PyData} {i : Nat}, (∀ d, d ∈ ds → tupIn (partD 4 d) 0 40 = true) → edgesAt i ds = .none
  | [], _, _ => rfl
  | d :: r, i, h => by
    unfold edgesAt
    rw [if_pos (h d List.mem_cons_self)]
    exact edgesAt_none fun x hx => h x (List.mem_cons_of_mem _ hx)
theorem edgeIn_none {mp : List (PyData × PyData)} {chart : PyData} {k : Nat} : ∀ {xs : List PyData} {e : Nat} {b : PyData}, (∀ x, x ∈ xs → edgeB mp chart x = true) → xs.Pairwise (fun a b => PySem.W.dataLt (twoD a) (twoD b) = true) → (∀ x, x ∈ xs → PySem.W.dataLt b (twoD x) = true) → edgeIn mp chart k e b xs = none
  | [], _, _, _, _, _ => rfl
  | d :: r, e, b, h, hp, hb => by
    have hp' := List.pairwise_cons.mp hp
    unfold edgeIn
    rw [if_neg (by rw [h d List.mem_cons_self, hb d List.mem_cons_self]; exact Bool.false_ne_true)]
    exact edgeIn_none (fun x hx => h x (List.mem_cons_of_mem _ hx)) hp'.2 fun x hx => hp'.1 x hx
theorem edgeAt_none {mp : List (PyData × PyData)} : ∀ {ds : List PyData} {i : Nat}, (∀ d, d ∈ ds → ∃ es, partD 4 d = .tuple es ∧ (∀ x, x ∈ es → edgeB mp d x = true) ∧ es.Pairwise fun a b => PySem.W.dataLt (twoD a) (twoD b) = true) → edgeAt mp i ds = .none
  | [], _, _ => rfl
  | d :: r, i, h => by
    obtain ⟨es, e1, e2, e3⟩ := h d List.mem_cons_self
    have e : edgeAt mp i (d :: r) = match edgeIn mp d i 0 (.tuple []) (itemsD (partD 4 d)) with
      | some e => e
      | none => edgeAt mp (i + 1) r := rfl
    have ei : itemsD (partD 4 d) = es := by rw [e1] <;> rfl
    rw [e, ei, edgeIn_none e2 e3 fun x hx => by
      obtain ⟨s, t, c, rfl, _, _⟩ := edge_full (e2 x hx)
      exact lt_none2 s t]
    exact edgeAt_none fun x hx => h x (List.mem_cons_of_mem _ hx)
theorem slot_point {ds : List PyData} {z : Str} {p : Int} {ls sl0 : List PyData} {e : PyData} (hd : ds.all headB = true) (ha : ascP ds) : ∀ (sl : List PyData) (pre : List PyData) (q : PyData), sl0 = pre ++ sl → q ∈ slotPts ds pre.length sl → pointB (mapsD [] ds) (.tuple [.str z, .int p, .tuple ls, .tuple sl0, e]) q = true
  | [], _, _, _, h => nomatch h
  | n :: r, pre, q, hs, h => by
    unfold slotPts at h
    rcases List.mem_append.mp h with h | h
    · obtain ⟨i, hi, rfl⟩ := List.mem_map.mp h
      have hi3 := List.mem_range.mp hi
      cases n with
      | str w =>
        have hi4 : i < ((itemOf ds w).map fun d => (portsD d).toNat).getD 0 := hi3
        cases em : itemOf ds w with
        | none =>
          rw [em] at hi4
          exact absurd hi4 (Nat.not_lt_zero _)
        | some m =>
          rw [em] at hi4
          have hi5 : i < (portsD m).toNat := hi4
          have hg : sl0[pre.length]? = some (.str w) := by
            rw [hs, List.getElem?_append_right (Nat.le_refl _), Nat.sub_self] <;> rfl
          have hin : innerD (mapsD [] ds) (.tuple [.str z, .int p, .tuple ls, .tuple sl0, e]) ((pre.length : Nat) : Int) = m := by
            show ((sl0[((pre.length : Nat) : Int).toNat]?).bind fun n => (toKey n).bind (lookD (mapsD [] ds))).getD .none = m
            rw [Int.toNat_natCast, hg]
            show (lookD (mapsD [] ds) (.inr w)).getD .none = m
            rw [look_maps hd ha, em] <;> rfl
          have hlen : pre.length < sl0.length := by
            rw [hs, List.length_append, List.length_cons]
            omega
          show (strIs (.str "slot") "slot" && intIn (.int (pre.length : Nat)) 0 ((sl0.length : Int) - 1) && thirdB (mapsD [] ds) (.tuple [.str z, .int p, .tuple ls, .tuple sl0, e]) (.int (i : Nat)) (.int (pre.length : Nat))) = true
          have a1 : strIs (.str "slot") "slot" = true := by decide +kernel
          have a2 : intIn (.int (pre.length : Nat)) 0 ((sl0.length : Int) - 1) = true := by
            show (decide ((0 : Int) ≤ (pre.length : Nat)) && decide (((pre.length : Nat) : Int) ≤ (sl0.length : Int) - 1)) = true
            rw [decide_eq_true (by omega), decide_eq_true (by omega)] <;> rfl
          have a3 : thirdB (mapsD [] ds) (.tuple [.str z, .int p, .tuple ls, .tuple sl0, e]) (.int (i : Nat)) (.int (pre.length : Nat)) = true := by
            show intIn (.int (i : Nat)) 0 (portsD (innerD (mapsD [] ds) _ ((pre.length : Nat) : Int)) - 1) = true
            rw [hin]
            show (decide ((0 : Int) ≤ (i : Nat)) && decide (((i : Nat) : Int) ≤ portsD m - 1)) = true
            rw [decide_eq_true (by omega), decide_eq_true (by omega)] <;> rfl
          rw [a1, a2, a3] <;> rfl
      | none => exact absurd hi3 (Nat.not_lt_zero _)
      | bool _ => exact absurd hi3 (Nat.not_lt_zero _)
      | int _ => exact absurd hi3 (Nat.not_lt_zero _)
      | list _ => exact absurd hi3 (Nat.not_lt_zero _)
      | tuple _ => exact absurd hi3 (Nat.not_lt_zero _)
      | dict _ => exact absurd hi3 (Nat.not_lt_zero _)
    · exact slot_point hd ha r (pre ++ [n]) q (by rw [hs, List.append_assoc] <;> rfl) (by rw [List.length_append]; exact h)
theorem all_point {ds : List PyData} {d q : PyData} (hd : ds.all headB = true) (ha : ascP ds) (h1 : headB d = true) (h : q ∈ allPts ds d) : pointB (mapsD [] ds) d q = true := by
  obtain ⟨z, p, ls, sl, e, rfl⟩ := chart_shape h1
  obtain ⟨b1, b2, b3, b4⟩ := head_bounds h1
  have h' : q ∈ (nodePts ls.length ++ portPts p.toNat) ++ slotPts ds 0 sl := h
  unfold nodePts portPts at h'
  rcases List.mem_append.mp h' with h | h
  · rcases List.mem_append.mp h with h | h
    · obtain ⟨i, hi, rfl⟩ := List.mem_map.mp h
      have := List.mem_range.mp hi
      show ((strIs (.str "node") "node" && intIn (.int (i : Nat)) 0 ((ls.length : Int) - 1)) || (strIs (.str "node") "port" && intIn (.int (i : Nat)) 0 (p - 1))) = true
      have a1 : strIs (.str "node") "node" = true := by decide +kernel
      have a2 : intIn (.int (i : Nat)) 0 ((ls.length : Int) - 1) = true := by
        show (decide ((0 : Int) ≤ (i : Nat)) && decide (((i : Nat) : Int) ≤ (ls.length : Int) - 1)) = true
        rw [decide_eq_true (by omega), decide_eq_true (by omega)] <;> rfl
      rw [a1, a2] <;> rfl
    · obtain ⟨i, hi, rfl⟩ := List.mem_map.mp h
      have := List.mem_range.mp hi
      show ((strIs (.str "port") "node" && intIn (.int (i : Nat)) 0 ((ls.length : Int) - 1)) || (strIs (.str "port") "port" && intIn (.int (i : Nat)) 0 (p - 1))) = true
      have a1 : strIs (.str "port") "port" = true := by decide +kernel
      have a2 : intIn (.int (i : Nat)) 0 (p - 1) = true := by
        show (decide ((0 : Int) ≤ (i : Nat)) && decide (((i : Nat) : Int) ≤ p - 1)) = true
        rw [decide_eq_true (by omega), decide_eq_true (by omega)] <;> rfl
      rw [a1, a2, Bool.true_and, Bool.or_true]
  · exact slot_point hd ha sl [] q rfl h
/-- a drawn atlas is an atlas -/
theorem atlas_valid {maps ports nodes slots edges : Int} {ds : List PyData} (h : AtlasP maps ports nodes slots edges ds) (h1 : maps ≤ 8) (h2 : edges ≤ 40) : errorD (.tuple ds) = .none := by
  have l1 := h.len1
  have l2 := h.len2
  have ht : tupIn (.tuple ds) 1 8 = true := by
    show (decide ((1 : Int) ≤ ds.length) && decide ((ds.length : Int) ≤ 8)) = true
    rw [decide_eq_true (by omega), decide_eq_true (by omega)] <;> rfl
  have hd : ds.all headB = true := List.all_eq_true.mpr h.head
  have ha : ascP ds := h.asc
  have m1 : mapAt 0 (.str "") ds = .none := mapAt_none hd ha fun d hd2 => by
    obtain ⟨z, r, rfl⟩ := head_str (h.head d hd2)
    exact name_pos (h.head _ hd2)
  have m2 : slotAt (ds.map firstD) 0 ds = .none := slotAt_none fun d hd2 => List.all_eq_true.mpr fun n hn => in_names (List.all_eq_true.mp (h.slt d hd2) n hn)
  have m3 : edgesAt 0 ds = .none := edgesAt_none fun d hd2 => by
    obtain ⟨es, e1, e2⟩ := h.edg d hd2
    rw [e1]
    show (decide ((0 : Int) ≤ es.length) && decide ((es.length : Int) ≤ 40)) = true
    have := e2.1
    rw [decide_eq_true (by omega), decide_eq_true (by omega)] <;> rfl
  rw [err_edge ht (by rw [m1] <;> rfl) (by rw [m2] <;> rfl) (by rw [m3] <;> rfl)]
  refine edgeAt_none fun d hd2 => ?_
  obtain ⟨es, e1, e2⟩ := h.edg d hd2
  refine ⟨es, e1, fun x hx => ?_, e2.2.2⟩
  obtain ⟨s, t, c, rfl, s1, s2, n1, c1, c2⟩ := e2.2.1 x hx
  show (pointB (mapsD [] ds) d s && pointB (mapsD [] ds) d t && !PyData.eqv s t && intIn (.int c) 1 1000000) = true
  have a4 : intIn (.int c) 1 1000000 = true := by
    show (decide ((1 : Int) ≤ c) && decide (c ≤ 1000000)) = true
    rw [decide_eq_true c1, decide_eq_true c2] <;> rfl
  rw [all_point hd ha (h.head d hd2) s1, all_point hd ha (h.head d hd2) s2, n1, a4] <;> rfl
end
end SM

set_option Elab.async false
set_option linter.all false
set_option maxRecDepth 100000
set_option maxHeartbeats 4000000
namespace SM
open PySem PySem.Spec PyProof.Rows L2
section
variable [PW]
/-- an atlas that is one -/
structure AtlD (ds : List PyData) : Prop where
  len : ds.length ≤ 8
  head : ds.all headB = true
  asc : ascP ds
  slt : ∀ d, d ∈ ds → (slotsD d).all (inItems ds) = true
  ok : errorD (.tuple ds) = .none
theorem AtlasP.atl {maps ports nodes slots edges : Int} {ds : List PyData} (h : AtlasP maps ports nodes slots edges ds) (h1 : maps ≤ 8) (h2 : edges ≤ 40) : AtlD ds :=
  ⟨by have := h.len2; omega, List.all_eq_true.mpr h.head, h.asc, h.slt, atlas_valid h h1 h2⟩
theorem AtlD.look {ds : List PyData} (h : AtlD ds) (z : Str) : lookD (mapsD [] ds) (.inr z) = itemOf ds z := by
  rw [look_maps h.head h.asc]
  cases itemOf ds z <;> rfl
theorem AtlD.hd {ds : List PyData} (h : AtlD ds) {d : PyData} (hd : d ∈ ds) : headB d = true := List.all_eq_true.mp h.head d hd
theorem AtlD.mem {ds : List PyData} {z : Str} {d : PyData} (h : AtlD ds) (e : itemOf ds z = some d) : d ∈ ds ∧ headB d = true ∧ firstD d = .str z := by
  obtain ⟨m1, m2⟩ := item_mem e
  obtain ⟨y, hy⟩ := first_str (h.hd m1)
  rw [(nameIs_iff hy).mp m2, hy]
  exact ⟨m1, h.hd m1, rfl⟩
theorem AtlD.item {ds : List PyData} (h : AtlD ds) {d : PyData} (hd : d ∈ ds) {z : Str} (e : firstD d = .str z) : itemOf ds z = some d := by
  have key : ∀ (xs : List PyData), xs.all headB = true → ascP xs → d ∈ xs → itemOf xs z = some d := by
    intro xs
    induction xs with
    | nil => intro _ _ h; cases h
    | cons x r ih =>
      intro ha hp hm
      rw [List.all_cons, Bool.and_eq_true] at ha
      have hp' := List.pairwise_cons.mp hp
      rw [item_cons]
      rcases List.mem_cons.mp hm with rfl | hm
      · rw [if_pos ((nameIs_iff e).mpr rfl)]
      · obtain ⟨y, hy⟩ := first_str ha.1
        have q := hp'.1 d hm
        rw [hy, e] at q
        rw [if_neg fun c => ?_]
        · exact ih ha.2 hp'.2 hm
        · have := (nameIs_iff hy).mp c
          rw [this] at q
          exact absurd q (by rw [show PySem.W.dataLt (.str y) (.str y) = false from PyProof.Rows.lex_irrefl _]; exact Bool.false_ne_true)
  exact key ds h.head h.asc hd
/-- the name in a slot of a map -/
def slotNm (d i : PyData) : Option PyData := match i with
  | .int n => if intIn i 0 ((slotsD d).length - 1) = true then (slotsD d)[n.toNat]? else none
  | _ => none
/-- the map of the copy that a row of indexes leads to -/
def copyAt (ds : List PyData) : PyData → List PyData → Option PyData
  | d, [] => some d
  | d, i :: r => match slotNm d i with
    | some (.str z) => (itemOf ds z).bind fun m => copyAt ds m r
    | _ => none
def copyN (ds : List PyData) (d : PyData) (as : List PyData) : PyData := match copyAt ds d as with
  | some m => firstD m
  | none => .none
theorem AtlD.slot {ds : List PyData} (h : AtlD ds) {d : PyData} (hd : d ∈ ds) {i : PyData} (hi : intIn i 0 ((slotsD d).length - 1) = true) : ∃ (n : Int) (z : Str) (m : PyData), i = .int n ∧ 0 ≤ n ∧ n < (slotsD d).length ∧ (slotsD d)[n.toNat]? = some (.str z) ∧ slotNm d i = some (.str z) ∧ itemOf ds z = some m := by
  obtain ⟨n, rfl, n0, n1⟩ := int_in hi
  have hlt : n.toNat < (slotsD d).length := by omega
  have hm := List.all_eq_true.mp (h.slt d hd) _ (List.getElem_mem hlt)
  have hg : (slotsD d)[n.toNat]? = some (slotsD d)[n.toNat] := List.getElem?_eq_getElem hlt
  generalize (slotsD d)[n.toNat] = x at hm hg
  cases x <;> first | (cases hm; done) | skip
  rename_i z
  obtain ⟨m, e⟩ := Option.isSome_iff_exists.mp (show (itemOf ds z).isSome = true from hm)
  refine ⟨n, z, m, rfl, n0, by omega, hg, ?_, e⟩
  show (if _ then _ else _) = _
  rw [if_pos hi, hg]
theorem copy_cons {ds : List PyData} (h : AtlD ds) {d : PyData} (hd : d ∈ ds) {i : PyData} {r : List PyData} : (intIn i 0 ((slotsD d).length - 1) = false ∧ copyAt ds d (i :: r) = none) ∨
    ∃ (n : Int) (z : Str) (m : PyData), i = .int n ∧ 0 ≤ n ∧ n < (slotsD d).length ∧ (slotsD d)[n.toNat]? = some (.str z) ∧ itemOf ds z = some m ∧ m ∈ ds ∧ copyAt ds d (i :: r) = copyAt ds m r := by
  cases hi : intIn i 0 ((slotsD d).length - 1) with
  | false =>
    refine .inl ⟨rfl, ?_⟩
    have : slotNm d i = none := by
      unfold slotNm
      split
      · rw [if_neg (by rw [hi]; exact Bool.false_ne_true)]
      · rfl
    unfold copyAt
    rw [this]
  | true =>
    obtain ⟨n, z, m, rfl, n0, n1, e1, e2, e3⟩ := h.slot hd hi
    refine .inr ⟨n, z, m, rfl, n0, n1, e1, e3, (h.mem e3).1, ?_⟩
    show (match slotNm d (.int n) with
      | some (.str z) => (itemOf ds z).bind fun m => copyAt ds m r
      | _ => none) = _
    rw [e2]
    show (itemOf ds z).bind (fun m => copyAt ds m r) = _
    rw [e3] <;> rfl
theorem copy_mem {ds : List PyData} (h : AtlD ds) : ∀ {as : List PyData} {d m : PyData}, d ∈ ds → copyAt ds d as = some m → m ∈ ds
  | [], d, m, hd, e => by
    cases (show some d = some m from e)
    exact hd
  | i :: r, d, m, hd, e => by
    rcases copy_cons h hd (i := i) (r := r) with ⟨_, q⟩ | ⟨n, z, m', rfl, _, _, _, _, hm, q⟩
    · rw [q] at e
      cases e
    · rw [q] at e
      exact copy_mem h hm e
/-- a place whose address is short enough -/
def twoB : PyData → Bool
  | .tuple [_, _] => true
  | _ => false
def placeB (ds : List PyData) (d : PyData) : PyData → Bool
  | .tuple [.tuple as, p] => decide (as.length ≤ 200) && match copyAt ds d as with
    | some m => twoB p && pointB (mapsD [] ds) m p
    | none => false
  | _ => false
theorem maps_of {ds : List PyData} (h : AtlD ds) : mapsG [.tuple ds] = some (.dict (mapsD [] ds)) := if_pos (by rw [h.head, decide_eq_true (show ds.length ≤ 100000 from Nat.le_trans h.len (by decide))] <;> rfl)
def passN (ds : List PyData) (d : PyData) : PyData → PyData
  | .tuple as => if as.length ≤ 200 then copyN ds d as else .none
  | _ => .none
end
end SM

set_option Elab.async false
set_option linter.all false
set_option maxRecDepth 100000
set_option maxHeartbeats 4000000
namespace SM
open PySem PySem.Spec PyProof.Rows L2
section
variable [PW] {K : PySem.W.Frag} {mg : Str → Option Value} {base : Heap} {kt : Str}
/-! texts of points -/
def lineN : Nat := 10 ^ 60
def ptT (p : PyData) : Prop := (∃ n : Nat, n < lineN ∧ (p = .tuple [.str "node", .int n] ∨ p = .tuple [.str "port", .int n])) ∨ ∃ s i : Nat, s < lineN ∧ i < lineN ∧ p = .tuple [.str "slot", .int s, .int i]
def numT : PyData → List Nat
  | .int i => TL.numL i.toNat
  | _ => []
def pointL : PyData → List Nat
  | .tuple [.str w, i] => (if w = "node" then 110 else 112) :: numT i
  | .tuple [_, s, i] => 115 :: (numT s ++ 46 :: numT i)
  | _ => []
theorem log_line {n : Nat} (h : n < lineN) : n.log2 < 1920 := by
  have e : lineN < 2 ^ 200 := by decide +kernel
  have h2 : n < 2 ^ 200 := Nat.lt_trans h e
  exact Nat.lt_of_lt_of_le (PySem.Flt.log2_lt_of (by decide) h2) (by decide)
theorem num_len {n : Nat} (h : n < lineN) : (TL.numL n).length ≤ 60 := TL.numL_len (by decide) h
theorem str_num (n : Nat) : Str.ofString (toString ((n : Nat) : Int)) = Sx (TL.numL n) := SX.num_S n
theorem strF_num {n : Nat} (h : n < lineN) : strF [.int (n : Nat)] = some (.str (Sx (TL.numL n))) := by
  have e : PyData.shown (.int (n : Nat)) = Sx (TL.numL n) := (PyData.shown.eq_def _).trans (str_num n)
  show (if _ then _ else _) = _
  rw [e, if_pos]
  have h1 := log_line h
  have h2 := num_len h
  rw [sx_len, Int.natAbs_natCast, decide_eq_true h1, decide_eq_true (show (TL.numL n).length ≤ 16777216 by omega)] <;> rfl
theorem joinL_len (S : List Nat) (b : Nat) : ∀ ps : List (List Nat), (∀ p, p ∈ ps → p.length ≤ b) → (TL.joinL S ps).length ≤ ps.length * (b + S.length)
  | [], _ => Nat.zero_le _
  | [p], h => by
    have := h p List.mem_cons_self
    show p.length ≤ 1 * (b + S.length)
    omega
  | p :: q :: r, h => by
    have h1 := h p List.mem_cons_self
    have ih := joinL_len S b (q :: r) fun x hx => h x (List.mem_cons_of_mem _ hx)
    show (p ++ (S ++ TL.joinL S (q :: r))).length ≤ (r.length + 1 + 1) * (b + S.length)
    rw [List.length_append, List.length_append, Nat.add_mul (r.length + 1) 1]
    rw [List.length_cons] at ih
    omega
theorem sum_len (b : Nat) : ∀ ps : List (List Nat), (∀ p, p ∈ ps → p.length ≤ b) → ((ps.map Sx).map fun x => x.length).sum ≤ ps.length * b
  | [], _ => Nat.zero_le _
  | p :: r, h => by
    have h1 := h p List.mem_cons_self
    have ih := sum_len b r fun x hx => h x (List.mem_cons_of_mem _ hx)
    rw [List.map_cons, List.map_cons, List.sum_cons, sx_len, List.length_cons, Nat.add_mul]
    omega
/-- texts glued by one sign -/
theorem glued {c b : Nat} {y : Str} (ey : y = Sx [c]) {ps : List (List Nat)} (h : ∀ p, p ∈ ps → p.length ≤ b) (hb : b ≤ 1000) (hl : ps.length ≤ 10000) :
    ((ps.map Sx).map fun x => x.length).sum + (ps.map Sx).length * y.length ≤ 16777216 ∧ (Txt.join y (ps.map Sx)).length ≤ 16777216 ∧ Txt.join y (ps.map Sx) = Sx (TL.joinL [c] ps) := by
  subst ey
  have e : Txt.join (Sx [c]) (ps.map Sx) = Sx (TL.joinL [c] ps) := SX.join_S [c] ps
  have h1 := joinL_len [c] b ps h
  have h2 := sum_len b ps h
  have h3 : ps.length * (b + 1) ≤ 10000 * 1001 := Nat.mul_le_mul hl (by omega)
  have h4 : ps.length * b ≤ 10000 * 1000 := Nat.mul_le_mul hl hb
  rw [List.length_singleton] at h1
  refine ⟨?_, ?_, e⟩
  · rw [List.length_map, sx_len, List.length_singleton]
    omega
  · rw [e, sx_len]
    omega
theorem strAdd_sx {y : Str} {a b : List Nat} (e : y = Sx a) (h : a.length + b.length ≤ 1000) : strAddF (.str y) (.str (Sx b)) = some (.str (Sx (a ++ b))) := by
  subst e
  show (if _ then _ else _) = _
  rw [if_pos (by rw [sx_len, sx_len]; omega), sx_add]
theorem dotS : (Str.ofString "." : Str) = Sx [46] := by decide +kernel
def pointTS : SP := fun qs k R => ∃ p, qs = [some p] ∧ ptT p ∧ R (.str (Sx (pointL p))) k
abbrev s_point_text : Stmt := topS 39
theorem sc_point_text : FnScope ["point", "index"] ["point"] (defScope s_point_text) := ⟨rfl, rfl, rfl, by decide +kernel, rfl, by decide +kernel, by decide +kernel⟩

abbrev O_point_text (K : PySem.W.Frag) (mg : Str → Option Value) (base : Heap) (kt : Str) : Prop := Ok PW.prog PW.world K mg base CX0 "point_text" ["point"] 3 (liftS K kt 1 pointTS)
theorem ok_point_text (T : Txt K mg) (D : Def K mg "point_text" s_point_text ["point"]) : O_point_text K mg base kt := by
  refine D.okS sc_point_text rfl fun f cdv A outer s H E hr hq => ⟨_, _, (pss_one (ps_ret (pe_op op_add_str (pe_ix ix_kdict (pe_glob (v := .ref (clsA mg "LETTERS")) (by rfl) T.d_LETTERS rfl) (pe_ix ix_seq (pv 0) pe_int (fun _ _ => rfl)) (fun _ _ => rfl)) (pe_join pe_str (pe_lc (own := [("index", 1)]) (g := gName 1) (by rfl) sc_point_text.nd (pi_tup (pe_slice sl_tupA (pv 0) (po_some pe_int) po_none)) (blkOk_by (own := [("index", 1)]) (N := ["point", "index"]) (sc := defScope s_point_text) (by decide +kernel)) (fun _ _ _ _ _ => (pg_name (i := 1) sc_point_text.nd rfl (Or.inl rfl))) (fun _ _ _ _ _ => pts_nil) (fun _ _ _ _ _ => (pe_callTy call_strW (by rfl) T.b_str (by decide +kernel) (pa_cons (pv 1) pa_nil)))))))), (as_ret (ab_op oa_strAdd (ab_kdict T.w_LETTERS (ab_op oa_ix (ab_var 0) (ab_int _))) (ab_join ((af_lc (ai_tup (ab_sl sa_tup (ab_var 0) (ao_some (ab_int _)) ao_none)) (ag_name 1 (by decide)) at_yes (ab_callB ca_str (ab_acons (ab_var 1) ab_anil)))).ab))), fun qs k R hl h => ?_⟩
  obtain ⟨p, rfl, hp, h⟩ := h
  rcases hp with ⟨n, hn, rfl | rfl⟩ | ⟨s, i, hs, hi, rfl⟩
  · simp only [bodyB, env0, slA, List.map_cons, List.map_nil, List.cons_append, List.nil_append, List.length_cons, List.length_nil, List.replicate, List.getElem?_cons_zero, List.getElem?_cons_succ, List.set_cons_zero, List.set_cons_succ, Option.some.injEq, Sl.dat.injEq, Sl.own.injEq, PyData.bool.injEq, PyData.int.injEq, PyData.str.injEq, PyData.tuple.injEq, PyData.list.injEq, PyData.dict.injEq, Sl.tab.injEq, List.cons.injEq, exists_eq_left', exists_eq_left, eq_self, decide_true, if_true, reduceIte, Int.reduceLE, pure1, pure2, pure3, pure4, leiF_int, liF_int, giF_int, geiF_int, addF_int, subF_int, eqEF_nil, neF_int, eqF_int, lenF_str, lenF_list, lenF_tup, wipe0, wipe1, true_and, and_true, frz_list, frz_dict, frz_tup, frz_dat, frz_no, frz_pen, tab_list, tab_dict, Nat.reduceAdd, Nat.reduceSub]
    refine ⟨_, rfl, "node", "n", rfl, rfl, _, rfl, [.int (n : Nat)], rfl, by simp, comp_pure (fun _ => true) (fun d => .str (Sx (numT d))) (fun d hd k T N hT hN => ?_) ?_⟩
    · cases List.mem_singleton.mp hd
      simp only [bodyB, env0, slA, List.map_cons, List.map_nil, List.cons_append, List.nil_append, List.length_cons, List.length_nil, List.replicate, List.getElem?_cons_zero, List.getElem?_cons_succ, List.set_cons_zero, List.set_cons_succ, Option.some.injEq, Sl.dat.injEq, Sl.own.injEq, PyData.bool.injEq, PyData.int.injEq, PyData.str.injEq, PyData.tuple.injEq, PyData.list.injEq, PyData.dict.injEq, Sl.tab.injEq, List.cons.injEq, exists_eq_left', exists_eq_left, eq_self, decide_true, if_true, reduceIte, Int.reduceLE, pure1, pure2, pure3, pure4, leiF_int, liF_int, giF_int, geiF_int, addF_int, subF_int, eqEF_nil, neF_int, eqF_int, lenF_str, lenF_list, lenF_tup, wipe0, wipe1, true_and, and_true, frz_list, frz_dict, frz_tup, frz_dat, frz_no, frz_pen, tab_list, tab_dict, Nat.reduceAdd, Nat.reduceSub]
      exact ⟨fun _ => ⟨_, strF_num hn, hT rfl⟩, fun q => nomatch q⟩
    · obtain ⟨g1, g2, g3⟩ := glued dotS (ps := [TL.numL n]) (fun p hp => by cases List.mem_singleton.mp hp; exact num_len hn) (by decide) (by simp)
      refine ⟨[Sx (TL.numL n)], rfl, g1, g2, ?_⟩
      rw [show ([Sx (TL.numL n)] : List Str) = [TL.numL n].map Sx from rfl, g3]
      have q := num_len hn
      exact ⟨_, strAdd_sx (a := [110]) (by decide +kernel) (by show 1 + (TL.numL n).length ≤ 1000; omega), k, Nat.le_refl _, h⟩
  · simp only [bodyB, env0, slA, List.map_cons, List.map_nil, List.cons_append, List.nil_append, List.length_cons, List.length_nil, List.replicate, List.getElem?_cons_zero, List.getElem?_cons_succ, List.set_cons_zero, List.set_cons_succ, Option.some.injEq, Sl.dat.injEq, Sl.own.injEq, PyData.bool.injEq, PyData.int.injEq, PyData.str.injEq, PyData.tuple.injEq, PyData.list.injEq, PyData.dict.injEq, Sl.tab.injEq, List.cons.injEq, exists_eq_left', exists_eq_left, eq_self, decide_true, if_true, reduceIte, Int.reduceLE, pure1, pure2, pure3, pure4, leiF_int, liF_int, giF_int, geiF_int, addF_int, subF_int, eqEF_nil, neF_int, eqF_int, lenF_str, lenF_list, lenF_tup, wipe0, wipe1, true_and, and_true, frz_list, frz_dict, frz_tup, frz_dat, frz_no, frz_pen, tab_list, tab_dict, Nat.reduceAdd, Nat.reduceSub]
    refine ⟨_, rfl, "port", "p", rfl, rfl, _, rfl, [.int (n : Nat)], rfl, by simp, comp_pure (fun _ => true) (fun d => .str (Sx (numT d))) (fun d hd k T N hT hN => ?_) ?_⟩
    · cases List.mem_singleton.mp hd
      simp only [bodyB, env0, slA, List.map_cons, List.map_nil, List.cons_append, List.nil_append, List.length_cons, List.length_nil, List.replicate, List.getElem?_cons_zero, List.getElem?_cons_succ, List.set_cons_zero, List.set_cons_succ, Option.some.injEq, Sl.dat.injEq, Sl.own.injEq, PyData.bool.injEq, PyData.int.injEq, PyData.str.injEq, PyData.tuple.injEq, PyData.list.injEq, PyData.dict.injEq, Sl.tab.injEq, List.cons.injEq, exists_eq_left', exists_eq_left, eq_self, decide_true, if_true, reduceIte, Int.reduceLE, pure1, pure2, pure3, pure4, leiF_int, liF_int, giF_int, geiF_int, addF_int, subF_int, eqEF_nil, neF_int, eqF_int, lenF_str, lenF_list, lenF_tup, wipe0, wipe1, true_and, and_true, frz_list, frz_dict, frz_tup, frz_dat, frz_no, frz_pen, tab_list, tab_dict, Nat.reduceAdd, Nat.reduceSub]
      exact ⟨fun _ => ⟨_, strF_num hn, hT rfl⟩, fun q => nomatch q⟩
    · obtain ⟨g1, g2, g3⟩ := glued dotS (ps := [TL.numL n]) (fun p hp => by cases List.mem_singleton.mp hp; exact num_len hn) (by decide) (by simp)
      refine ⟨[Sx (TL.numL n)], rfl, g1, g2, ?_⟩
      rw [show ([Sx (TL.numL n)] : List Str) = [TL.numL n].map Sx from rfl, g3]
      have q := num_len hn
      exact ⟨_, strAdd_sx (a := [112]) (by decide +kernel) (by show 1 + (TL.numL n).length ≤ 1000; omega), k, Nat.le_refl _, h⟩
  · simp only [bodyB, env0, slA, List.map_cons, List.map_nil, List.cons_append, List.nil_append, List.length_cons, List.length_nil, List.replicate, List.getElem?_cons_zero, List.getElem?_cons_succ, List.set_cons_zero, List.set_cons_succ, Option.some.injEq, Sl.dat.injEq, Sl.own.injEq, PyData.bool.injEq, PyData.int.injEq, PyData.str.injEq, PyData.tuple.injEq, PyData.list.injEq, PyData.dict.injEq, Sl.tab.injEq, List.cons.injEq, exists_eq_left', exists_eq_left, eq_self, decide_true, if_true, reduceIte, Int.reduceLE, pure1, pure2, pure3, pure4, leiF_int, liF_int, giF_int, geiF_int, addF_int, subF_int, eqEF_nil, neF_int, eqF_int, lenF_str, lenF_list, lenF_tup, wipe0, wipe1, true_and, and_true, frz_list, frz_dict, frz_tup, frz_dat, frz_no, frz_pen, tab_list, tab_dict, Nat.reduceAdd, Nat.reduceSub]
    refine ⟨_, rfl, "slot", "s", rfl, rfl, _, rfl, [.int (s : Nat), .int (i : Nat)], rfl, by simp, comp_pure (fun _ => true) (fun d => .str (Sx (numT d))) (fun d hd k T N hT hN => ?_) ?_⟩
    · rcases List.mem_cons.mp hd with e | e
      · subst e
        simp only [bodyB, env0, slA, List.map_cons, List.map_nil, List.cons_append, List.nil_append, List.length_cons, List.length_nil, List.replicate, List.getElem?_cons_zero, List.getElem?_cons_succ, List.set_cons_zero, List.set_cons_succ, Option.some.injEq, Sl.dat.injEq, Sl.own.injEq, PyData.bool.injEq, PyData.int.injEq, PyData.str.injEq, PyData.tuple.injEq, PyData.list.injEq, PyData.dict.injEq, Sl.tab.injEq, List.cons.injEq, exists_eq_left', exists_eq_left, eq_self, decide_true, if_true, reduceIte, Int.reduceLE, pure1, pure2, pure3, pure4, leiF_int, liF_int, giF_int, geiF_int, addF_int, subF_int, eqEF_nil, neF_int, eqF_int, lenF_str, lenF_list, lenF_tup, wipe0, wipe1, true_and, and_true, frz_list, frz_dict, frz_tup, frz_dat, frz_no, frz_pen, tab_list, tab_dict, Nat.reduceAdd, Nat.reduceSub]
        exact ⟨fun _ => ⟨_, strF_num hs, hT rfl⟩, fun q => nomatch q⟩
      · cases List.mem_singleton.mp e
        simp only [bodyB, env0, slA, List.map_cons, List.map_nil, List.cons_append, List.nil_append, List.length_cons, List.length_nil, List.replicate, List.getElem?_cons_zero, List.getElem?_cons_succ, List.set_cons_zero, List.set_cons_succ, Option.some.injEq, Sl.dat.injEq, Sl.own.injEq, PyData.bool.injEq, PyData.int.injEq, PyData.str.injEq, PyData.tuple.injEq, PyData.list.injEq, PyData.dict.injEq, Sl.tab.injEq, List.cons.injEq, exists_eq_left', exists_eq_left, eq_self, decide_true, if_true, reduceIte, Int.reduceLE, pure1, pure2, pure3, pure4, leiF_int, liF_int, giF_int, geiF_int, addF_int, subF_int, eqEF_nil, neF_int, eqF_int, lenF_str, lenF_list, lenF_tup, wipe0, wipe1, true_and, and_true, frz_list, frz_dict, frz_tup, frz_dat, frz_no, frz_pen, tab_list, tab_dict, Nat.reduceAdd, Nat.reduceSub]
        exact ⟨fun _ => ⟨_, strF_num hi, hT rfl⟩, fun q => nomatch q⟩
    · obtain ⟨g1, g2, g3⟩ := glued dotS (ps := [TL.numL s, TL.numL i]) (fun p hp => by
        rcases List.mem_cons.mp hp with e | e
        · rw [e]; exact num_len hs
        · cases List.mem_singleton.mp e; exact num_len hi) (by decide) (by simp)
      refine ⟨[Sx (TL.numL s), Sx (TL.numL i)], rfl, g1, g2, ?_⟩
      rw [show ([Sx (TL.numL s), Sx (TL.numL i)] : List Str) = [TL.numL s, TL.numL i].map Sx from rfl, g3]
      have q1 := num_len hs
      have q2 := num_len hi
      exact ⟨_, strAdd_sx (a := [115]) (by decide +kernel) (by show 1 + (TL.numL s ++ 46 :: TL.numL i).length ≤ 1000; rw [List.length_append, List.length_cons]; omega), k, Nat.le_refl _, h⟩
end
end SM

set_option Elab.async false
set_option linter.all false
set_option maxRecDepth 100000
set_option maxHeartbeats 4000000
namespace SM
open PySem PySem.Spec PyProof.Rows L2
section
variable [PW] {K : PySem.W.Frag} {mg : Str → Option Value} {base : Heap} {kt : Str}
/-! lines -/
def zc : PyData → List Nat
  | .str z => z.cps.toList
  | _ => []
def sMap : List Nat := [109, 97, 112]
def sNode : List Nat := [110, 111, 100, 101]
def sSlot : List Nat := [115, 108, 111, 116]
def sEdge : List Nat := [101, 100, 103, 101]
abbrev lineL (ws : List (List Nat)) : List Nat := TL.joinL [32] ws
def edgeL : PyData → List Nat
  | .tuple [s, t, c] => lineL [sEdge, pointL s, pointL t, numT c]
  | _ => []
def mapLns : PyData → List (List Nat)
  | .tuple [nm, p, .tuple ls, .tuple sl, .tuple es] => [lineL [sMap, zc nm, numT p]] ++ ls.map (fun l => lineL [sNode, zc l]) ++ sl.map (fun l => lineL [sSlot, zc l]) ++ es.map edgeL
  | _ => []
def txD (l : List Nat) : PyData := .str (Sx l)
def nameT (d : PyData) : Prop := ∃ a : List Nat, d = .str (Sx a) ∧ a.length ≤ 8
def edT (e : PyData) : Prop := ∃ (s t : PyData) (c : Nat), e = .tuple [s, t, .int c] ∧ ptT s ∧ ptT t ∧ c < lineN
def mapT (d : PyData) : Prop := ∃ (a : List Nat) (p : Nat) (ls sl es : List PyData), d = .tuple [.str (Sx a), .int p, .tuple ls, .tuple sl, .tuple es] ∧ a.length ≤ 8 ∧ p < lineN ∧ ls.length ≤ 8 ∧ (∀ l, l ∈ ls → nameT l) ∧ sl.length ≤ 4 ∧ (∀ l, l ∈ sl → nameT l) ∧ es.length ≤ 40 ∧ ∀ e, e ∈ es → edT e
theorem fmt_num {n : Nat} (h : n < lineN) : fmtF (.int (n : Nat)) = some (Sx (TL.numL n)) := by
  show (if _ then _ else _) = _
  rw [if_pos (by rw [Int.natAbs_natCast]; exact log_line h)]
  exact congrArg some (str_num n)
theorem point_len {p : PyData} (h : ptT p) : (pointL p).length ≤ 122 := by
  rcases h with ⟨n, hn, rfl | rfl⟩ | ⟨s, i, hs, hi, rfl⟩
  · have q := num_len hn
    show (110 :: TL.numL n).length ≤ 122
    rw [List.length_cons]
    omega
  · have q := num_len hn
    show (112 :: TL.numL n).length ≤ 122
    rw [List.length_cons]
    omega
  · have q1 := num_len hs
    have q2 := num_len hi
    show (115 :: (TL.numL s ++ 46 :: TL.numL i)).length ≤ 122
    rw [List.length_cons, List.length_append, List.length_cons]
    omega
theorem e_emp : (Str.empty : Str) = Sx [] := rfl
theorem e_map : (Str.ofString "map " : Str) = Sx [109, 97, 112, 32] := by decide +kernel
theorem e_node : (Str.ofString "node " : Str) = Sx [110, 111, 100, 101, 32] := by decide +kernel
theorem e_slot : (Str.ofString "slot " : Str) = Sx [115, 108, 111, 116, 32] := by decide +kernel
theorem e_edge : (Str.ofString "edge " : Str) = Sx [101, 100, 103, 101, 32] := by decide +kernel
theorem e_sp : (Str.ofString " " : Str) = Sx [32] := by decide +kernel
theorem e_nl : (Str.ofString "\n" : Str) = Sx [10] := by decide +kernel
def mapLS : SP := fun qs k R => ∃ d, qs = [some d] ∧ mapT d ∧ R (.list ((mapLns d).map txD)) k
abbrev s_map_lines : Stmt := topS 38
theorem sc_map_lines : FnScope ["chart", "name", "ports", "labels", "slots", "edges", "source", "target", "cost", "inner", "label"] ["chart"] (defScope s_map_lines) := ⟨rfl, rfl, rfl, by decide +kernel, rfl, by decide +kernel, by decide +kernel⟩

abbrev O_map_lines (K : PySem.W.Frag) (mg : Str → Option Value) (base : Heap) (kt : Str) : Prop := Ok PW.prog PW.world K mg base CX0 "map_lines" ["chart"] 4 (liftS K kt 1 mapLS)
theorem pt_iff {p : PyData} {k : Nat} {R : PyData → Nat → Prop} : pointTS [some p] k R ↔ (ptT p ∧ R (.str (Sx (pointL p))) k) := by
  constructor
  · rintro ⟨p', e, h⟩
    cases e
    exact h
  · exact fun h => ⟨p, rfl, h⟩
theorem ok_map_lines (T : Txt K mg) (D : Def K mg "map_lines" s_map_lines ["chart"]) (O1 : O_point_text K mg base kt) : O_map_lines K mg base kt := by
  obtain ⟨f_point_text, fd_point_text, G_point_text, g_point_text, k_point_text, b_point_text⟩ := O1
  refine D.okS sc_map_lines rfl fun f cdv A outer s H E hr hq => ⟨_, _, (pss_cons (ps_asg (pv 0) (pg_tup (n := 5) (by rfl) (pgs_cons (pg_name (i := 1) sc_map_lines.nd rfl (Or.inl rfl)) (pgs_cons (pg_name (i := 2) sc_map_lines.nd rfl (Or.inl rfl)) (pgs_cons (pg_name (i := 3) sc_map_lines.nd rfl (Or.inl rfl)) (pgs_cons (pg_name (i := 4) sc_map_lines.nd rfl (Or.inl rfl)) (pgs_cons (pg_name (i := 5) sc_map_lines.nd rfl (Or.inl rfl)) pgs_nil)))))))
      (pss_one (ps_ret (pe_op op_cat (pe_op op_cat (pe_op op_cat (pe_lst (pa_cons (pe_joined (PJ.cons pe_str (PJ.cons (pe_fmt (pv 1)) (PJ.cons pe_str (PJ.cons (pe_fmt (pv 2)) PJ.nil))))) pa_nil)) (pe_lc (own := [("label", 10)]) (g := gName 10) (by rfl) sc_map_lines.nd (pi_tup (pv 3)) (blkOk_by (own := [("label", 10)]) (N := ["chart", "name", "ports", "labels", "slots", "edges", "source", "target", "cost", "inner", "label"]) (sc := defScope s_map_lines) (by decide +kernel)) (fun _ _ _ _ _ => (pg_name (i := 10) sc_map_lines.nd rfl (Or.inl rfl))) (fun _ _ _ _ _ => pts_nil) (fun _ _ _ _ _ => (pe_joined (PJ.cons pe_str (PJ.cons (pe_fmt (pv 10)) PJ.nil)))))) (pe_lc (own := [("inner", 9)]) (g := gName 9) (by rfl) sc_map_lines.nd (pi_tup (pv 4)) (blkOk_by (own := [("inner", 9)]) (N := ["chart", "name", "ports", "labels", "slots", "edges", "source", "target", "cost", "inner", "label"]) (sc := defScope s_map_lines) (by decide +kernel)) (fun _ _ _ _ _ => (pg_name (i := 9) sc_map_lines.nd rfl (Or.inl rfl))) (fun _ _ _ _ _ => pts_nil) (fun _ _ _ _ _ => (pe_joined (PJ.cons pe_str (PJ.cons (pe_fmt (pv 9)) PJ.nil)))))) (pe_lc (own := [("source", 6), ("target", 7), ("cost", 8)])  (by rfl) sc_map_lines.nd (pi_tup (pv 5)) (blkOk_by (own := [("source", 6), ("target", 7), ("cost", 8)]) (N := ["chart", "name", "ports", "labels", "slots", "edges", "source", "target", "cost", "inner", "label"]) (sc := defScope s_map_lines) (by decide +kernel)) (fun _ _ _ _ _ => (pg_tup (n := 3) (by rfl) (pgs_cons (pg_name (i := 6) sc_map_lines.nd rfl (Or.inl rfl)) (pgs_cons (pg_name (i := 7) sc_map_lines.nd rfl (Or.inl rfl)) (pgs_cons (pg_name (i := 8) sc_map_lines.nd rfl (Or.inl rfl)) pgs_nil))))) (fun _ _ _ _ _ => pts_nil) (fun _ _ _ _ _ => (pe_joined (PJ.cons pe_str (PJ.cons (pe_fmt (pe_callG G_point_text (hr.mono (by omega)) hq (by rfl) g_point_text k_point_text b_point_text pass0 (pa_cons (pv 6) pa_nil))) (PJ.cons pe_str (PJ.cons (pe_fmt (pe_callG G_point_text (hr.mono (by omega)) hq (by rfl) g_point_text k_point_text b_point_text pass0 (pa_cons (pv 7) pa_nil))) (PJ.cons pe_str (PJ.cons (pe_fmt (pv 8)) PJ.nil))))))))))))), (as_seq (as_asg (ws := [1, 2, 3, 4, 5]) (ab_var 0) (ag_tup (ag_cons (ag_name 1 (by decide)) (ag_cons (ag_name 2 (by decide)) (ag_cons (ag_name 3 (by decide)) (ag_cons (ag_name 4 (by decide)) (ag_cons (ag_name 5 (by decide)) ag_nil)))))))
      (as_ret (af_op of_cat (af_op of_cat (af_op of_cat (af_lst (ab_acons (ab_joined (aj_cons (ab_str _ (by decide +kernel)) (aj_cons (ab_fmt (ab_var 1)) (aj_cons (ab_str _ (by decide +kernel)) (aj_cons (ab_fmt (ab_var 2)) aj_nil))))) ab_anil)).ab ((af_lc (ai_tup (ab_var 3)) (ag_name 10 (by decide)) at_yes (ab_joined (aj_cons (ab_str _ (by decide +kernel)) (aj_cons (ab_fmt (ab_var 10)) aj_nil))))).ab).ab ((af_lc (ai_tup (ab_var 4)) (ag_name 9 (by decide)) at_yes (ab_joined (aj_cons (ab_str _ (by decide +kernel)) (aj_cons (ab_fmt (ab_var 9)) aj_nil))))).ab).ab ((af_lc (ai_tup (ab_var 5)) (ag_tup (ag_cons (ag_name 6 (by decide)) (ag_cons (ag_name 7 (by decide)) (ag_cons (ag_name 8 (by decide)) ag_nil)))) at_yes (ab_joined (aj_cons (ab_str _ (by decide +kernel)) (aj_cons (ab_fmt (ab_call (ap_cons (ab_var 6) ap_nil))) (aj_cons (ab_str _ (by decide +kernel)) (aj_cons (ab_fmt (ab_call (ap_cons (ab_var 7) ap_nil))) (aj_cons (ab_str _ (by decide +kernel)) (aj_cons (ab_fmt (ab_var 8)) aj_nil))))))))).ab).ab)), fun qs k R hl h => ?_⟩
  obtain ⟨d, rfl, ⟨a, p, ls, sl, es, rfl, ha, hp, l1, l2, s1, s2, e1, e2⟩, h⟩ := h
  have hp2 := num_len hp
  simp only [bodyB, env0, slA, List.map_cons, List.map_nil, List.cons_append, List.nil_append, List.length_cons, List.length_nil, List.replicate, List.getElem?_cons_zero, List.getElem?_cons_succ, List.set_cons_zero, List.set_cons_succ, Option.some.injEq, Sl.dat.injEq, Sl.own.injEq, PyData.bool.injEq, PyData.int.injEq, PyData.str.injEq, PyData.tuple.injEq, PyData.list.injEq, PyData.dict.injEq, Sl.tab.injEq, List.cons.injEq, exists_eq_left', exists_eq_left, eq_self, decide_true, if_true, reduceIte, Int.reduceLE, pure1, pure2, pure3, pure4, leiF_int, liF_int, giF_int, geiF_int, addF_int, subF_int, eqEF_nil, neF_int, eqF_int, lenF_str, lenF_list, lenF_tup, wipe0, wipe1, true_and, and_true, frz_list, frz_dict, frz_tup, frz_dat, frz_no, frz_pen, tab_list, tab_dict, Nat.reduceAdd, Nat.reduceSub, e_emp, e_map, e_sp, sx_add, sx_len, fmt_num hp]
  refine ⟨by decide, Sx a, rfl, by rw [sx_len]; omega, ?_⟩
  simp only [sx_add, sx_len, List.length_append, List.length_cons, List.length_nil]
  refine ⟨by omega, by omega, by omega, by omega, by decide, by omega, comp_pure (fun _ => true) (fun d => txD (lineL [sNode, zc d])) (fun d hd k T N hT hN => ?_) ?_⟩
  · obtain ⟨b, rfl, hb⟩ := l2 d hd
    simp only [bodyB, env0, slA, List.map_cons, List.map_nil, List.cons_append, List.nil_append, List.length_cons, List.length_nil, List.replicate, List.getElem?_cons_zero, List.getElem?_cons_succ, List.set_cons_zero, List.set_cons_succ, Option.some.injEq, Sl.dat.injEq, Sl.own.injEq, PyData.bool.injEq, PyData.int.injEq, PyData.str.injEq, PyData.tuple.injEq, PyData.list.injEq, PyData.dict.injEq, Sl.tab.injEq, List.cons.injEq, exists_eq_left', exists_eq_left, eq_self, decide_true, if_true, reduceIte, Int.reduceLE, pure1, pure2, pure3, pure4, leiF_int, liF_int, giF_int, geiF_int, addF_int, subF_int, eqEF_nil, neF_int, eqF_int, lenF_str, lenF_list, lenF_tup, wipe0, wipe1, true_and, and_true, frz_list, frz_dict, frz_tup, frz_dat, frz_no, frz_pen, tab_list, tab_dict, Nat.reduceAdd, Nat.reduceSub, e_emp, e_node, sx_add, sx_len]
    exact ⟨fun _ => ⟨by decide, Sx b, rfl, by rw [sx_len]; omega, by rw [sx_add, sx_len, List.length_append]; show 5 + b.length ≤ _; omega, by rw [sx_add]; exact hT rfl⟩, fun q => nomatch q⟩
  simp only [filter_yes, List.nil_append]
  refine ⟨_, if_pos (by rw [List.length_map]; show 1 + ls.length ≤ 100000; omega), by omega, comp_pure (fun _ => true) (fun d => txD (lineL [sSlot, zc d])) (fun d hd k T N hT hN => ?_) ?_⟩
  · obtain ⟨b, rfl, hb⟩ := s2 d hd
    simp only [bodyB, env0, slA, List.map_cons, List.map_nil, List.cons_append, List.nil_append, List.length_cons, List.length_nil, List.replicate, List.getElem?_cons_zero, List.getElem?_cons_succ, List.set_cons_zero, List.set_cons_succ, Option.some.injEq, Sl.dat.injEq, Sl.own.injEq, PyData.bool.injEq, PyData.int.injEq, PyData.str.injEq, PyData.tuple.injEq, PyData.list.injEq, PyData.dict.injEq, Sl.tab.injEq, List.cons.injEq, exists_eq_left', exists_eq_left, eq_self, decide_true, if_true, reduceIte, Int.reduceLE, pure1, pure2, pure3, pure4, leiF_int, liF_int, giF_int, geiF_int, addF_int, subF_int, eqEF_nil, neF_int, eqF_int, lenF_str, lenF_list, lenF_tup, wipe0, wipe1, true_and, and_true, frz_list, frz_dict, frz_tup, frz_dat, frz_no, frz_pen, tab_list, tab_dict, Nat.reduceAdd, Nat.reduceSub, e_emp, e_slot, sx_add, sx_len]
    exact ⟨fun _ => ⟨by decide, Sx b, rfl, by rw [sx_len]; omega, by rw [sx_add, sx_len, List.length_append]; show 5 + b.length ≤ _; omega, by rw [sx_add]; exact hT rfl⟩, fun q => nomatch q⟩
  simp only [filter_yes, List.nil_append]
  refine ⟨_, if_pos (by rw [List.length_append, List.length_map, List.length_map]; show 1 + ls.length + sl.length ≤ 100000; omega), by omega, comp_pure (fun _ => true) (fun d => txD (edgeL d)) (fun d hd k T N hT hN => ?_) ?_⟩
  · obtain ⟨s, t, c, rfl, hs, ht, hc⟩ := e2 d hd
    have q1 := point_len hs
    have q2 := point_len ht
    have q3 := num_len hc
    have hT2 := hT rfl
    simp only [bodyB, env0, slA, List.map_cons, List.map_nil, List.cons_append, List.nil_append, List.length_cons, List.length_nil, List.replicate, List.getElem?_cons_zero, List.getElem?_cons_succ, List.set_cons_zero, List.set_cons_succ, Option.some.injEq, Sl.dat.injEq, Sl.own.injEq, PyData.bool.injEq, PyData.int.injEq, PyData.str.injEq, PyData.tuple.injEq, PyData.list.injEq, PyData.dict.injEq, Sl.tab.injEq, List.cons.injEq, exists_eq_left', exists_eq_left, eq_self, decide_true, if_true, reduceIte, Int.reduceLE, pure1, pure2, pure3, pure4, leiF_int, liF_int, giF_int, geiF_int, addF_int, subF_int, eqEF_nil, neF_int, eqF_int, lenF_str, lenF_list, lenF_tup, wipe0, wipe1, true_and, and_true, frz_list, frz_dict, frz_tup, frz_dat, frz_no, frz_pen, tab_list, tab_dict, Nat.reduceAdd, Nat.reduceSub, e_emp, e_edge, e_sp, sx_add, sx_len, fmt_num hc, pt_iff, hs, ht]
    have e5 : edgeL (.tuple [s, t, .int (c : Nat)]) = [101, 100, 103, 101, 32] ++ pointL s ++ [32] ++ pointL t ++ [32] ++ TL.numL c := by
      show lineL [sEdge, pointL s, pointL t, TL.numL c] = _
      simp [TL.joinL, sEdge]
    rw [e5] at hT2
    refine ⟨fun _ => ⟨by decide, Sx (pointL s), rfl, by rw [sx_len]; omega, ?_, ?_, Sx (pointL t), rfl, by rw [sx_len]; omega, ?_, ?_, by omega, ?_, ?_⟩, fun q => nomatch q⟩
    all_goals simp only [sx_add, sx_len, List.length_append, List.length_cons, List.length_nil]
    · omega
    · omega
    · omega
    · omega
    · omega
    · exact hT2
  simp only [filter_yes, List.nil_append]
  refine ⟨_, if_pos (by rw [List.length_append, List.length_append, List.length_map, List.length_map, List.length_map]; show 1 + ls.length + sl.length + es.length ≤ 100000; omega), k, Nat.le_refl _, ?_⟩
  have e0 : (mapLns (.tuple [.str (Sx a), .int (p : Nat), .tuple ls, .tuple sl, .tuple es])).map txD = [.str (Sx ([109, 97, 112, 32] ++ a ++ [32] ++ TL.numL p))] ++ ls.map (fun d => txD (lineL [sNode, zc d])) ++ sl.map (fun d => txD (lineL [sSlot, zc d])) ++ es.map (fun d => txD (edgeL d)) := by
    show ([lineL [sMap, (Sx a).cps.toList, TL.numL p]] ++ ls.map (fun l => lineL [sNode, zc l]) ++ sl.map (fun l => lineL [sSlot, zc l]) ++ es.map edgeL).map txD = _
    rw [sx_cps, List.map_append, List.map_append, List.map_append, List.map_map, List.map_map, List.map_map]
    have e1 : lineL [sMap, a, TL.numL p] = [109, 97, 112, 32] ++ a ++ [32] ++ TL.numL p := by simp [TL.joinL, sMap]
    rw [e1]
    rfl
  rw [e0] at h
  exact h
def atlasL (ds : List PyData) : List Nat := TL.joinL [10] (ds.map mapLns).flatten
end
end SM

set_option Elab.async false
set_option linter.all false
set_option maxRecDepth 100000
set_option maxHeartbeats 4000000
namespace SM
open PySem PySem.Spec PyProof.Rows L2
section
variable [PW] {K : PySem.W.Frag} {mg : Str → Option Value} {base : Heap} {kt : Str}
theorem e_s : (Str.ofString "s" : Str) = Sx [115] := by decide +kernel
theorem e_edge0 : (Str.ofString "edge" : Str) = Sx sEdge := by decide +kernel
theorem sx_addF {a b : List Nat} (h : a.length + b.length ≤ 1000) : strAddF (.str (Sx a)) (.str (Sx b)) = some (.str (Sx (a ++ b))) := strAdd_sx rfl h
abbrev s_point_text1 : Stmt := topS 49
theorem sc_point_text1 : FnScope ["point"] ["point"] (defScope s_point_text1) := ⟨rfl, rfl, rfl, by decide +kernel, rfl, by decide +kernel, by decide +kernel⟩

abbrev O_law_point_text (K : PySem.W.Frag) (mg : Str → Option Value) (base : Heap) (kt : Str) : Prop := Ok PW.prog PW.world K mg base CX0 "_law_point_text" ["point"] 2 (liftS K kt 1 pointTS)
theorem ok_law_point_text (T : Txt K mg) (D : Def K mg "_law_point_text" s_point_text1 ["point"]) : O_law_point_text K mg base kt := by
  refine D.okS sc_point_text1 rfl fun f cdv A outer s H E hr hq => ⟨_, _, (pss_cons (ps_if (pt_cmpR (op_eqS hr.units) (pe_ix ix_seq (pv 0) pe_int (fun _ _ => rfl)) pe_str (nomark _)) (pss_one (ps_ret (pe_op op_add_str (pe_op op_add_str (pe_op op_add_str pe_str (pe_callTy call_strW (by rfl) T.b_str (by decide +kernel) (pa_cons (pe_ix ix_seq (pv 0) pe_int (fun _ _ => rfl)) pa_nil))) pe_str) (pe_callTy call_strW (by rfl) T.b_str (by decide +kernel) (pa_cons (pe_ix ix_seq (pv 0) pe_int (fun _ _ => rfl)) pa_nil))))) pss_nil)
      (pss_one (ps_ret (pe_op op_add_str (pe_ix ix_seq (pe_ix ix_seq (pv 0) pe_int (fun _ _ => rfl)) pe_int (fun _ _ => rfl)) (pe_callTy call_strW (by rfl) T.b_str (by decide +kernel) (pa_cons (pe_ix ix_seq (pv 0) pe_int (fun _ _ => rfl)) pa_nil)))))), (as_seq (as_if (at_test (ab_op oa_eqS (ab_op oa_ix (ab_var 0) (ab_int _)) (ab_str _ (by decide +kernel)))) (as_ret (ab_op oa_strAdd (ab_op oa_strAdd (ab_op oa_strAdd (ab_str _ (by decide +kernel)) (ab_callB ca_str (ab_acons (ab_op oa_ix (ab_var 0) (ab_int _)) ab_anil))) (ab_str _ (by decide +kernel))) (ab_callB ca_str (ab_acons (ab_op oa_ix (ab_var 0) (ab_int _)) ab_anil)))) as_nil)
      (as_ret (ab_op oa_strAdd (ab_op oa_ix (ab_op oa_ix (ab_var 0) (ab_int _)) (ab_int _)) (ab_callB ca_str (ab_acons (ab_op oa_ix (ab_var 0) (ab_int _)) ab_anil))))), fun qs k R hl h => ?_⟩
  obtain ⟨p, rfl, hp, h⟩ := h
  rcases hp with ⟨n, hn, rfl | rfl⟩ | ⟨s, i, hs, hi, rfl⟩
  · have q0 : atD (.str "node") (.int 0) = some (.str (Sx [110])) := by
      rw [show (Str.ofString "node" : Str) = Sx sNode by decide +kernel]
      rfl
    have q := num_len hn
    simp only [bodyB, env0, slA, List.map_cons, List.map_nil, List.cons_append, List.nil_append, List.length_cons, List.length_nil, List.replicate, List.getElem?_cons_zero, List.getElem?_cons_succ, List.set_cons_zero, List.set_cons_succ, Option.some.injEq, Sl.dat.injEq, Sl.own.injEq, PyData.bool.injEq, PyData.int.injEq, PyData.str.injEq, PyData.tuple.injEq, PyData.list.injEq, PyData.dict.injEq, Sl.tab.injEq, List.cons.injEq, exists_eq_left', exists_eq_left, eq_self, decide_true, if_true, reduceIte, Int.reduceLE, pure1, pure2, pure3, pure4, leiF_int, liF_int, giF_int, geiF_int, addF_int, subF_int, eqEF_nil, neF_int, eqF_int, lenF_str, lenF_list, lenF_tup, wipe0, wipe1, true_and, and_true, frz_list, frz_dict, frz_tup, frz_dat, frz_no, frz_pen, tab_list, tab_dict, Nat.reduceAdd, Nat.reduceSub]
    exact ⟨_, rfl, _, rfl, _, rfl, fun z => (nomatch z), fun _ => ⟨_, rfl, _, q0, _, rfl, _, strF_num hn, _, sx_addF (by show 1 + _ ≤ 1000; omega), k, Nat.le_refl _, h⟩⟩
  · have q0 : atD (.str "port") (.int 0) = some (.str (Sx [112])) := by
      rw [show (Str.ofString "port" : Str) = Sx [112, 111, 114, 116] by decide +kernel]
      rfl
    have q := num_len hn
    simp only [bodyB, env0, slA, List.map_cons, List.map_nil, List.cons_append, List.nil_append, List.length_cons, List.length_nil, List.replicate, List.getElem?_cons_zero, List.getElem?_cons_succ, List.set_cons_zero, List.set_cons_succ, Option.some.injEq, Sl.dat.injEq, Sl.own.injEq, PyData.bool.injEq, PyData.int.injEq, PyData.str.injEq, PyData.tuple.injEq, PyData.list.injEq, PyData.dict.injEq, Sl.tab.injEq, List.cons.injEq, exists_eq_left', exists_eq_left, eq_self, decide_true, if_true, reduceIte, Int.reduceLE, pure1, pure2, pure3, pure4, leiF_int, liF_int, giF_int, geiF_int, addF_int, subF_int, eqEF_nil, neF_int, eqF_int, lenF_str, lenF_list, lenF_tup, wipe0, wipe1, true_and, and_true, frz_list, frz_dict, frz_tup, frz_dat, frz_no, frz_pen, tab_list, tab_dict, Nat.reduceAdd, Nat.reduceSub]
    exact ⟨_, rfl, _, rfl, _, rfl, fun z => (nomatch z), fun _ => ⟨_, rfl, _, q0, _, rfl, _, strF_num hn, _, sx_addF (by show 1 + _ ≤ 1000; omega), k, Nat.le_refl _, h⟩⟩
  · have q1 := num_len hs
    have q2 := num_len hi
    simp only [bodyB, env0, slA, List.map_cons, List.map_nil, List.cons_append, List.nil_append, List.length_cons, List.length_nil, List.replicate, List.getElem?_cons_zero, List.getElem?_cons_succ, List.set_cons_zero, List.set_cons_succ, Option.some.injEq, Sl.dat.injEq, Sl.own.injEq, PyData.bool.injEq, PyData.int.injEq, PyData.str.injEq, PyData.tuple.injEq, PyData.list.injEq, PyData.dict.injEq, Sl.tab.injEq, List.cons.injEq, exists_eq_left', exists_eq_left, eq_self, decide_true, if_true, reduceIte, Int.reduceLE, pure1, pure2, pure3, pure4, leiF_int, liF_int, giF_int, geiF_int, addF_int, subF_int, eqEF_nil, neF_int, eqF_int, lenF_str, lenF_list, lenF_tup, wipe0, wipe1, true_and, and_true, frz_list, frz_dict, frz_tup, frz_dat, frz_no, frz_pen, tab_list, tab_dict, Nat.reduceAdd, Nat.reduceSub, e_s, dotS]
    refine ⟨_, rfl, _, rfl, _, rfl, fun _ => ⟨_, rfl, _, strF_num hs, _, sx_addF (by show 1 + _ ≤ 1000; omega), _, sx_addF (by rw [List.length_append]; show 1 + _ + 1 ≤ 1000; omega), _, rfl, _, strF_num hi, _, sx_addF (by rw [List.length_append, List.length_append]; show 1 + _ + 1 + _ ≤ 1000; omega), k, Nat.le_refl _, ?_⟩, fun z => (nomatch z)⟩
    have e : [115] ++ TL.numL s ++ [46] ++ TL.numL i = pointL (.tuple [.str "slot", .int (s : Nat), .int (i : Nat)]) := by
      show _ = 115 :: (TL.numL s ++ 46 :: TL.numL i)
      simp
    rw [e]
    exact h

end
end SM

set_option Elab.async false
set_option linter.all false
set_option maxRecDepth 100000
set_option maxHeartbeats 4000000
namespace SM
open PySem PySem.Spec PyProof.Rows L2
section
variable [PW] {K : PySem.W.Frag} {mg : Str → Option Value} {base : Heap} {kt : Str}
theorem e_sl : (Str.ofString "/" : Str) = Sx [47] := by decide +kernel
theorem sx_addB {a b : List Nat} (h : a.length + b.length ≤ 100000) : strAddF (.str (Sx a)) (.str (Sx b)) = some (.str (Sx (a ++ b))) := by
  show (if _ then _ else _) = _
  rw [if_pos (by rw [sx_len, sx_len]; omega), sx_add]
def addrL (as : List Nat) : List Nat := TL.joinL [46] (as.map TL.numL)
def intsD (as : List Nat) : List PyData := as.map fun n => .int (n : Nat)
def plT (p : PyData) : Prop := ∃ (as : List Nat) (q : PyData), p = .tuple [.tuple (intsD as), q] ∧ as.length ≤ 200 ∧ (∀ n, n ∈ as → n < lineN) ∧ ∃ n : Nat, n < lineN ∧ (q = .tuple [.str "node", .int n] ∨ q = .tuple [.str "port", .int n])
def placeL : PyData → List Nat
  | .tuple [.tuple as, q] => TL.joinL [46] (as.map numT) ++ [47] ++ pointL q
  | _ => []
theorem place_eq (as : List Nat) (q : PyData) : placeL (.tuple [.tuple (intsD as), q]) = addrL as ++ [47] ++ pointL q := by
  show TL.joinL [46] ((intsD as).map numT) ++ [47] ++ pointL q = _
  unfold intsD
  rw [List.map_map]
  rfl
def plTS : SP := fun qs k R => ∃ p, qs = [some p] ∧ plT p ∧ R (.str (Sx (placeL p))) k
theorem pt_of {q : PyData} {n : Nat} (hn : n < lineN) (h : q = .tuple [.str "node", .int n] ∨ q = .tuple [.str "port", .int n]) : ptT q := .inl ⟨n, hn, h⟩
theorem num_mem {as : List Nat} {d : PyData} (h : d ∈ intsD as) : ∃ n : Nat, n ∈ as ∧ d = .int n := by
  obtain ⟨n, h1, h2⟩ := List.mem_map.mp h
  exact ⟨n, h1, h2.symm⟩
theorem ints_joined {as : List Nat} (l : as.length ≤ 200) (h : ∀ n, n ∈ as → n < lineN) : (((as.map TL.numL).map Sx).map fun x => x.length).sum + ((as.map TL.numL).map Sx).length * (Str.ofString ".").length ≤ 16777216 ∧ (Txt.join (Str.ofString ".") ((as.map TL.numL).map Sx)).length ≤ 16777216 ∧ Txt.join (Str.ofString ".") ((as.map TL.numL).map Sx) = Sx (addrL as) :=
  glued dotS (b := 60) (fun p hp => by
    obtain ⟨n, hn, rfl⟩ := List.mem_map.mp hp
    exact num_len (h n hn)) (by decide) (by rw [List.length_map]; omega)
theorem addr_len {as : List Nat} (l : as.length ≤ 200) (h : ∀ n, n ∈ as → n < lineN) : (addrL as).length ≤ 13000 := by
  have q := joinL_len [46] 60 (as.map TL.numL) fun p hp => by
    obtain ⟨n, hn, rfl⟩ := List.mem_map.mp hp
    exact num_len (h n hn)
  rw [List.length_map] at q
  have q2 : as.length * (60 + [46].length) ≤ 200 * 61 := Nat.mul_le_mul l (by decide)
  unfold addrL
  omega
theorem ints_strs (as : List Nat) : (intsD as).map (fun d => PyData.str (Sx (numT d))) = ((as.map TL.numL).map Sx).map PyData.str := by
  unfold intsD
  rw [List.map_map, List.map_map, List.map_map]
  rfl
abbrev s_place_text : Stmt := topS 40
theorem sc_place_text : FnScope ["place", "address", "point", "s"] ["place"] (defScope s_place_text) := ⟨rfl, rfl, rfl, by decide +kernel, rfl, by decide +kernel, by decide +kernel⟩

abbrev O_place_text (K : PySem.W.Frag) (mg : Str → Option Value) (base : Heap) (kt : Str) : Prop := Ok PW.prog PW.world K mg base CX0 "place_text" ["place"] 4 (liftS K kt 1 plTS)
theorem ok_place_text (T : Txt K mg) (D : Def K mg "place_text" s_place_text ["place"]) (O1 : O_point_text K mg base kt) : O_place_text K mg base kt := by
  obtain ⟨f_point_text, fd_point_text, G_point_text, g_point_text, k_point_text, b_point_text⟩ := O1
  refine D.okS sc_place_text rfl fun f cdv A outer s H E hr hq => ⟨_, _, (pss_cons (ps_asg (pv 0) (pg_tup (n := 2) (by rfl) (pgs_cons (pg_name (i := 1) sc_place_text.nd rfl (Or.inl rfl)) (pgs_cons (pg_name (i := 2) sc_place_text.nd rfl (Or.inl rfl)) pgs_nil))))
      (pss_one (ps_ret (pe_op op_add_str (pe_op op_add_str (pe_join pe_str (pe_lc (own := [("s", 3)]) (g := gName 3) (by rfl) sc_place_text.nd (pi_tup (pv 1)) (blkOk_by (own := [("s", 3)]) (N := ["place", "address", "point", "s"]) (sc := defScope s_place_text) (by decide +kernel)) (fun _ _ _ _ _ => (pg_name (i := 3) sc_place_text.nd rfl (Or.inl rfl))) (fun _ _ _ _ _ => pts_nil) (fun _ _ _ _ _ => (pe_callTy call_strW (by rfl) T.b_str (by decide +kernel) (pa_cons (pv 3) pa_nil))))) pe_str) (pe_callG G_point_text (hr.mono (by omega)) hq (by rfl) g_point_text k_point_text b_point_text pass0 (pa_cons (pv 2) pa_nil)))))), (as_seq (as_asg (ws := [1, 2]) (ab_var 0) (ag_tup (ag_cons (ag_name 1 (by decide)) (ag_cons (ag_name 2 (by decide)) ag_nil))))
      (as_ret (ab_op oa_strAdd (ab_op oa_strAdd (ab_join ((af_lc (ai_tup (ab_var 1)) (ag_name 3 (by decide)) at_yes (ab_callB ca_str (ab_acons (ab_var 3) ab_anil)))).ab) (ab_str _ (by decide +kernel))) (ab_call (ap_cons (ab_var 2) ap_nil))))), fun qs k R hl h => ?_⟩
  obtain ⟨p, rfl, ⟨as, q, rfl, l1, l2, n, hn, hq2⟩, h⟩ := h
  have hp := pt_of hn hq2
  have q1 := point_len hp
  have q2 := addr_len l1 l2
  rw [place_eq] at h
  simp only [bodyB, env0, slA, List.map_cons, List.map_nil, List.cons_append, List.nil_append, List.length_cons, List.length_nil, List.replicate, List.getElem?_cons_zero, List.getElem?_cons_succ, List.set_cons_zero, List.set_cons_succ, Option.some.injEq, Sl.dat.injEq, Sl.own.injEq, PyData.bool.injEq, PyData.int.injEq, PyData.str.injEq, PyData.tuple.injEq, PyData.list.injEq, PyData.dict.injEq, Sl.tab.injEq, List.cons.injEq, exists_eq_left', exists_eq_left, eq_self, decide_true, if_true, reduceIte, Int.reduceLE, pure1, pure2, pure3, pure4, leiF_int, liF_int, giF_int, geiF_int, addF_int, subF_int, eqEF_nil, neF_int, eqF_int, lenF_str, lenF_list, lenF_tup, wipe0, wipe1, true_and, and_true, frz_list, frz_dict, frz_tup, frz_dat, frz_no, frz_pen, tab_list, tab_dict, Nat.reduceAdd, Nat.reduceSub, pt_iff, hp]
  refine ⟨by unfold intsD; rw [List.length_map]; omega, comp_pure (fun _ => true) (fun d => .str (Sx (numT d))) (fun d hd k T N hT hN => ?_) ?_⟩
  · obtain ⟨m, hm, rfl⟩ := num_mem hd
    simp only [bodyB, env0, slA, List.map_cons, List.map_nil, List.cons_append, List.nil_append, List.length_cons, List.length_nil, List.replicate, List.getElem?_cons_zero, List.getElem?_cons_succ, List.set_cons_zero, List.set_cons_succ, Option.some.injEq, Sl.dat.injEq, Sl.own.injEq, PyData.bool.injEq, PyData.int.injEq, PyData.str.injEq, PyData.tuple.injEq, PyData.list.injEq, PyData.dict.injEq, Sl.tab.injEq, List.cons.injEq, exists_eq_left', exists_eq_left, eq_self, decide_true, if_true, reduceIte, Int.reduceLE, pure1, pure2, pure3, pure4, leiF_int, liF_int, giF_int, geiF_int, addF_int, subF_int, eqEF_nil, neF_int, eqF_int, lenF_str, lenF_list, lenF_tup, wipe0, wipe1, true_and, and_true, frz_list, frz_dict, frz_tup, frz_dat, frz_no, frz_pen, tab_list, tab_dict, Nat.reduceAdd, Nat.reduceSub]
    exact ⟨fun _ => ⟨_, strF_num (l2 m hm), hT rfl⟩, fun q => nomatch q⟩
  · obtain ⟨g1, g2, g3⟩ := ints_joined l1 l2
    refine ⟨_, by rw [filter_yes, List.nil_append, ints_strs], g1, g2, ?_⟩
    rw [g3]
    simp only [bodyB, env0, slA, List.map_cons, List.map_nil, List.cons_append, List.nil_append, List.length_cons, List.length_nil, List.replicate, List.getElem?_cons_zero, List.getElem?_cons_succ, List.set_cons_zero, List.set_cons_succ, Option.some.injEq, Sl.dat.injEq, Sl.own.injEq, PyData.bool.injEq, PyData.int.injEq, PyData.str.injEq, PyData.tuple.injEq, PyData.list.injEq, PyData.dict.injEq, Sl.tab.injEq, List.cons.injEq, exists_eq_left', exists_eq_left, eq_self, decide_true, if_true, reduceIte, Int.reduceLE, pure1, pure2, pure3, pure4, leiF_int, liF_int, giF_int, geiF_int, addF_int, subF_int, eqEF_nil, neF_int, eqF_int, lenF_str, lenF_list, lenF_tup, wipe0, wipe1, true_and, and_true, frz_list, frz_dict, frz_tup, frz_dat, frz_no, frz_pen, tab_list, tab_dict, Nat.reduceAdd, Nat.reduceSub, e_sl]
    exact ⟨_, sx_addB (by show _ + 1 ≤ 100000; omega), _, sx_addB (by rw [List.length_append]; show _ + 1 + _ ≤ 100000; omega), k, Nat.le_refl _, h⟩
abbrev s_is_count : Stmt := topS 3
theorem sc_is_count : FnScope ["value"] ["value"] (defScope s_is_count) := ⟨rfl, rfl, rfl, by decide +kernel, rfl, by decide +kernel, by decide +kernel⟩

def countB (d : PyData) : Bool := match d with
  | .int i => decide (0 ≤ i)
  | _ => false
def countG : List PyData → Option PyData
  | [d] => some (.bool (countB d))
  | _ => none
abbrev O_is_count (K : PySem.W.Frag) (mg : Str → Option Value) (base : Heap) (kt : Str) : Prop := Ok PW.prog PW.world K mg base CX0 "is_count" ["value"] 2 (liftS K kt 1 (pureS countG))
theorem ok_is_count (T : Txt K mg) (D : Def K mg "is_count" s_is_count ["value"]) (O1 : O_is_integer K mg base kt) : O_is_count K mg base kt := by
  obtain ⟨f_is_integer, fd_is_integer, G_is_integer, g_is_integer, k_is_integer, b_is_integer⟩ := O1
  refine D.okS sc_is_count rfl fun f cdv A outer s H E hr hq => ⟨_, _, (pss_one (ps_ret (pe_and (pe_callG G_is_integer (hr.mono (by omega)) hq (by rfl) g_is_integer k_is_integer b_is_integer pass0 (pa_cons (pv 0) pa_nil)) (pe_one (pe_cmpR op_ge (pv 0) pe_int (nomark _)))))), (as_ret (ab_and (ab_call (ap_cons (ab_var 0) ap_nil)) (ab_op oa_gei (ab_var 0) (ab_int _)))), fun qs k R hl h => ?_⟩
  obtain ⟨ds, d, rfl, h1, h2⟩ := pure_in h
  unfold countG at h1
  split at h1 <;> cases h1
  rename_i v
  simp only [bodyB, env0, slA, List.map_cons, List.map_nil, List.cons_append, List.nil_append, List.length_cons, List.length_nil, List.replicate, List.getElem?_cons_zero, List.getElem?_cons_succ, List.set_cons_zero, List.set_cons_succ, Option.some.injEq, Sl.dat.injEq, Sl.own.injEq, PyData.bool.injEq, PyData.int.injEq, PyData.str.injEq, PyData.tuple.injEq, PyData.list.injEq, PyData.dict.injEq, Sl.tab.injEq, List.cons.injEq, exists_eq_left', exists_eq_left, eq_self, decide_true, if_true, reduceIte, Int.reduceLE, pure1, pure2, pure3, pure4, leiF_int, liF_int, giF_int, geiF_int, addF_int, subF_int, eqEF_nil, neF_int, eqF_int, lenF_str, lenF_list, lenF_tup, wipe0, wipe1, true_and, and_true, frz_list, frz_dict, frz_tup, frz_dat, frz_no, frz_pen, tab_list, tab_dict, Nat.reduceAdd, Nat.reduceSub, intG]
  refine ⟨fun b1 => ?_, fun b1 => ?_⟩
  · obtain ⟨i, rfl⟩ := int_is b1
    simp only [bodyB, env0, slA, List.map_cons, List.map_nil, List.cons_append, List.nil_append, List.length_cons, List.length_nil, List.replicate, List.getElem?_cons_zero, List.getElem?_cons_succ, List.set_cons_zero, List.set_cons_succ, Option.some.injEq, Sl.dat.injEq, Sl.own.injEq, PyData.bool.injEq, PyData.int.injEq, PyData.str.injEq, PyData.tuple.injEq, PyData.list.injEq, PyData.dict.injEq, Sl.tab.injEq, List.cons.injEq, exists_eq_left', exists_eq_left, eq_self, decide_true, if_true, reduceIte, Int.reduceLE, pure1, pure2, pure3, pure4, leiF_int, liF_int, giF_int, geiF_int, addF_int, subF_int, eqEF_nil, neF_int, eqF_int, lenF_str, lenF_list, lenF_tup, wipe0, wipe1, true_and, and_true, frz_list, frz_dict, frz_tup, frz_dat, frz_no, frz_pen, tab_list, tab_dict, Nat.reduceAdd, Nat.reduceSub]
    simpa [countB] using h2
  · have e : countB v = false := by
      cases v <;> first | rfl | (cases b1; done)
    rw [e] at h2
    exact h2
theorem catT_len {as : List Nat} {n : Nat} (h : as.length ≤ 200) : catTF (.tuple (intsD as)) (.tuple [.int (n : Nat)]) = some (.tuple (intsD as ++ [.int (n : Nat)])) := if_pos (by
  unfold intsD
  rw [List.length_map]
  show as.length + 1 ≤ 100000
  omega)
theorem all_counts (as : List Nat) (n : Nat) : allF [.list ((intsD as ++ [PyData.int (n : Nat)]).map fun d => .bool (countB d))] = some (.bool true) := by
  have e : (intsD as ++ [PyData.int (n : Nat)]).all countB = true := by
    refine List.all_eq_true.mpr fun d hd => ?_
    rcases List.mem_append.mp hd with q | q
    · obtain ⟨m, _, rfl⟩ := num_mem q
      exact decide_eq_true (Int.natCast_nonneg m)
    · rw [List.mem_singleton.mp q]
      exact decide_eq_true (Int.natCast_nonneg n)
  rw [allF_map, e]
theorem tup_ints {as : List Nat} (h : as.length ≤ 200) : tupIn (.tuple (intsD as)) 0 200 = true := by
  show (decide ((0 : Int) ≤ ((intsD as).length : Int)) && decide (((intsD as).length : Int) ≤ 200)) = true
  unfold intsD
  rw [List.length_map, decide_eq_true (show (0 : Int) ≤ (as.length : Int) by omega), decide_eq_true (show (as.length : Int) ≤ 200 by omega)] <;> rfl
abbrev s_place_text1 : Stmt := topS 50
theorem sc_place_text1 : FnScope ["place", "address", "point", "index"] ["place"] (defScope s_place_text1) := ⟨rfl, rfl, rfl, by decide +kernel, rfl, by decide +kernel, by decide +kernel⟩

abbrev O_law_place_text (K : PySem.W.Frag) (mg : Str → Option Value) (base : Heap) (kt : Str) : Prop := Ok PW.prog PW.world K mg base CX0 "_law_place_text" ["place"] 3 (liftS K kt 1 plTS)
theorem ok_law_place_text (T : Txt K mg) (D : Def K mg "_law_place_text" s_place_text1 ["place"]) (O1 : O_law_point_text K mg base kt) : O_law_place_text K mg base kt := by
  obtain ⟨f_point_text1, fd_point_text1, G_point_text1, g_point_text1, k_point_text1, b_point_text1⟩ := O1
  refine D.okS sc_place_text1 rfl fun f cdv A outer s H E hr hq => ⟨_, _, (pss_cons (ps_asg (pv 0) (pg_tup (n := 2) (by rfl) (pgs_cons (pg_name (i := 1) sc_place_text1.nd rfl (Or.inl rfl)) (pgs_cons (pg_name (i := 2) sc_place_text1.nd rfl (Or.inl rfl)) pgs_nil))))
      (pss_one (ps_ret (pe_op op_add_str (pe_op op_add_str (pe_join pe_str (pe_lc (own := [("index", 3)]) (g := gName 3) (by rfl) sc_place_text1.nd (pi_tup (pv 1)) (blkOk_by (own := [("index", 3)]) (N := ["place", "address", "point", "index"]) (sc := defScope s_place_text1) (by decide +kernel)) (fun _ _ _ _ _ => (pg_name (i := 3) sc_place_text1.nd rfl (Or.inl rfl))) (fun _ _ _ _ _ => pts_nil) (fun _ _ _ _ _ => (pe_callTy call_strW (by rfl) T.b_str (by decide +kernel) (pa_cons (pv 3) pa_nil))))) pe_str) (pe_callG G_point_text1 (hr.mono (by omega)) hq (by rfl) g_point_text1 k_point_text1 b_point_text1 pass0 (pa_cons (pv 2) pa_nil)))))), (as_seq (as_asg (ws := [1, 2]) (ab_var 0) (ag_tup (ag_cons (ag_name 1 (by decide)) (ag_cons (ag_name 2 (by decide)) ag_nil))))
      (as_ret (ab_op oa_strAdd (ab_op oa_strAdd (ab_join ((af_lc (ai_tup (ab_var 1)) (ag_name 3 (by decide)) at_yes (ab_callB ca_str (ab_acons (ab_var 3) ab_anil)))).ab) (ab_str _ (by decide +kernel))) (ab_call (ap_cons (ab_var 2) ap_nil))))), fun qs k R hl h => ?_⟩
  obtain ⟨p, rfl, ⟨as, q, rfl, l1, l2, n, hn, hq2⟩, h⟩ := h
  have hp := pt_of hn hq2
  have q1 := point_len hp
  have q2 := addr_len l1 l2
  rw [place_eq] at h
  simp only [bodyB, env0, slA, List.map_cons, List.map_nil, List.cons_append, List.nil_append, List.length_cons, List.length_nil, List.replicate, List.getElem?_cons_zero, List.getElem?_cons_succ, List.set_cons_zero, List.set_cons_succ, Option.some.injEq, Sl.dat.injEq, Sl.own.injEq, PyData.bool.injEq, PyData.int.injEq, PyData.str.injEq, PyData.tuple.injEq, PyData.list.injEq, PyData.dict.injEq, Sl.tab.injEq, List.cons.injEq, exists_eq_left', exists_eq_left, eq_self, decide_true, if_true, reduceIte, Int.reduceLE, pure1, pure2, pure3, pure4, leiF_int, liF_int, giF_int, geiF_int, addF_int, subF_int, eqEF_nil, neF_int, eqF_int, lenF_str, lenF_list, lenF_tup, wipe0, wipe1, true_and, and_true, frz_list, frz_dict, frz_tup, frz_dat, frz_no, frz_pen, tab_list, tab_dict, Nat.reduceAdd, Nat.reduceSub, pt_iff, hp]
  refine ⟨by unfold intsD; rw [List.length_map]; omega, comp_pure (fun _ => true) (fun d => .str (Sx (numT d))) (fun d hd k T N hT hN => ?_) ?_⟩
  · obtain ⟨m, hm, rfl⟩ := num_mem hd
    simp only [bodyB, env0, slA, List.map_cons, List.map_nil, List.cons_append, List.nil_append, List.length_cons, List.length_nil, List.replicate, List.getElem?_cons_zero, List.getElem?_cons_succ, List.set_cons_zero, List.set_cons_succ, Option.some.injEq, Sl.dat.injEq, Sl.own.injEq, PyData.bool.injEq, PyData.int.injEq, PyData.str.injEq, PyData.tuple.injEq, PyData.list.injEq, PyData.dict.injEq, Sl.tab.injEq, List.cons.injEq, exists_eq_left', exists_eq_left, eq_self, decide_true, if_true, reduceIte, Int.reduceLE, pure1, pure2, pure3, pure4, leiF_int, liF_int, giF_int, geiF_int, addF_int, subF_int, eqEF_nil, neF_int, eqF_int, lenF_str, lenF_list, lenF_tup, wipe0, wipe1, true_and, and_true, frz_list, frz_dict, frz_tup, frz_dat, frz_no, frz_pen, tab_list, tab_dict, Nat.reduceAdd, Nat.reduceSub]
    exact ⟨fun _ => ⟨_, strF_num (l2 m hm), hT rfl⟩, fun q => nomatch q⟩
  · obtain ⟨g1, g2, g3⟩ := ints_joined l1 l2
    refine ⟨_, by rw [filter_yes, List.nil_append, ints_strs], g1, g2, ?_⟩
    rw [g3]
    simp only [bodyB, env0, slA, List.map_cons, List.map_nil, List.cons_append, List.nil_append, List.length_cons, List.length_nil, List.replicate, List.getElem?_cons_zero, List.getElem?_cons_succ, List.set_cons_zero, List.set_cons_succ, Option.some.injEq, Sl.dat.injEq, Sl.own.injEq, PyData.bool.injEq, PyData.int.injEq, PyData.str.injEq, PyData.tuple.injEq, PyData.list.injEq, PyData.dict.injEq, Sl.tab.injEq, List.cons.injEq, exists_eq_left', exists_eq_left, eq_self, decide_true, if_true, reduceIte, Int.reduceLE, pure1, pure2, pure3, pure4, leiF_int, liF_int, giF_int, geiF_int, addF_int, subF_int, eqEF_nil, neF_int, eqF_int, lenF_str, lenF_list, lenF_tup, wipe0, wipe1, true_and, and_true, frz_list, frz_dict, frz_tup, frz_dat, frz_no, frz_pen, tab_list, tab_dict, Nat.reduceAdd, Nat.reduceSub, e_sl]
    exact ⟨_, sx_addB (by show _ + 1 ≤ 100000; omega), _, sx_addB (by rw [List.length_append]; show _ + 1 + _ ≤ 100000; omega), k, Nat.le_refl _, h⟩

end
end SM

set_option Elab.async false
set_option linter.all false
set_option maxRecDepth 100000
set_option maxHeartbeats 4000000
namespace SM
open PySem PySem.Spec PyProof.Rows L2
section
variable [PW] {K : PySem.W.Frag} {mg : Str → Option Value} {base : Heap} {kt : Str}
def digC (c : Nat) : Bool := decide (48 ≤ c) && decide (c ≤ 57)
def digits (l : List Nat) : Bool := l.all digC
theorem cps_0 : (Str.ofString "0").cps.toList = [48] := by decide +kernel
theorem cps_9 : (Str.ofString "9").cps.toList = [57] := by decide +kernel
def digB : PyData → Bool
  | .str z => z.cps.toList.all digC
  | _ => false
theorem is_sx (a b : List Nat) : strIs (.str (Sx a)) (Sx b) = decide (a = b) := SX.S_beq_eq
theorem dig_one (c : Nat) : digB (.str ⟨#[c]⟩) = digC c := by
  show ([c] : List Nat).all digC = digC c
  simp
theorem digs_all (z : Str) : (z.cps.toList.map fun c => PyData.str ⟨#[c]⟩).all digB = digits z.cps.toList := by
  rw [List.all_map]
  unfold digits
  congr 1
  funext c
  exact dig_one c
theorem at_sx0 (c : Nat) (r : List Nat) : atD (.str (Sx (c :: r))) (.int 0) = some (.str (Sx [c])) := by
  show ((ixN (c :: r).length 0).bind fun j => (c :: r)[j]?).map _ = _
  rw [show ixN (c :: r).length 0 = some 0 by simp [ixN]]
  rfl
abbrev s_is_number : Stmt := topS 44
theorem sc_is_number : FnScope ["word", "sign"] ["word"] (defScope s_is_number) := ⟨rfl, rfl, rfl, by decide +kernel, rfl, by decide +kernel, by decide +kernel⟩

def numbB (l : List Nat) : Bool := decide (1 ≤ l.length) && decide (l.length ≤ 60) && (!(l.head? == some 48) || l == [48]) && digits l
def numbG : List PyData → Option PyData
  | [.str z] => some (.bool (numbB z.cps.toList))
  | _ => none
abbrev O_is_number (K : PySem.W.Frag) (mg : Str → Option Value) (base : Heap) (kt : Str) : Prop := Ok PW.prog PW.world K mg base CX0 "is_number" ["word"] 1 (liftS K kt 1 (pureS numbG))
theorem ok_is_number (T : Txt K mg) (D : Def K mg "is_number" s_is_number ["word"]) : O_is_number K mg base kt := by
  refine D.okS sc_is_number rfl fun f cdv A outer s H E hr hq => ⟨_, _, (pss_cons (ps_if (PW.pt (pw_or (pt_not (pt_chain op_le op_le pe_int (pe_callB call_len (by rfl) T.b_len (by decide +kernel) (pa_cons (pv 0) pa_nil)) (pe_glob (v := .int 60) (by rfl) T.k_MOST_DIGITS.choose_spec ⟨_, rfl⟩))) (pw_or1 (PW.pt (pw_and (pt_cmpR (op_eqS hr.units) (pe_ix ix_seq (pv 0) pe_int (fun _ _ => rfl)) pe_str (nomark _)) (pw_and1 (pt_cmpR (op_neP hr.units) (pv 0) pe_str (nomark _)))))))) (pss_one (ps_ret pe_bl)) pss_nil)
      (pss_one (ps_ret (pe_callB (cr_all (by rfl)) (by rfl) T.b_all (by decide +kernel) (pa_cons (pe_lc (own := [("sign", 1)]) (g := gName 1) (by rfl) sc_is_number.nd (pi_str (pv 0)) (blkOk_by (own := [("sign", 1)]) (N := ["word", "sign"]) (sc := defScope s_is_number) (by decide +kernel)) (fun _ _ _ _ _ => (pg_name (i := 1) sc_is_number.nd rfl (Or.inl rfl))) (fun _ _ _ _ _ => pts_nil) (fun _ _ _ _ _ => (pe_chain (op_leP hr.units) (op_leP hr.units) pe_str (pv 1) pe_str))) pa_nil))))), (as_seq (as_if (at_or (at_not (at_test (ab_chain oa_lei oa_lei (ab_int _) (ab_callB ca_len (ab_acons (ab_var 0) ab_anil)) (ab_int _)))) (at_and (at_test (ab_op oa_eqS (ab_op oa_ix (ab_var 0) (ab_int _)) (ab_str _ (by decide +kernel)))) (at_test (ab_op oa_neP (ab_var 0) (ab_str _ (by decide +kernel)))))) (as_ret (ab_bl _)) as_nil)
      (as_ret (ab_callB ca_all (ab_acons ((af_lc (ai_str (ab_var 0)) (ag_name 1 (by decide)) at_yes (ab_chain oa_leP oa_leP (ab_str _ (by decide +kernel)) (ab_var 1) (ab_str _ (by decide +kernel))))).ab ab_anil)))), fun qs k R hl h => ?_⟩
  obtain ⟨ds, d, rfl, h1, h2⟩ := pure_in h
  unfold numbG at h1
  split at h1 <;> cases h1
  rename_i z
  have zl : z.cps.toList.length = z.length := Array.length_toList
  have comp : ∀ (k0 : Nat) (Q : PyData → Nat → Prop), z.length ≤ 60 → Q (.bool (digits z.cps.toList)) k0 → (z.cps.toList.map (fun c => PyData.str ⟨#[c]⟩)).length ≤ 100000 ∧ compD (fun d env k R => R (env.set 1 (Sl.dat d)) k) (fun x k R => R true k)
      (fun env k R => ∃ d, env[1]? = some (Sl.dat d) ∧ ∃ b, leF (.str "0") d = some (.bool b) ∧ (b = true → ∃ c, leF d (.str "9") = some c ∧ R c k) ∧ (b = false → R (.bool false) k))
      [Sl.dat (.str z), Sl.no] (z.cps.toList.map fun c => PyData.str ⟨#[c]⟩) [] k0 fun d k1 => ∃ c, allF [d] = some c ∧ Q c k1 := fun k0 Q h60 hQ => by
    refine ⟨by rw [List.length_map, zl]; omega, comp_pure (fun _ => true) (fun d => .bool (digB d)) (fun d hd k T N hT hN => ?_) ?_⟩
    · obtain ⟨c, hc, rfl⟩ := mem_signs hd
      simp only [bodyB, env0, slA, List.map_cons, List.map_nil, List.cons_append, List.nil_append, List.length_cons, List.length_nil, List.replicate, List.getElem?_cons_zero, List.getElem?_cons_succ, List.set_cons_zero, List.set_cons_succ, Option.some.injEq, Sl.dat.injEq, Sl.own.injEq, PyData.bool.injEq, PyData.int.injEq, PyData.str.injEq, PyData.tuple.injEq, PyData.list.injEq, PyData.dict.injEq, Sl.tab.injEq, List.cons.injEq, exists_eq_left', exists_eq_left, eq_self, decide_true, if_true, reduceIte, Int.reduceLE, pure1, pure2, pure3, pure4, leiF_int, liF_int, giF_int, geiF_int, addF_int, subF_int, eqEF_nil, neF_int, eqF_int, lenF_str, lenF_list, lenF_tup, wipe0, wipe1, true_and, and_true, frz_list, frz_dict, frz_tup, frz_dat, frz_no, frz_pen, tab_list, tab_dict, Nat.reduceAdd, Nat.reduceSub, leF_str, cps_0, cps_9, lt1]
      have q := hT rfl
      rw [dig_one] at q
      refine ⟨fun _ => ⟨fun q1 => ?_, fun q1 => ?_⟩, fun q => by cases q⟩
      all_goals
        simp only [Bool.not_eq_true', Bool.not_eq_false', decide_eq_false_iff_not, decide_eq_true_eq] at q1
      · have e : digC c = !decide (57 < c) := by
          unfold digC
          rw [decide_eq_true (show 48 ≤ c by omega), Bool.true_and, ← decide_not, decide_eq_decide]
          omega
        rw [← e]
        exact q
      · have e : digC c = false := by
          unfold digC
          rw [decide_eq_false (show ¬ 48 ≤ c by omega), Bool.false_and]
        rw [← e]
        exact q
    · rw [List.nil_append, filter_yes, allF_map]
      refine ⟨_, rfl, ?_⟩
      rw [digs_all]
      exact hQ
  have fin : ∀ b, b = numbB z.cps.toList → ∃ k', k' ≤ k ∧ R (.bool b) k' := fun b e => by rw [e]; exact h2
  simp only [bodyB, env0, slA, List.map_cons, List.map_nil, List.cons_append, List.nil_append, List.length_cons, List.length_nil, List.replicate, List.getElem?_cons_zero, List.getElem?_cons_succ, List.set_cons_zero, List.set_cons_succ, Option.some.injEq, Sl.dat.injEq, Sl.own.injEq, PyData.bool.injEq, PyData.int.injEq, PyData.str.injEq, PyData.tuple.injEq, PyData.list.injEq, PyData.dict.injEq, Sl.tab.injEq, List.cons.injEq, exists_eq_left', exists_eq_left, eq_self, decide_true, if_true, reduceIte, Int.reduceLE, pure1, pure2, pure3, pure4, leiF_int, liF_int, giF_int, geiF_int, addF_int, subF_int, eqEF_nil, neF_int, eqF_int, lenF_str, lenF_list, lenF_tup, wipe0, wipe1, true_and, and_true, frz_list, frz_dict, frz_tup, frz_dat, frz_no, frz_pen, tab_list, tab_dict, Nat.reduceAdd, Nat.reduceSub]
  refine ⟨fun b1 => ⟨fun b2 => ⟨fun _ => fin false ?_, fun q => nomatch q⟩, fun b2 => ?_⟩, fun b1 => ?_⟩
  · have q : ¬ (z.length : Int) ≤ 60 := by simpa using b2
    unfold numbB
    rw [zl, decide_eq_false (show ¬ z.length ≤ 60 by omega), Bool.and_false, Bool.false_and, Bool.false_and]
  · have c1 : 1 ≤ z.length := by have := of_decide_eq_true b1; omega
    have c2 : z.length ≤ 60 := by have : (z.length : Int) ≤ 60 := by simpa using b2
                                  omega
    obtain ⟨c, r, ez⟩ : ∃ c r, z = Sx (c :: r) := by
      cases e : z.cps.toList with
      | nil => rw [e] at zl; rw [List.length_nil] at zl; omega
      | cons c r => exact ⟨c, r, by rw [← e]; exact sx_of z⟩
    have hz : numbB z.cps.toList = ((!(c == 48) || (c :: r) == [48]) && digits z.cps.toList) := by
      unfold numbB
      rw [zl, decide_eq_true c1, decide_eq_true c2, ez, sx_cps]
      rfl
    have h0 : (Str.ofString "0" : Str) = Sx [48] := by decide +kernel
    subst ez
    refine ⟨_, at_sx0 c r, _, rfl, _, rfl, fun e0 => ⟨_, neF_str _ _, _, rfl, fun e1 => fin false ?_, fun e1 => ?_⟩, fun e0 => ⟨fun q => (nomatch q), fun _ => ?_⟩⟩
    · have ec : c = 48 := by
        have q : strIs (.str (Sx [c])) (Str.ofString "0") = true := e0
        rw [h0, is_sx] at q
        have := of_decide_eq_true q
        simpa using this
      have en : ¬ (c :: r = [48]) := fun z => by
        have q : (!PyData.eqv (.str (Sx (c :: r))) (.str "0")) = true := e1
        rw [eqv_str, h0, is_sx, decide_eq_true z] at q
        cases q
      rw [hz, ec]
      rw [ec] at en
      have e2 : ((48 :: r) == ([48] : List Nat)) = false := beq_eq_false_iff_ne.mpr en
      rw [e2] <;> rfl
    · have en : c :: r = [48] := by
        have q : (!PyData.eqv (.str (Sx (c :: r))) (.str "0")) = false := e1
        rw [eqv_str, h0, is_sx] at q
        simpa using q
      refine comp k (fun c k1 => ∃ k', k' ≤ k1 ∧ R c k') c2 ?_
      rw [sx_cps, en] at h2 ⊢
      exact h2
    · have ec : (c == 48) = false := by
        have q : strIs (.str (Sx [c])) (Str.ofString "0") = false := e0
        rw [h0, is_sx] at q
        have := of_decide_eq_false q
        simpa using this
      refine comp k (fun c k1 => ∃ k', k' ≤ k1 ∧ R c k') c2 ?_
      rw [hz, ec, sx_cps] at h2
      rw [sx_cps]
      exact h2
  · refine ⟨fun _ => ⟨fun _ => fin false ?_, fun q => nomatch q⟩, fun q => nomatch q⟩
    have q := of_decide_eq_false b1
    unfold numbB
    rw [zl, decide_eq_false (show ¬ 1 ≤ z.length by omega), Bool.false_and, Bool.false_and, Bool.false_and]
end
end SM

set_option Elab.async false
set_option linter.all false
set_option maxRecDepth 100000
set_option maxHeartbeats 4000000
namespace SM
open PySem PySem.Spec PyProof.Rows L2
section
variable [PW] {K : PySem.W.Frag} {mg : Str → Option Value} {base : Heap} {kt : Str}
def valI (l : List Nat) : PyData := .int ((PySem.NumText.digitsVal l : Nat) : Int)
def parsePt (l : List Nat) : PyData :=
  let ix := TL.spl [46] 0 [] (l.drop 1)
  if ix.all numbB = true then
    match l.take 1, ix with
    | [115], [a, b] => .tuple [.str "slot", valI a, valI b]
    | [110], [a] => .tuple [.str "node", valI a]
    | [112], [a] => .tuple [.str "port", valI a]
    | _, _ => .none
  else .none
def numbX : PyData → Bool
  | .str z => numbB z.cps.toList
  | _ => false
theorem spl_len {c : Nat} : ∀ (l : List Nat) (k : Nat) (acc : List Nat), ∀ p, p ∈ TL.spl [c] k acc l → p.length ≤ acc.length + l.length
  | [], k, acc, p, h => by
    rw [TL.spl_nil] at h
    rw [List.mem_singleton.mp h]
    exact Nat.le_add_right _ _
  | d :: r, 0, acc, p, h => by
    cases e : TL.pre [c] (d :: r) with
    | true =>
      rw [TL.spl_hit e] at h
      rcases List.mem_cons.mp h with q | q
      · rw [q]
        exact Nat.le_add_right _ _
      · have := spl_len r 0 [] p q
        rw [List.length_cons]
        simp at this
        omega
    | false =>
      rw [TL.spl_miss e] at h
      have := spl_len r 0 (acc ++ [d]) p h
      rw [List.length_append, List.length_singleton] at this
      rw [List.length_cons]
      omega
  | d :: r, k + 1, acc, p, h => by
    have := spl_len r k acc p h
    rw [List.length_cons]
    omega
theorem spl_count {c : Nat} : ∀ (l : List Nat) (k : Nat) (acc : List Nat), (TL.spl [c] k acc l).length ≤ l.length + 1
  | [], k, acc => by
    rw [TL.spl_nil]
    exact Nat.le_refl _
  | d :: r, 0, acc => by
    cases e : TL.pre [c] (d :: r) with
    | true =>
      rw [TL.spl_hit e, List.length_cons, List.length_cons]
      have := spl_count (c := c) r 0 []
      exact Nat.succ_le_succ this
    | false =>
      rw [TL.spl_miss e, List.length_cons]
      have := spl_count (c := c) r 0 (acc ++ [d])
      omega
  | d :: r, k + 1, acc => by
    have := spl_count (c := c) r k acc
    rw [List.length_cons]
    exact Nat.le_succ_of_le this
theorem e_n : (Str.ofString "n" : Str) = Sx [110] := by decide +kernel
theorem e_p : (Str.ofString "p" : Str) = Sx [112] := by decide +kernel
theorem two_len {α : Type} : ∀ {l : List α}, l.length = 2 → ∃ a b, l = [a, b]
  | [a, b], _ => ⟨a, b, rfl⟩
theorem eqF_nat (n m : Nat) : eqF (.int (n : Nat)) (.int (m : Nat)) = some (.bool (decide (n = m))) := by
  have e : PyData.eqv (.int (n : Nat)) (.int (m : Nat)) = decide (n = m) := by
    simp only [PyData.eqv]
    rw [Bool.eq_iff_iff, beq_iff_eq, decide_eq_true_eq]
    omega
  rw [← e]
  exact if_pos rfl
theorem inF_np (x : List Nat) : inF (.str (Sx x)) (.tuple [.str (Sx [110]), .str (Sx [112])]) = some (.bool (decide ([110] = x) || decide ([112] = x))) := by
  have e1 : PyData.eqv (.str (Sx [110])) (.str (Sx x)) = decide ([110] = x) := (eqv_str _ _).trans (is_sx _ _)
  have e2 : PyData.eqv (.str (Sx [112])) (.str (Sx x)) = decide ([112] = x) := (eqv_str _ _).trans (is_sx _ _)
  rw [← e1, ← e2]
  have g : ((PyData.str (Sx x)).plain && PyData.plainAll [.str (Sx [110]), .str (Sx [112])] && (decide ((PyData.str (Sx x)).depth ≤ 60) || decide (PyData.depthAll [.str (Sx [110]), .str (Sx [112])] ≤ 60))) = true := rfl
  refine Eq.trans (b := some (PyData.bool ([PyData.str (Sx [110]), .str (Sx [112])].any fun y => PyData.eqv y (.str (Sx x))))) (if_pos (e := none) g) ?_
  simp only [List.any_cons, List.any_nil, Bool.or_false]
theorem numb_int {a : List Nat} (h : numbB a = true) : intSF [.str (Sx a)] = some (valI a) := by
  unfold numbB at h
  simp only [Bool.and_eq_true, decide_eq_true_eq] at h
  obtain ⟨⟨⟨h1, h2⟩, _⟩, h3⟩ := h
  show (if (Sx a).length ≤ 640 then (PySem.intText? (Sx a)).map PyData.int else none) = _
  have q : PySem.intText? (Sx a) = some ((PySem.NumText.digitsVal a : Nat) : Int) := SX.int_S h3 (fun z => by rw [z] at h1; simp at h1) (by omega)
  rw [if_pos (by rw [sx_len]; omega), q]
  rfl
def ppS : SP := fun qs k R => ∃ l, qs = [some (.str (Sx l))] ∧ l.length ≤ 100000 ∧ R (parsePt l) k
abbrev s_parsed_point : Stmt := topS 42
theorem sc_parsed_point : FnScope ["word", "letter", "indexes", "index"] ["word"] (defScope s_parsed_point) := ⟨rfl, rfl, rfl, by decide +kernel, rfl, by decide +kernel, by decide +kernel⟩

abbrev O_parsed_point (K : PySem.W.Frag) (mg : Str → Option Value) (base : Heap) (kt : Str) : Prop := Ok PW.prog PW.world K mg base CX0 "parsed_point" ["word"] 2 (liftS K kt 1 ppS)
theorem ok_parsed_point (T : Txt K mg) (D : Def K mg "parsed_point" s_parsed_point ["word"]) (O1 : O_is_number K mg base kt) : O_parsed_point K mg base kt := by
  obtain ⟨f_is_number, fd_is_number, G_is_number, g_is_number, k_is_number, b_is_number⟩ := O1
  refine D.okS sc_parsed_point rfl fun f cdv A outer s H E hr hq => ⟨_, _, (pss_cons (ps_par (i := 1) (j := 2) (by rfl) sc_parsed_point.nd rfl rfl (by decide) rfl rfl (pa_cons (pe_slice sl_str (pv 0) po_none (po_some pe_int)) (pa_cons (pe_split (pe_slice sl_str (pv 0) (po_some pe_int) po_none) pe_str) pa_nil)) (by rfl))
      (pss_cons (ps_if (pt_not (pt_val (pe_callB (cr_all (by rfl)) (by rfl) T.b_all (by decide +kernel) (pa_cons (pe_lc (own := [("index", 3)]) (g := gName 3) (by rfl) sc_parsed_point.nd (pi_list (pv 2)) (blkOk_by (own := [("index", 3)]) (N := ["word", "letter", "indexes", "index"]) (sc := defScope s_parsed_point) (by decide +kernel)) (fun _ _ _ _ _ => (pg_name (i := 3) sc_parsed_point.nd rfl (Or.inl rfl))) (fun _ _ _ _ _ => pts_nil) (fun _ _ _ _ _ => (pe_callG G_is_number (hr.mono (by omega)) hq (by rfl) g_is_number k_is_number b_is_number pass0 (pa_cons (pv 3) pa_nil)))) pa_nil)))) (pss_one (ps_ret pe_non)) pss_nil)
      (pss_cons (ps_if (PW.pt (pw_and (pt_cmpR (op_eqS hr.units) (pv 1) pe_str (nomark _)) (pw_and1 (pt_cmpR (op_eqP hr.units) (pe_callB call_len (by rfl) T.b_len (by decide +kernel) (pa_cons (pv 2) pa_nil)) pe_int (nomark _))))) (pss_one (ps_ret (pe_tup (pa_cons pe_str (pa_cons (pe_callTy call_int_str (by rfl) T.b_int (by decide +kernel) (pa_cons (pe_ix ix_seq (pv 2) pe_int (fun _ _ => rfl)) pa_nil)) (pa_cons (pe_callTy call_int_str (by rfl) T.b_int (by decide +kernel) (pa_cons (pe_ix ix_seq (pv 2) pe_int (fun _ _ => rfl)) pa_nil)) pa_nil)))))) pss_nil)
      (pss_cons (ps_if (PW.pt (pw_and (pt_cmpR (op_inP hr.units) (pv 1) (pe_tup (pa_cons pe_str (pa_cons pe_str pa_nil))) (by with_unfolding_all rfl)) (pw_and1 (pt_cmpR (op_eqP hr.units) (pe_callB call_len (by rfl) T.b_len (by decide +kernel) (pa_cons (pv 2) pa_nil)) pe_int (nomark _))))) (pss_one (ps_ret (pe_tup (pa_cons (pe_ifExp (pt_cmpR (op_eqS hr.units) (pv 1) pe_str (nomark _)) pe_str pe_str) (pa_cons (pe_callTy call_int_str (by rfl) T.b_int (by decide +kernel) (pa_cons (pe_ix ix_seq (pv 2) pe_int (fun _ _ => rfl)) pa_nil)) pa_nil))))) pss_nil)
      (pss_one (ps_ret pe_non)))))), (as_seq (as_par (ab_acons (ab_sl sa_str (ab_var 0) ao_none (ao_some (ab_int _))) (ab_acons (af_split (by decide +kernel) (ab_sl sa_str (ab_var 0) (ao_some (ab_int _)) ao_none)).ab ab_anil)))
      (as_seq (as_if (at_not (at_B (ab_callB ca_all (ab_acons ((af_lc (ai_list (ab_var 2)) (ag_name 3 (by decide)) at_yes (ab_call (ap_cons (ab_var 3) ap_nil)))).ab ab_anil)))) (as_ret ab_non) as_nil)
      (as_seq (as_if (at_and (at_test (ab_op oa_eqS (ab_var 1) (ab_str _ (by decide +kernel)))) (at_test (ab_op oa_eqP (ab_callB ca_len (ab_acons (ab_var 2) ab_anil)) (ab_int _)))) (as_ret (ab_tup (ab_acons (ab_str _ (by decide +kernel)) (ab_acons (ab_callB ca_intS (ab_acons (ab_op oa_ix (ab_var 2) (ab_int _)) ab_anil)) (ab_acons (ab_callB ca_intS (ab_acons (ab_op oa_ix (ab_var 2) (ab_int _)) ab_anil)) ab_anil))))) as_nil)
      (as_seq (as_if (at_and (at_test (ab_op oa_inP (ab_var 1) (ab_tup (ab_acons (ab_str _ (by decide +kernel)) (ab_acons (ab_str _ (by decide +kernel)) ab_anil))))) (at_test (ab_op oa_eqP (ab_callB ca_len (ab_acons (ab_var 2) ab_anil)) (ab_int _)))) (as_ret (ab_tup (ab_acons (ab_if (at_test (ab_op oa_eqS (ab_var 1) (ab_str _ (by decide +kernel)))) (ab_str _ (by decide +kernel)) (ab_str _ (by decide +kernel))) (ab_acons (ab_callB ca_intS (ab_acons (ab_op oa_ix (ab_var 2) (ab_int _)) ab_anil)) ab_anil)))) as_nil)
      (as_ret ab_non))))), fun qs k R hl h => ?_⟩
  obtain ⟨l, rfl, hl1, h⟩ := h
  have d1 : slSF (.str (Sx l)) none (some 1) = some (.str (Sx (l.take 1))) := by
    show some (PyData.str (cutS _ _ _)) = _
    rw [show (some (1 : Int)) = some ((1 : Nat) : Int) from rfl, cut_take]
  have d2 : slSF (.str (Sx l)) (some 1) none = some (.str (Sx (l.drop 1))) := by
    show some (PyData.str (cutS _ _ _)) = _
    rw [show (some (1 : Int)) = some ((1 : Nat) : Int) from rfl, cut_drop]
  have es : Txt.split (Sx (l.drop 1)) (Sx [46]) = (TL.spl [46] 0 [] (l.drop 1)).map Sx := SX.split_S (List.cons_ne_nil _ _) rfl
  have pl : ∀ p, p ∈ TL.spl [46] 0 [] (l.drop 1) → p.length ≤ 100000 := fun p hp => by
    have q := spl_len (l.drop 1) 0 [] p hp
    rw [List.length_drop] at q
    simp at q
    omega
  have ll := spl_count (c := 46) (l.drop 1) 0 []
  rw [List.length_drop] at ll
  have hP : parsePt l = if (TL.spl [46] 0 [] (l.drop 1)).all numbB = true then (match l.take 1, TL.spl [46] 0 [] (l.drop 1) with
    | [115], [a, b] => .tuple [.str "slot", valI a, valI b]
    | [110], [a] => .tuple [.str "node", valI a]
    | [112], [a] => .tuple [.str "port", valI a]
    | _, _ => .none) else .none := rfl
  rw [hP] at h
  generalize TL.spl [46] 0 [] (l.drop 1) = ix at es pl ll h
  generalize l.take 1 = x at d1 h
  simp only [bodyB, env0, slA, List.map_cons, List.map_nil, List.cons_append, List.nil_append, List.length_cons, List.length_nil, List.replicate, List.getElem?_cons_zero, List.getElem?_cons_succ, List.set_cons_zero, List.set_cons_succ, Option.some.injEq, Sl.dat.injEq, Sl.own.injEq, PyData.bool.injEq, PyData.int.injEq, PyData.str.injEq, PyData.tuple.injEq, PyData.list.injEq, PyData.dict.injEq, Sl.tab.injEq, List.cons.injEq, exists_eq_left', exists_eq_left, eq_self, decide_true, if_true, reduceIte, Int.reduceLE, pure1, pure2, pure3, pure4, leiF_int, liF_int, giF_int, geiF_int, addF_int, subF_int, eqEF_nil, neF_int, eqF_int, lenF_str, lenF_list, lenF_tup, wipe0, wipe1, true_and, and_true, frz_list, frz_dict, frz_tup, frz_dat, frz_no, frz_pen, tab_list, tab_dict, Nat.reduceAdd, Nat.reduceSub, d1, d2]
  refine ⟨by rw [sx_len, List.length_drop]; omega, fun y hy => ?_, ?_⟩
  · rw [dotS, es] at hy
    obtain ⟨p, hp, rfl⟩ := List.mem_map.mp hy
    rw [sx_len]
    have := pl p hp
    omega
  rw [dotS, es]
  refine ⟨_, _, ⟨rfl, rfl⟩, _, rfl, by rw [List.length_map, List.length_map]; omega, comp_pure (fun _ => true) (fun d => .bool (numbX d)) (fun d hd k T N hT hN => ?_) ?_⟩
  · rw [List.map_map] at hd
    obtain ⟨p, hp, rfl⟩ := List.mem_map.mp hd
    simp only [bodyB, env0, slA, List.map_cons, List.map_nil, List.cons_append, List.nil_append, List.length_cons, List.length_nil, List.replicate, List.getElem?_cons_zero, List.getElem?_cons_succ, List.set_cons_zero, List.set_cons_succ, Option.some.injEq, Sl.dat.injEq, Sl.own.injEq, PyData.bool.injEq, PyData.int.injEq, PyData.str.injEq, PyData.tuple.injEq, PyData.list.injEq, PyData.dict.injEq, Sl.tab.injEq, List.cons.injEq, exists_eq_left', exists_eq_left, eq_self, decide_true, if_true, reduceIte, Int.reduceLE, pure1, pure2, pure3, pure4, leiF_int, liF_int, giF_int, geiF_int, addF_int, subF_int, eqEF_nil, neF_int, eqF_int, lenF_str, lenF_list, lenF_tup, wipe0, wipe1, true_and, and_true, frz_list, frz_dict, frz_tup, frz_dat, frz_no, frz_pen, tab_list, tab_dict, Nat.reduceAdd, Nat.reduceSub]
    exact ⟨fun _ => ⟨_, rfl, hT rfl⟩, fun q => nomatch q⟩
  rw [filter_yes, List.nil_append]
  have ea : (((ix.map Sx).map PyData.str).all numbX) = ix.all numbB := by
    rw [List.all_map, List.all_map]
    rfl
  refine ⟨_, by rw [allF_map, ea], _, rfl, fun b1 => ?_, fun b1 => ?_⟩
  · rw [if_neg (by simpa using b1)] at h
    exact ⟨k, Nat.le_refl _, h⟩
  · have b2 : ix.all numbB = true := by simpa using b1
    rw [if_pos b2] at h
    have out : R .none k → ∃ k', k' ≤ k ∧ R .none k' := fun z => ⟨k, Nat.le_refl _, z⟩
    have len1 : ∀ n : Nat, (n : Int) ≤ 100000 ∨ True := fun n => .inr True.intro
    rw [e_n, e_s, e_p]
    have nat2 : ∀ n : Nat, eqF (.int (n : Nat)) (.int 2) = some (.bool (decide (n = 2))) := fun n => eqF_nat n 2
    have nat1 : ∀ n : Nat, eqF (.int (n : Nat)) (.int 1) = some (.bool (decide (n = 1))) := fun n => eqF_nat n 1
    have lenE : lenF [.list ((ix.map Sx).map PyData.str)] = some (.int (ix.length : Nat)) := by
      show some (PyData.int (((ix.map Sx).map PyData.str).length : Nat)) = _
      rw [List.length_map, List.length_map]
    have tail : ∀ X : Prop, ¬ (x = [115] ∧ ix.length = 2) → 2 ≤ 100000 ∧ ∃ c, inF (.str (Sx x)) (.tuple [.str (Sx [110]), .str (Sx [112])]) = some c ∧ ∃ b, c = .bool b ∧
        (b = true → ∃ c, lenF [.list ((ix.map Sx).map PyData.str)] = some c ∧ ∃ c_3, eqF c (.int 1) = some c_3 ∧ ∃ b, c_3 = .bool b ∧
          (b = true → ∃ c, eqSF (.str (Sx x)) (.str (Sx [110])) = some c ∧ ∃ b, c = .bool b ∧
            (b = true → ∃ c, atD (.list ((ix.map Sx).map PyData.str)) (.int 0) = some c ∧ ∃ c_4, intSF [c] = some c_4 ∧ 2 ≤ 100000 ∧ ∃ k', k' ≤ k ∧ R (.tuple [.str "node", c_4]) k') ∧
            (b = false → ∃ c, atD (.list ((ix.map Sx).map PyData.str)) (.int 0) = some c ∧ ∃ c_4, intSF [c] = some c_4 ∧ 2 ≤ 100000 ∧ ∃ k', k' ≤ k ∧ R (.tuple [.str "port", c_4]) k')) ∧
          (b = false → ∃ k', k' ≤ k ∧ R .none k')) ∧
        (b = false → (false = true → X) ∧ (True → ∃ k', k' ≤ k ∧ R .none k')) := fun X no => by
      refine ⟨by decide, _, inF_np x, _, rfl, fun a1 => ⟨_, lenE, _, nat1 _, _, rfl, fun a2 => ?_, fun a2 => ?_⟩, fun a1 => ⟨fun q => (nomatch q), fun _ => ?_⟩⟩
      · obtain ⟨a, rfl⟩ := List.length_eq_one_iff.mp (of_decide_eq_true a2)
        have na : numbB a = true := by simpa using b2
        refine ⟨_, rfl, _, rfl, fun a3 => ?_, fun a3 => ?_⟩
        · have ex : x = [110] := by
            have q : strIs (.str (Sx x)) (Sx [110]) = true := a3
            rw [is_sx] at q
            exact of_decide_eq_true q
          subst ex
          exact ⟨_, rfl, _, numb_int na, by decide, k, Nat.le_refl _, h⟩
        · have ex : x = [112] := by
            have q : strIs (.str (Sx x)) (Sx [110]) = false := a3
            rw [is_sx] at q
            have q1 := of_decide_eq_false q
            have q2 : decide ([110] = x) = true ∨ decide ([112] = x) = true := by simpa using a1
            rcases q2 with q2 | q2
            · exact absurd (of_decide_eq_true q2).symm q1
            · exact (of_decide_eq_true q2).symm
          subst ex
          exact ⟨_, rfl, _, numb_int na, by decide, k, Nat.le_refl _, h⟩
      · refine out ?_
        have n1 := of_decide_eq_false a2
        split at h
        · rename_i a b
          exact absurd ⟨rfl, rfl⟩ no
        · exact absurd rfl n1
        · exact absurd rfl n1
        · exact h
      · refine out ?_
        split at h
        · exact absurd ⟨rfl, rfl⟩ no
        · cases a1
        · cases a1
        · exact h
    refine ⟨_, rfl, _, rfl, fun c1 => ?_, fun c1 => ?_⟩
    · have ex : x = [115] := by
        have q : strIs (.str (Sx x)) (Sx [115]) = true := c1
        rw [is_sx] at q
        exact of_decide_eq_true q
      refine ⟨_, lenE, _, nat2 _, _, rfl, fun c2 => ?_, fun c2 => tail _ fun z => of_decide_eq_false c2 z.2⟩
      obtain ⟨a, b, rfl⟩ := two_len (of_decide_eq_true c2)
      have na : numbB a = true ∧ numbB b = true := by simpa using b2
      subst ex
      exact ⟨_, rfl, _, numb_int na.1, _, rfl, _, numb_int na.2, by decide, k, Nat.le_refl _, h⟩
    · have ex : ¬ x = [115] := by
        have q : strIs (.str (Sx x)) (Sx [115]) = false := c1
        rw [is_sx] at q
        exact of_decide_eq_false q
      exact ⟨fun q => (nomatch q), fun _ => tail _ fun z => ex z.1⟩
end
end SM

set_option Elab.async false
set_option linter.all false
set_option maxRecDepth 100000
set_option maxHeartbeats 4000000
namespace SM
open PySem PySem.Spec PyProof.Rows L2
section
variable [PW] {K : PySem.W.Frag} {mg : Str → Option Value} {base : Heap} {kt : Str}
def addrIx (p : List Nat) : List (List Nat) := if p = [] then [] else TL.spl [46] 0 [] p
def isSlotD : PyData → Bool
  | .tuple (.str w :: _) => strIs (.str w) "slot"
  | _ => false
def parsePl (l : List Nat) : PyData := match TL.par [47] [] l with
  | none => .none
  | some (p, q) => if isNone (parsePt q) || isSlotD (parsePt q) || decide (200 < (addrIx p).length) || !(addrIx p).all numbB then .none else .tuple [.tuple ((addrIx p).map valI), parsePt q]
def plaS : SP := fun qs k R => ∃ l, qs = [some (.str (Sx l))] ∧ l.length ≤ 100000 ∧ R (parsePl l) k
theorem pp_iff {l : List Nat} {k : Nat} {R : PyData → Nat → Prop} (hl : l.length ≤ 100000) : ppS [some (.str (Sx l))] k R ↔ R (parsePt l) k := by
  constructor
  · rintro ⟨l', e, _, h⟩
    have e2 : Sx l = Sx l' := by
      have := List.cons.inj e
      have q := Option.some.inj this.1
      exact PyData.str.inj q
    rw [sx_inj e2]
    exact h
  · exact fun h => ⟨l, rfl, hl, h⟩
theorem split_small {l : List Nat} {y : Str} (hl : l.length ≤ 100000) (h : y ∈ Txt.split (Sx l) (Str.ofString ".")) : y.length ≤ 16777216 := by
  have es : Txt.split (Sx l) (Sx [46]) = (TL.spl [46] 0 [] l).map Sx := SX.split_S (List.cons_ne_nil _ _) rfl
  rw [dotS, es] at h
  obtain ⟨p, hp, rfl⟩ := List.mem_map.mp h
  have := spl_len l 0 [] p hp
  rw [sx_len]
  simp at this
  omega
theorem par_len {c : Nat} : ∀ (l acc : List Nat) {p q : List Nat}, TL.par [c] acc l = some (p, q) → p.length ≤ acc.length + l.length ∧ q.length ≤ l.length
  | [], acc, p, q, h => nomatch h
  | d :: r, acc, p, q, h => by
    cases e : TL.pre [c] (d :: r) with
    | true =>
      rw [TL.par_hit e] at h
      cases h
      rw [List.length_drop, List.length_cons]
      omega
    | false =>
      rw [TL.par_miss e] at h
      have := par_len r (acc ++ [d]) h
      rw [List.length_append, List.length_singleton] at this
      rw [List.length_cons]
      omega
def valX : PyData → PyData
  | .str z => valI z.cps.toList
  | _ => .none
theorem at_tup0 (x : PyData) (r : List PyData) : atD (.tuple (x :: r)) (.int 0) = some x := by
  show (ixN (x :: r).length 0).bind (fun j => (x :: r)[j]?) = _
  rw [show ixN (x :: r).length 0 = some 0 by simp [ixN]]
  rfl
theorem pt_shape2 (q : List Nat) : parsePt q = .none ∨ ∃ w r, parsePt q = .tuple (.str w :: r) := by
  unfold parsePt
  dsimp only
  split
  · split
    · exact .inr ⟨_, _, rfl⟩
    · exact .inr ⟨_, _, rfl⟩
    · exact .inr ⟨_, _, rfl⟩
    · exact .inl rfl
  · exact .inl rfl
abbrev s_parsed_place : Stmt := topS 43
theorem sc_parsed_place : FnScope ["text", "before", "slash", "behind", "indexes", "point", "index"] ["text"] (defScope s_parsed_place) := ⟨rfl, rfl, rfl, by decide +kernel, rfl, by decide +kernel, by decide +kernel⟩

abbrev O_parsed_place (K : PySem.W.Frag) (mg : Str → Option Value) (base : Heap) (kt : Str) : Prop := Ok PW.prog PW.world K mg base CX0 "parsed_place" ["text"] 3 (liftS K kt 1 plaS)
theorem ok_parsed_place (T : Txt K mg) (D : Def K mg "parsed_place" s_parsed_place ["text"]) (O1 : O_parsed_point K mg base kt) (O2 : O_is_number K mg base kt) : O_parsed_place K mg base kt := by
  obtain ⟨f_parsed_point, fd_parsed_point, G_parsed_point, g_parsed_point, k_parsed_point, b_parsed_point⟩ := O1
  obtain ⟨f_is_number, fd_is_number, G_is_number, g_is_number, k_is_number, b_is_number⟩ := O2
  refine D.okS sc_parsed_place rfl fun f cdv A outer s H E hr hq => ⟨_, _, (pss_cons (ps_asg (pe_partition (pv 0) pe_str) (pg_tup (n := 3) (by rfl) (pgs_cons (pg_name (i := 1) sc_parsed_place.nd rfl (Or.inl rfl)) (pgs_cons (pg_name (i := 2) sc_parsed_place.nd rfl (Or.inl rfl)) (pgs_cons (pg_name (i := 3) sc_parsed_place.nd rfl (Or.inl rfl)) pgs_nil)))))
      (pss_cons (ps_set (i := 4) sc_parsed_place.nd rfl (Or.inl rfl) (pe_ifExp (pt_truth (pv 1) (fun _ => rfl)) (pe_split (pv 1) pe_str) (pe_lst pa_nil)))
      (pss_cons (ps_set (i := 5) sc_parsed_place.nd rfl (Or.inl rfl) (pe_callG G_parsed_point (hr.mono (by omega)) hq (by rfl) g_parsed_point k_parsed_point b_parsed_point pass0 (pa_cons (pv 3) pa_nil)))
      (pss_cons (ps_if (PW.pt (pw_or (pt_not (pt_truth (pv 2) (fun _ => rfl))) (pw_or (pt_cmpR op_isN (pv 5) pe_non (nomark _)) (pw_or (pt_cmpR (op_eqS hr.units) (pe_ix ix_seq (pv 5) pe_int (fun _ _ => rfl)) pe_str (nomark _)) (pw_or1 (pt_cmpR op_gt (pe_callB call_len (by rfl) T.b_len (by decide +kernel) (pa_cons (pv 4) pa_nil)) (pe_glob (v := .int 200) (by rfl) T.k_MOST_INDEXES.choose_spec ⟨_, rfl⟩) (nomark _))))))) (pss_one (ps_ret pe_non)) pss_nil)
      (pss_cons (ps_if (pt_not (pt_val (pe_callB (cr_all (by rfl)) (by rfl) T.b_all (by decide +kernel) (pa_cons (pe_lc (own := [("index", 6)]) (g := gName 6) (by rfl) sc_parsed_place.nd (pi_list (pv 4)) (blkOk_by (own := [("index", 6)]) (N := ["text", "before", "slash", "behind", "indexes", "point", "index"]) (sc := defScope s_parsed_place) (by decide +kernel)) (fun _ _ _ _ _ => (pg_name (i := 6) sc_parsed_place.nd rfl (Or.inl rfl))) (fun _ _ _ _ _ => pts_nil) (fun _ _ _ _ _ => (pe_callG G_is_number (hr.mono (by omega)) hq (by rfl) g_is_number k_is_number b_is_number pass0 (pa_cons (pv 6) pa_nil)))) pa_nil)))) (pss_one (ps_ret pe_non)) pss_nil)
      (pss_one (ps_ret (pe_tup (pa_cons (pe_callTy call_tuple_of (by rfl) T.b_tuple (by decide +kernel) (pa_cons (pe_lc (own := [("index", 6)]) (g := gName 6) (by rfl) sc_parsed_place.nd (pi_list (pv 4)) (blkOk_by (own := [("index", 6)]) (N := ["text", "before", "slash", "behind", "indexes", "point", "index"]) (sc := defScope s_parsed_place) (by decide +kernel)) (fun _ _ _ _ _ => (pg_name (i := 6) sc_parsed_place.nd rfl (Or.inl rfl))) (fun _ _ _ _ _ => pts_nil) (fun _ _ _ _ _ => (pe_callTy call_int_str (by rfl) T.b_int (by decide +kernel) (pa_cons (pv 6) pa_nil)))) pa_nil)) (pa_cons (pv 5) pa_nil)))))))))), (as_seq (as_asg (ws := [1, 2, 3]) (ab_part (by decide +kernel) (ab_var 0)) (ag_tup (ag_cons (ag_name 1 (by decide)) (ag_cons (ag_name 2 (by decide)) (ag_cons (ag_name 3 (by decide)) ag_nil)))))
      (as_seq (as_set 4 (ab_if (at_tru (ab_var 1)) (af_split (by decide +kernel) (ab_var 1)).ab (af_lst ab_anil).ab))
      (as_seq (as_set 5 (ab_call (ap_cons (ab_var 3) ap_nil)))
      (as_seq (as_if (at_or (at_not (at_tru (ab_var 2))) (at_or (at_test (ab_op oa_isN (ab_var 5) ab_non)) (at_or (at_test (ab_op oa_eqS (ab_op oa_ix (ab_var 5) (ab_int _)) (ab_str _ (by decide +kernel)))) (at_test (ab_op oa_gi (ab_callB ca_len (ab_acons (ab_var 4) ab_anil)) (ab_int _)))))) (as_ret ab_non) as_nil)
      (as_seq (as_if (at_not (at_B (ab_callB ca_all (ab_acons ((af_lc (ai_list (ab_var 4)) (ag_name 6 (by decide)) at_yes (ab_call (ap_cons (ab_var 6) ap_nil)))).ab ab_anil)))) (as_ret ab_non) as_nil)
      (as_ret (ab_tup (ab_acons (ab_callB ca_tuple (ab_acons ((af_lc (ai_list (ab_var 4)) (ag_name 6 (by decide)) at_yes (ab_callB ca_intS (ab_acons (ab_var 6) ab_anil)))).ab ab_anil)) (ab_acons (ab_var 5) ab_anil))))))))), fun qs k R hl h => ?_⟩
  obtain ⟨l, rfl, hl1, h⟩ := h
  have hs : (Str.ofString "/" : Str) = Sx [47] := e_sl
  cases hpar : TL.par [47] [] l with
  | none =>
    have ep : Txt.partition (Sx l) (Str.ofString "/") = (Sx l, Sx [], Sx []) := by rw [hs]; exact SX.partition_none (List.cons_ne_nil _ _) hpar
    have hN : R .none k := by
      have e : parsePl l = .none := by
        unfold parsePl
        rw [hpar]
      rw [e] at h
      exact h
    have tl : truD (.str (Sx l)) = some (((Sx l).length : Int) != 0) := rfl
    have te : truD (.str (Sx [])) = some false := rfl
    simp only [bodyB, env0, slA, List.map_cons, List.map_nil, List.cons_append, List.nil_append, List.length_cons, List.length_nil, List.replicate, List.getElem?_cons_zero, List.getElem?_cons_succ, List.set_cons_zero, List.set_cons_succ, Option.some.injEq, Sl.dat.injEq, Sl.own.injEq, PyData.bool.injEq, PyData.int.injEq, PyData.str.injEq, PyData.tuple.injEq, PyData.list.injEq, PyData.dict.injEq, Sl.tab.injEq, List.cons.injEq, exists_eq_left', exists_eq_left, eq_self, decide_true, if_true, reduceIte, Int.reduceLE, pure1, pure2, pure3, pure4, leiF_int, liF_int, giF_int, geiF_int, addF_int, subF_int, eqEF_nil, neF_int, eqF_int, lenF_str, lenF_list, lenF_tup, wipe0, wipe1, true_and, and_true, frz_list, frz_dict, frz_tup, frz_dat, frz_no, frz_pen, tab_list, tab_dict, Nat.reduceAdd, Nat.reduceSub, ep]
    refine ⟨by rw [sx_len]; omega, ⟨by rw [sx_len]; omega, by rw [sx_len]; decide, by rw [sx_len]; decide⟩, ?_⟩
    have go : ∃ b, truD (.str (Sx [])) = some b ∧ True := ⟨_, te, trivial⟩
    refine ⟨_, tl, fun b1 => ⟨by rw [sx_len]; omega, fun y hy => split_small hl1 hy, (pp_iff (by decide)).mpr ⟨_, te, fun _ => ⟨fun _ => ⟨k, Nat.le_refl _, hN⟩, fun z => (nomatch z)⟩, fun z => (nomatch z)⟩⟩, fun b1 => ?_⟩
    refine ⟨by decide, (pp_iff (by decide)).mpr ⟨_, te, fun _ => ⟨fun _ => ⟨k, Nat.le_refl _, hN⟩, fun z => (nomatch z)⟩, fun z => (nomatch z)⟩⟩
  | some pq =>
    obtain ⟨p, q⟩ := pq
    have ep : Txt.partition (Sx l) (Str.ofString "/") = (Sx p, Sx [47], Sx q) := by rw [hs]; exact SX.partition_some (List.cons_ne_nil _ _) hpar
    obtain ⟨lp, lq⟩ := par_len l [] hpar
    simp only [List.length_nil, Nat.zero_add] at lp
    have tp : truD (.str (Sx p)) = some (decide (¬ p = [])) := by
      show some (((Sx p).length : Int) != 0) = _
      rw [sx_len]
      cases p with
      | nil => rfl
      | cons a r =>
        have e : (((a :: r).length : Int) != 0) = true := by
          rw [bne_iff_ne]
          rw [List.length_cons]
          omega
        rw [e, decide_eq_true (List.cons_ne_nil a r)]
    have te : truD (.str (Sx [47])) = some true := rfl
    have e : parsePl l = if isNone (parsePt q) || isSlotD (parsePt q) || decide (200 < (addrIx p).length) || !(addrIx p).all numbB then .none else .tuple [.tuple ((addrIx p).map valI), parsePt q] := by
      unfold parsePl
      rw [hpar]
    rw [e] at h
    have il : (addrIx p).length ≤ 100001 := by
      unfold addrIx
      split
      · exact Nat.zero_le _
      · have := spl_count (c := 46) p 0 []
        omega
    simp only [bodyB, env0, slA, List.map_cons, List.map_nil, List.cons_append, List.nil_append, List.length_cons, List.length_nil, List.replicate, List.getElem?_cons_zero, List.getElem?_cons_succ, List.set_cons_zero, List.set_cons_succ, Option.some.injEq, Sl.dat.injEq, Sl.own.injEq, PyData.bool.injEq, PyData.int.injEq, PyData.str.injEq, PyData.tuple.injEq, PyData.list.injEq, PyData.dict.injEq, Sl.tab.injEq, List.cons.injEq, exists_eq_left', exists_eq_left, eq_self, decide_true, if_true, reduceIte, Int.reduceLE, pure1, pure2, pure3, pure4, leiF_int, liF_int, giF_int, geiF_int, addF_int, subF_int, eqEF_nil, neF_int, eqF_int, lenF_str, lenF_list, lenF_tup, wipe0, wipe1, true_and, and_true, frz_list, frz_dict, frz_tup, frz_dat, frz_no, frz_pen, tab_list, tab_dict, Nat.reduceAdd, Nat.reduceSub, ep]
    refine ⟨by rw [sx_len]; omega, ⟨by rw [sx_len]; omega, by rw [sx_len]; decide, by rw [sx_len]; omega⟩, _, tp, fun b1 => ?_, fun b1 => ?_⟩
    · have hp : ¬ p = [] := of_decide_eq_true b1
      have es : Txt.split (Sx p) (Str.ofString ".") = (addrIx p).map Sx := by
        unfold addrIx
        rw [if_neg hp, dotS]
        exact SX.split_S (List.cons_ne_nil _ _) rfl
      refine ⟨by rw [sx_len]; omega, fun y hy => split_small (by omega) hy, (pp_iff (by omega)).mpr ?_⟩
      rw [es]
      generalize addrIx p = ix at h il
      refine ⟨_, te, fun z => (nomatch z), fun _ => ?_⟩
      rcases pt_shape2 q with en | ⟨w, r, ew⟩
      · have en2 : isNone (parsePt q) = true := by rw [en]; rfl
        rw [en2, Bool.true_or, Bool.true_or, Bool.true_or, if_pos rfl] at h
        have i1 : isF (parsePt q) .none = some (.bool true) := by rw [en]; rfl
        exact ⟨_, i1, _, rfl, fun _ => ⟨fun _ => ⟨k, Nat.le_refl _, h⟩, fun z => (nomatch z)⟩, fun z => (nomatch z)⟩
      · have en2 : isNone (parsePt q) = false := by rw [ew]; rfl
        have i1 : isF (parsePt q) .none = some (.bool false) := by rw [ew]; rfl
        have i2 : atD (parsePt q) (.int 0) = some (.str w) := by rw [ew]; exact at_tup0 _ _
        have i3 : isSlotD (parsePt q) = strIs (.str w) "slot" := by rw [ew]; rfl
        rw [en2, i3, Bool.false_or] at h
        refine ⟨_, i1, _, rfl, fun z => (nomatch z), fun _ => ⟨_, i2, _, rfl, _, rfl, fun c1 => ⟨fun _ => ?_, fun z => (nomatch z)⟩, fun c1 => ?_⟩⟩
        · rw [show strIs (.str w) "slot" = true from c1, Bool.true_or, Bool.true_or, if_pos rfl] at h
          exact ⟨k, Nat.le_refl _, h⟩
        rw [show strIs (.str w) "slot" = false from c1, Bool.false_or] at h
        rw [List.length_map, List.length_map]
        refine ⟨fun c2 => ?_, fun c2 => ?_⟩
        · have c3 := of_decide_eq_true c2
          rw [decide_eq_true (show 200 < ix.length by omega), Bool.true_or, if_pos rfl] at h
          exact ⟨k, Nat.le_refl _, h⟩
        have c3 := of_decide_eq_false c2
        rw [decide_eq_false (show ¬ 200 < ix.length by omega), Bool.false_or] at h
        refine ⟨by omega, comp_pure (fun _ => true) (fun d => .bool (numbX d)) (fun d hd k T N hT hN => ?_) ?_⟩
        · rw [List.map_map] at hd
          obtain ⟨a, ha, rfl⟩ := List.mem_map.mp hd
          simp only [bodyB, env0, slA, List.map_cons, List.map_nil, List.cons_append, List.nil_append, List.length_cons, List.length_nil, List.replicate, List.getElem?_cons_zero, List.getElem?_cons_succ, List.set_cons_zero, List.set_cons_succ, Option.some.injEq, Sl.dat.injEq, Sl.own.injEq, PyData.bool.injEq, PyData.int.injEq, PyData.str.injEq, PyData.tuple.injEq, PyData.list.injEq, PyData.dict.injEq, Sl.tab.injEq, List.cons.injEq, exists_eq_left', exists_eq_left, eq_self, decide_true, if_true, reduceIte, Int.reduceLE, pure1, pure2, pure3, pure4, leiF_int, liF_int, giF_int, geiF_int, addF_int, subF_int, eqEF_nil, neF_int, eqF_int, lenF_str, lenF_list, lenF_tup, wipe0, wipe1, true_and, and_true, frz_list, frz_dict, frz_tup, frz_dat, frz_no, frz_pen, tab_list, tab_dict, Nat.reduceAdd, Nat.reduceSub]
          exact ⟨fun _ => ⟨_, rfl, hT rfl⟩, fun q => nomatch q⟩
        rw [filter_yes, List.nil_append]
        have ea : (((ix.map Sx).map PyData.str).all numbX) = ix.all numbB := by
          rw [List.all_map, List.all_map]
          rfl
        refine ⟨_, by rw [allF_map, ea], _, rfl, fun b3 => ?_, fun b3 => ?_⟩
        · rw [b3, if_pos rfl] at h
          exact ⟨k, Nat.le_refl _, h⟩
        have b4 : ix.all numbB = true := by simpa using b3
        rw [b3, if_neg (fun z => Bool.noConfusion z)] at h
        refine ⟨by omega, comp_pure (fun _ => true) valX (fun d hd k T N hT hN => ?_) ?_⟩
        · rw [List.map_map] at hd
          obtain ⟨a, ha, rfl⟩ := List.mem_map.mp hd
          simp only [bodyB, env0, slA, List.map_cons, List.map_nil, List.cons_append, List.nil_append, List.length_cons, List.length_nil, List.replicate, List.getElem?_cons_zero, List.getElem?_cons_succ, List.set_cons_zero, List.set_cons_succ, Option.some.injEq, Sl.dat.injEq, Sl.own.injEq, PyData.bool.injEq, PyData.int.injEq, PyData.str.injEq, PyData.tuple.injEq, PyData.list.injEq, PyData.dict.injEq, Sl.tab.injEq, List.cons.injEq, exists_eq_left', exists_eq_left, eq_self, decide_true, if_true, reduceIte, Int.reduceLE, pure1, pure2, pure3, pure4, leiF_int, liF_int, giF_int, geiF_int, addF_int, subF_int, eqEF_nil, neF_int, eqF_int, lenF_str, lenF_list, lenF_tup, wipe0, wipe1, true_and, and_true, frz_list, frz_dict, frz_tup, frz_dat, frz_no, frz_pen, tab_list, tab_dict, Nat.reduceAdd, Nat.reduceSub]
          exact ⟨fun _ => ⟨_, numb_int (List.all_eq_true.mp b4 a ha), hT rfl⟩, fun q => nomatch q⟩
        rw [filter_yes, List.nil_append]
        have ev : ((ix.map Sx).map PyData.str).map valX = ix.map valI := by
          rw [List.map_map, List.map_map]
          rfl
        rw [ev]
        exact ⟨_, rfl, by decide, k, Nat.le_refl _, h⟩
    · have hp : p = [] := by
        have := of_decide_eq_false b1
        simpa using this
      have es : addrIx p = [] := by rw [hp]; rfl
      refine ⟨by decide, (pp_iff (by omega)).mpr ?_⟩
      rw [es] at h
      have h0 : (decide (200 < ([] : List (List Nat)).length) || !([] : List (List Nat)).all numbB) = false := rfl
      rw [Bool.or_assoc, h0, Bool.or_false] at h
      refine ⟨_, te, fun z => (nomatch z), fun _ => ?_⟩
      rcases pt_shape2 q with en | ⟨w, r, ew⟩
      · have en2 : isNone (parsePt q) = true := by rw [en]; rfl
        rw [en2, Bool.true_or, if_pos rfl] at h
        have i1 : isF (parsePt q) .none = some (.bool true) := by rw [en]; rfl
        exact ⟨_, i1, _, rfl, fun _ => ⟨fun _ => ⟨k, Nat.le_refl _, h⟩, fun z => (nomatch z)⟩, fun z => (nomatch z)⟩
      · have en2 : isNone (parsePt q) = false := by rw [ew]; rfl
        have i1 : isF (parsePt q) .none = some (.bool false) := by rw [ew]; rfl
        have i2 : atD (parsePt q) (.int 0) = some (.str w) := by rw [ew]; exact at_tup0 _ _
        have i3 : isSlotD (parsePt q) = strIs (.str w) "slot" := by rw [ew]; rfl
        rw [en2, i3, Bool.false_or] at h
        refine ⟨_, i1, _, rfl, fun z => (nomatch z), fun _ => ⟨_, i2, _, rfl, _, rfl, fun c1 => ⟨fun _ => ?_, fun z => (nomatch z)⟩, fun c1 => ?_⟩⟩
        · rw [show strIs (.str w) "slot" = true from c1, if_pos rfl] at h
          exact ⟨k, Nat.le_refl _, h⟩
        rw [show strIs (.str w) "slot" = false from c1, if_neg (fun z => Bool.noConfusion z)] at h
        exact ⟨fun c2 => (nomatch c2), fun _ => ⟨by decide, _, rfl, _, rfl, fun z => (nomatch z), fun _ => ⟨by decide, _, rfl, by decide, k, Nat.le_refl _, h⟩⟩⟩
end
end SM

set_option Elab.async false
set_option linter.all false
set_option maxRecDepth 100000
set_option maxHeartbeats 4000000
namespace SM
open PySem PySem.Spec PyProof.Rows L2
section
variable [PW] {K : PySem.W.Frag} {mg : Str → Option Value} {base : Heap} {kt : Str}
/-! a number read back -/
theorem numL_head : ∀ n : Nat, 0 < n → (TL.numL n).head? ≠ some 48 := by
  intro n
  induction n using Nat.strongRecOn with
  | _ n ih =>
    intro h
    by_cases h10 : n < 10
    · rw [TL.numL_lt h10]
      intro z
      have := Option.some.inj z
      omega
    · rw [TL.numL_step (by omega)]
      have hn := TL.numL_ne (n / 10)
      cases e : TL.numL (n / 10) with
      | nil => exact absurd e hn
      | cons a r =>
        have q := ih (n / 10) (by omega) (by omega)
        rw [e] at q
        exact q
theorem numb_num {n : Nat} (h : n < lineN) : numbB (TL.numL n) = true := by
  have h1 := num_len h
  have h0 : 1 ≤ (TL.numL n).length := by
    cases e : TL.numL n with
    | nil => exact absurd e (TL.numL_ne n)
    | cons a r => rw [List.length_cons]; omega
  have hd : digits (TL.numL n) = true := List.all_eq_true.mpr fun c hc => by
    have q := TL.numL_digits n c hc
    unfold digC
    simp only [Bool.and_eq_true, decide_eq_true_eq]
    exact q
  have hh : (!((TL.numL n).head? == some 48) || TL.numL n == [48]) = true := by
    rcases Nat.eq_zero_or_pos n with z | z
    · rw [z]
      decide
    · have q := numL_head n z
      rw [beq_eq_false_iff_ne.mpr q]
      rfl
  unfold numbB
  rw [decide_eq_true h0, decide_eq_true h1, hh, hd] <;> rfl
theorem val_num (n : Nat) : valI (TL.numL n) = .int (n : Nat) := by
  unfold valI
  rw [TL.numL_val]
theorem spl_num (n : Nat) : TL.spl [46] 0 [] (TL.numL n) = [TL.numL n] := TL.spl_last1 (TL.numL_free (by omega))
/-- a point read back -/
theorem parse_point {p : PyData} (h : ptT p) : parsePt (pointL p) = p := by
  rcases h with ⟨n, hn, rfl | rfl⟩ | ⟨s, i, hs, hi, rfl⟩
  · have e : parsePt (110 :: TL.numL n) = .tuple [.str "node", .int (n : Nat)] := by
      unfold parsePt
      show (if (TL.spl [46] 0 [] (TL.numL n)).all numbB = true then (match [110], TL.spl [46] 0 [] (TL.numL n) with
        | [115], [a, b] => PyData.tuple [.str "slot", valI a, valI b]
        | [110], [a] => .tuple [.str "node", valI a]
        | [112], [a] => .tuple [.str "port", valI a]
        | _, _ => .none) else .none) = _
      rw [spl_num, if_pos (by rw [List.all_cons, numb_num hn] <;> rfl)]
      show PyData.tuple [.str "node", valI (TL.numL n)] = _
      rw [val_num]
    exact e
  · have e : parsePt (112 :: TL.numL n) = .tuple [.str "port", .int (n : Nat)] := by
      unfold parsePt
      show (if (TL.spl [46] 0 [] (TL.numL n)).all numbB = true then (match [112], TL.spl [46] 0 [] (TL.numL n) with
        | [115], [a, b] => PyData.tuple [.str "slot", valI a, valI b]
        | [110], [a] => .tuple [.str "node", valI a]
        | [112], [a] => .tuple [.str "port", valI a]
        | _, _ => .none) else .none) = _
      rw [spl_num, if_pos (by rw [List.all_cons, numb_num hn] <;> rfl)]
      show PyData.tuple [.str "port", valI (TL.numL n)] = _
      rw [val_num]
    exact e
  · have e0 : TL.spl [46] 0 [] (TL.numL s ++ 46 :: TL.numL i) = [TL.numL s, TL.numL i] := TL.spl_join (s := 46) (S := []) (parts := [TL.numL s, TL.numL i]) (List.cons_ne_nil _ _) fun p hp => by
      simp only [List.mem_cons, List.mem_nil_iff, or_false] at hp
      rcases hp with rfl | rfl
      · exact TL.numL_free (by omega)
      · exact TL.numL_free (by omega)
    have e : parsePt (115 :: (TL.numL s ++ 46 :: TL.numL i)) = .tuple [.str "slot", .int (s : Nat), .int (i : Nat)] := by
      unfold parsePt
      show (if (TL.spl [46] 0 [] (TL.numL s ++ 46 :: TL.numL i)).all numbB = true then (match [115], TL.spl [46] 0 [] (TL.numL s ++ 46 :: TL.numL i) with
        | [115], [a, b] => PyData.tuple [.str "slot", valI a, valI b]
        | [110], [a] => .tuple [.str "node", valI a]
        | [112], [a] => .tuple [.str "port", valI a]
        | _, _ => .none) else .none) = _
      rw [e0, if_pos (by rw [List.all_cons, List.all_cons, numb_num hs, numb_num hi] <;> rfl)]
      show PyData.tuple [.str "slot", valI (TL.numL s), valI (TL.numL i)] = _
      rw [val_num, val_num]
    exact e
theorem addr_free {as : List Nat} : 47 ∉ addrL as := by
  have go : ∀ ps : List (List Nat), (∀ p, p ∈ ps → 47 ∉ p) → 47 ∉ TL.joinL [46] ps := fun ps => by
    induction ps with
    | nil => intro _ z; cases z
    | cons p r ih =>
      intro h z
      have h1 := h p List.mem_cons_self
      have h2 := ih fun x hx => h x (List.mem_cons_of_mem _ hx)
      cases r with
      | nil => exact h1 z
      | cons q r =>
        have z : 47 ∈ p ++ ([46] ++ TL.joinL [46] (q :: r)) := z
        rcases List.mem_append.mp z with w | w
        · exact h1 w
        · rcases List.mem_append.mp w with v | v
          · simp at v
          · exact h2 v
  exact go _ fun p hp => by
    obtain ⟨n, _, rfl⟩ := List.mem_map.mp hp
    exact TL.numL_free (by omega)
theorem addr_ix (as : List Nat) : addrIx (addrL as) = as.map TL.numL := by
  cases as with
  | nil => rfl
  | cons n r =>
    have hne : ¬ addrL (n :: r) = [] := fun z => by
      have e : TL.numL n ≠ [] := TL.numL_ne n
      cases r with
      | nil => exact e z
      | cons m r =>
        have z : TL.numL n ++ ([46] ++ TL.joinL [46] ((m :: r).map TL.numL)) = [] := z
        exact e (List.append_eq_nil_iff.mp z).1
    unfold addrIx
    rw [if_neg hne]
    exact TL.spl_join (s := 46) (S := []) (List.cons_ne_nil _ _) fun p hp => by
      obtain ⟨n, _, rfl⟩ := List.mem_map.mp hp
      exact TL.numL_free (by omega)
/-- a place read back -/
theorem parse_place_back {p : PyData} (h : plT p) : parsePl (placeL p) = p := by
  obtain ⟨as, q, rfl, l1, l2, n, hn, hq⟩ := h
  have hp := pt_of hn hq
  have e0 : TL.par [47] [] (addrL as ++ [47] ++ pointL q) = some (addrL as, pointL q) := by
    rw [List.append_assoc]
    exact SX.par_head (sep := []) (pointL q) addr_free
  have e1 : isNone q = false := by rcases hq with rfl | rfl <;> rfl
  have e2 : isSlotD q = false := by rcases hq with rfl | rfl <;> rfl
  rw [place_eq]
  unfold parsePl
  rw [e0]
  show (if isNone (parsePt (pointL q)) || isSlotD (parsePt (pointL q)) || decide (200 < (addrIx (addrL as)).length) || !(addrIx (addrL as)).all numbB then PyData.none else .tuple [.tuple ((addrIx (addrL as)).map valI), parsePt (pointL q)]) = _
  have e3 : (as.map TL.numL).all numbB = true := List.all_eq_true.mpr fun p hp => by
    obtain ⟨m, hm, rfl⟩ := List.mem_map.mp hp
    exact numb_num (l2 m hm)
  have e4 : (as.map TL.numL).map valI = intsD as := by
    rw [List.map_map]
    exact List.map_congr_left fun m _ => val_num m
  rw [parse_point hp, addr_ix, e1, e2, e3, e4, List.length_map, decide_eq_false (show ¬ 200 < as.length by omega)]
  rfl

/-! ### the way back: what was read is the text -/
theorem pre_one {c d : Nat} {r : List Nat} : TL.pre [c] (d :: r) = true ↔ d = c := by
  constructor
  · intro h
    have e : (d :: r).take 1 = [c] := eq_of_beq h
    rw [List.take_succ_cons, List.take_zero] at e
    exact (List.cons.inj e).1
  · rintro rfl
    exact beq_self_eq_true [d]
theorem spl_ne {c : Nat} : ∀ (l acc : List Nat), TL.spl [c] 0 acc l ≠ []
  | [], acc => by rw [TL.spl_nil]; exact List.cons_ne_nil _ _
  | d :: r, acc => by
    cases e : TL.pre [c] (d :: r) with
    | true => rw [TL.spl_hit e]; exact List.cons_ne_nil _ _
    | false => rw [TL.spl_miss e]; exact spl_ne r _
theorem join_spl {c : Nat} : ∀ (l acc : List Nat), TL.joinL [c] (TL.spl [c] 0 acc l) = acc ++ l
  | [], acc => by
    rw [TL.spl_nil, List.append_nil]
    rfl
  | d :: r, acc => by
    cases e : TL.pre [c] (d :: r) with
    | true =>
      rw [TL.spl_hit e, pre_one.mp e]
      have ih := join_spl r (c := c) []
      have e0 : TL.spl [c] ([c].length - 1) [] r = TL.spl [c] 0 [] r := rfl
      rw [e0]
      cases q : TL.spl [c] 0 [] r with
      | nil => exact absurd q (spl_ne r [])
      | cons a b =>
        rw [q] at ih
        show acc ++ ([c] ++ TL.joinL [c] (a :: b)) = _
        rw [ih] <;> rfl
    | false =>
      rw [TL.spl_miss e, join_spl r, List.append_assoc] <;> rfl
theorem spl_free1 {c : Nat} : ∀ (l acc : List Nat), c ∉ acc → ∀ p, p ∈ TL.spl [c] 0 acc l → c ∉ p
  | [], acc, h, p, hp => by
    rw [TL.spl_nil] at hp
    rw [List.mem_singleton.mp hp]
    exact h
  | d :: r, acc, h, p, hp => by
    cases e : TL.pre [c] (d :: r) with
    | true =>
      rw [TL.spl_hit e] at hp
      rcases List.mem_cons.mp hp with q | q
      · rw [q]; exact h
      · exact spl_free1 r [] (fun z => nomatch z) p q
    | false =>
      rw [TL.spl_miss e] at hp
      refine spl_free1 r (acc ++ [d]) (fun z => ?_) p hp
      rcases List.mem_append.mp z with q | q
      · exact h q
      · have z2 : c = d := List.mem_singleton.mp q
        rw [pre_one.mpr z2.symm] at e
        cases e
theorem spl_mem {c : Nat} : ∀ (l acc : List Nat) (p : List Nat), p ∈ TL.spl [c] 0 acc l → ∀ x, x ∈ p → x ∈ acc ∨ x ∈ l
  | [], acc, p, hp, x, hx => by
    rw [TL.spl_nil] at hp
    rw [List.mem_singleton.mp hp] at hx
    exact .inl hx
  | d :: r, acc, p, hp, x, hx => by
    cases e : TL.pre [c] (d :: r) with
    | true =>
      rw [TL.spl_hit e] at hp
      rcases List.mem_cons.mp hp with q | q
      · rw [q] at hx; exact .inl hx
      · rcases spl_mem r [] p q x hx with z | z
        · cases z
        · exact .inr (List.mem_cons_of_mem _ z)
    | false =>
      rw [TL.spl_miss e] at hp
      rcases spl_mem r (acc ++ [d]) p hp x hx with z | z
      · rcases List.mem_append.mp z with w | w
        · exact .inl w
        · rw [List.mem_singleton.mp w]; exact .inr List.mem_cons_self
      · exact .inr (List.mem_cons_of_mem _ z)
theorem par_back {c : Nat} : ∀ (l acc : List Nat) {p q : List Nat}, TL.par [c] acc l = some (p, q) → acc ++ l = p ++ [c] ++ q
  | [], acc, p, q, h => nomatch h
  | d :: r, acc, p, q, h => by
    cases e : TL.pre [c] (d :: r) with
    | true =>
      rw [TL.par_hit e] at h
      cases h
      rw [pre_one.mp e]
      simp
    | false =>
      rw [TL.par_miss e] at h
      rw [← par_back r (acc ++ [d]) h, List.append_assoc] <;> rfl
theorem val_snoc (b : List Nat) (d : Nat) : PySem.NumText.digitsVal (b ++ [d]) = PySem.NumText.digitsVal b * 10 + (d - 48) := by
  unfold PySem.NumText.digitsVal
  rw [List.foldl_append] <;> rfl
theorem val_pos : ∀ (n : Nat) (b : List Nat), b.length = n → b ≠ [] → b.head? ≠ some 48 → digits b = true → 1 ≤ PySem.NumText.digitsVal b := fun n => by
  induction n with
  | zero => intro b hl hn; exact absurd (List.eq_nil_of_length_eq_zero hl) hn
  | succ n ih =>
    intro b hl hn hh hd
    rcases List.eq_nil_or_concat b with e | ⟨ini, c, e⟩
    · exact absurd e hn
    rw [List.concat_eq_append] at e
    subst e
    rw [val_snoc]
    have hd2 := List.all_eq_true.mp hd
    by_cases hi : ini = []
    · subst hi
      have hc := hd2 c (by simp)
      simp only [digC, Bool.and_eq_true, decide_eq_true_eq] at hc
      have : c ≠ 48 := fun z => hh (by rw [z]; rfl)
      omega
    · have q := ih ini (by simpa using hl) hi (fun z => hh (by
        cases ini with
        | nil => exact absurd rfl hi
        | cons a r => exact z)) (List.all_eq_true.mpr fun x hx => hd2 x (List.mem_append_left _ hx))
      omega
theorem num_of_val : ∀ (n : Nat) (b : List Nat), b.length = n → b ≠ [] → (b.head? ≠ some 48 ∨ b.length = 1) → digits b = true → TL.numL (PySem.NumText.digitsVal b) = b := fun n => by
  induction n with
  | zero => intro b hl hn; exact absurd (List.eq_nil_of_length_eq_zero hl) hn
  | succ n ih =>
    intro b hl hn hh hd
    rcases List.eq_nil_or_concat b with e | ⟨ini, c, e⟩
    · exact absurd e hn
    rw [List.concat_eq_append] at e
    subst e
    rw [val_snoc]
    have hd2 := List.all_eq_true.mp hd
    have hc := hd2 c (by simp)
    simp only [digC, Bool.and_eq_true, decide_eq_true_eq] at hc
    by_cases hi : ini = []
    · subst hi
      have e : PySem.NumText.digitsVal [] * 10 + (c - 48) = c - 48 := by
        show 0 * 10 + (c - 48) = c - 48
        omega
      rw [e, TL.numL_lt (by omega), show 48 + (c - 48) = c by omega] <;> rfl
    · have hh2 : ini.head? ≠ some 48 := fun z => by
        rcases hh with hh | hh
        · exact hh (by
            cases ini with
            | nil => exact absurd rfl hi
            | cons a r => exact z)
        · rw [List.length_append, List.length_singleton] at hh
          exact hi (List.eq_nil_of_length_eq_zero (by omega))
      have hdi : digits ini = true := List.all_eq_true.mpr fun x hx => hd2 x (List.mem_append_left _ hx)
      have q := ih ini (by simpa using hl) hi (.inl hh2) hdi
      have p := val_pos _ ini rfl hi hh2 hdi
      rw [TL.numL_step (by omega), show (PySem.NumText.digitsVal ini * 10 + (c - 48)) / 10 = PySem.NumText.digitsVal ini by omega, show (PySem.NumText.digitsVal ini * 10 + (c - 48)) % 10 = c - 48 by omega, q, show 48 + (c - 48) = c by omega]
theorem val_lt : ∀ (n : Nat) (b : List Nat), b.length = n → digits b = true → PySem.NumText.digitsVal b < 10 ^ n := fun n => by
  induction n with
  | zero => intro b hl _; rw [List.eq_nil_of_length_eq_zero hl]; decide
  | succ n ih =>
    intro b hl hd
    rcases List.eq_nil_or_concat b with e | ⟨ini, c, e⟩
    · rw [e] at hl; cases hl
    rw [List.concat_eq_append] at e
    subst e
    rw [val_snoc]
    have hd2 := List.all_eq_true.mp hd
    have hc := hd2 c (by simp)
    simp only [digC, Bool.and_eq_true, decide_eq_true_eq] at hc
    have q := ih ini (by simpa using hl) (List.all_eq_true.mpr fun x hx => hd2 x (List.mem_append_left _ hx))
    rw [Nat.pow_succ]
    omega
theorem numb_back {a : List Nat} (h : numbB a = true) : TL.numL (PySem.NumText.digitsVal a) = a ∧ PySem.NumText.digitsVal a < lineN := by
  unfold numbB at h
  simp only [Bool.and_eq_true, decide_eq_true_eq, Bool.or_eq_true, Bool.not_eq_true', beq_iff_eq, beq_eq_false_iff_ne] at h
  obtain ⟨⟨⟨h1, h2⟩, h3⟩, h4⟩ := h
  have hn : a ≠ [] := fun z => by rw [z] at h1; simp at h1
  refine ⟨num_of_val _ a rfl hn ?_ h4, Nat.lt_of_lt_of_le (val_lt _ a rfl h4) (Nat.pow_le_pow_right (by decide) h2)⟩
  rcases h3 with h3 | h3
  · exact .inl h3
  · exact .inr (by rw [h3] <;> rfl)
theorem numT_back {a : List Nat} (h : numbB a = true) : numT (valI a) = a := by
  show TL.numL ((PySem.NumText.digitsVal a : Nat) : Int).toNat = a
  rw [Int.toNat_natCast]
  exact (numb_back h).1
/-- a point that was read is written so -/
theorem point_back {q : List Nat} (h : isNone (parsePt q) = false) : ptT (parsePt q) ∧ pointL (parsePt q) = q := by
  have hP : parsePt q = if (TL.spl [46] 0 [] (q.drop 1)).all numbB = true then (match q.take 1, TL.spl [46] 0 [] (q.drop 1) with
    | [115], [a, b] => .tuple [.str "slot", valI a, valI b]
    | [110], [a] => .tuple [.str "node", valI a]
    | [112], [a] => .tuple [.str "port", valI a]
    | _, _ => .none) else .none := rfl
  have hj := join_spl (c := 46) (q.drop 1) []
  rw [List.nil_append] at hj
  have hq : q.take 1 ++ q.drop 1 = q := List.take_append_drop 1 q
  rw [hP] at h ⊢
  generalize TL.spl [46] 0 [] (q.drop 1) = ix at h hj ⊢
  generalize q.take 1 = x at h hq ⊢
  generalize q.drop 1 = y at hj hq
  split at h
  · rename_i hall
    rw [if_pos hall]
    split at h
    · rename_i a b
      have na : numbB a = true ∧ numbB b = true := by simpa using hall
      refine ⟨.inr ⟨_, _, (numb_back na.1).2, (numb_back na.2).2, rfl⟩, ?_⟩
      show 115 :: (numT (valI a) ++ 46 :: numT (valI b)) = q
      rw [numT_back na.1, numT_back na.2, ← hq, ← hj] <;> rfl
    · rename_i a
      have na : numbB a = true := by simpa using hall
      refine ⟨.inl ⟨_, (numb_back na).2, .inl rfl⟩, ?_⟩
      show 110 :: numT (valI a) = q
      rw [numT_back na, ← hq, ← hj] <;> rfl
    · rename_i a
      have na : numbB a = true := by simpa using hall
      refine ⟨.inl ⟨_, (numb_back na).2, .inr rfl⟩, ?_⟩
      show 112 :: numT (valI a) = q
      rw [numT_back na, ← hq, ← hj] <;> rfl
    · cases h
  · cases h
/-- a place that was read is written so -/
theorem place_back {l : List Nat} (h : isNone (parsePl l) = false) : plT (parsePl l) ∧ placeL (parsePl l) = l := by
  cases hpar : TL.par [47] [] l with
  | none =>
    have e : parsePl l = .none := by
      unfold parsePl
      rw [hpar]
    rw [e] at h
    cases h
  | some pq =>
    obtain ⟨p, q⟩ := pq
    have hb := par_back l [] hpar
    rw [List.nil_append] at hb
    have e : parsePl l = if isNone (parsePt q) || isSlotD (parsePt q) || decide (200 < (addrIx p).length) || !(addrIx p).all numbB then .none else .tuple [.tuple ((addrIx p).map valI), parsePt q] := by
      unfold parsePl
      rw [hpar]
    rw [e] at h ⊢
    split at h
    · cases h
    · rename_i hc
      rw [if_neg hc]
      simp only [Bool.or_eq_true, not_or, decide_eq_true_eq, Bool.not_eq_true', Bool.not_eq_true, Bool.not_eq_false] at hc
      obtain ⟨⟨⟨c1, c2⟩, c3⟩, c4⟩ := hc
      obtain ⟨g1, g2⟩ := point_back c1
      have hall := List.all_eq_true.mp c4
      have em : (addrIx p).map valI = intsD ((addrIx p).map PySem.NumText.digitsVal) := by
        unfold intsD
        rw [List.map_map] <;> rfl
      have hnode : ∃ n : Nat, n < lineN ∧ (parsePt q = .tuple [.str "node", .int n] ∨ parsePt q = .tuple [.str "port", .int n]) := by
        rcases g1 with g1 | ⟨s, i, _, _, eq⟩
        · exact g1
        · rw [eq] at c2
          cases c2
      refine ⟨⟨(addrIx p).map PySem.NumText.digitsVal, parsePt q, by rw [em], by rw [List.length_map]; omega, fun n hn => ?_, hnode⟩, ?_⟩
      · obtain ⟨a, ha, rfl⟩ := List.mem_map.mp hn
        exact (numb_back (hall a ha)).2
      · rw [em, place_eq, g2, hb]
        congr 2
        unfold addrL
        rw [List.map_map]
        have e2 : (addrIx p).map (TL.numL ∘ PySem.NumText.digitsVal) = addrIx p := by
          conv => rhs; rw [← List.map_id (addrIx p)]
          exact List.map_congr_left fun a ha => (numb_back (hall a ha)).1
        rw [e2]
        unfold addrIx
        split
        · rename_i z
          rw [z] <;> rfl
        · exact join_spl p []
end
end SM

set_option Elab.async false
set_option linter.all false
set_option maxRecDepth 100000
set_option maxHeartbeats 4000000
namespace SM
open PySem PySem.Spec PyProof.Rows L2
section
variable [PW] {K : PySem.W.Frag} {mg : Str → Option Value} {base : Heap} {kt : Str}
theorem isf_any (x : PyData) : isF x .none = some (.bool (isNone x)) := rfl
theorem isn_any (x : PyData) : isnF x .none = some (.bool (!isNone x)) := rfl
theorem pla_iff {l : List Nat} {k : Nat} {R : PyData → Nat → Prop} (hl : l.length ≤ 100000) : plaS [some (.str (Sx l))] k R ↔ R (parsePl l) k := by
  constructor
  · rintro ⟨l', e, _, h⟩
    have e2 : Sx l = Sx l' := by
      have := List.cons.inj e
      have q := Option.some.inj this.1
      exact PyData.str.inj q
    rw [sx_inj e2]
    exact h
  · exact fun h => ⟨l, rfl, hl, h⟩
abbrev s_parse_place : Stmt := topS 37
theorem sc_parse_place : FnScope ["text", "place"] ["text"] (defScope s_parse_place) := ⟨rfl, rfl, rfl, by decide +kernel, rfl, by decide +kernel, by decide +kernel⟩

def pplV : PyData → PyData
  | .str z => parsePl z.cps.toList
  | _ => .none
def pplX (C : Addr) : SPX := fun qs k R RX => ∃ v, qs = [some v] ∧ (∀ z, v = .str z → z.length ≤ 100000) ∧ (isNone (pplV v) = true → RX ⟨C, some ("line", .int 0)⟩ k) ∧ (isNone (pplV v) = false → R (pplV v) k)
abbrev O_parse_place (K : PySem.W.Frag) (mg : Str → Option Value) (base : Heap) (kt : Str) : Prop := Ok PW.prog PW.world K mg base (L2.CX PW.prog PW.world) "parse_place" ["text"] 4 (liftX K kt 1 (pplX (clsA mg "BadText")))
theorem ok_parse_place (T : Txt K mg) (RB : RaisesI PW.prog PW.world K mg base "BadText" (clsA mg "BadText") "line") (D : Def K mg "parse_place" s_parse_place ["text"]) (O1 : O_parsed_place K mg base kt) : O_parse_place K mg base kt := by
  obtain ⟨f_parsed_place, fd_parsed_place, G_parsed_place, g_parsed_place, k_parsed_place, b_parsed_place⟩ := O1
  obtain ⟨fI_BadText, fd_BadText, ps_BadText, T_BadText, I_BadText, B_BadText⟩ := RB.ex
  refine D.okX sc_parse_place rfl fun f cdv A outer s H E hr hq => ⟨_, _, (pss_cons (ps_set (i := 1) sc_parse_place.nd rfl (Or.inl rfl) (pe_ifExp (pt_val (pe_callB call_isi (by rfl) T.b_isinstance (by decide +kernel) (pa_cons (pv 0) (pa_cons (pe_bltn (v := .ty "str") (by rfl) T.b_str (by decide +kernel) rfl) pa_nil)))) (pe_callG G_parsed_place (hr.mono (by omega)) hq (by rfl) g_parsed_place k_parsed_place b_parsed_place pass0 (pa_cons (pv 0) pa_nil)) pe_non))
      (pss_cons (ps_if (pt_cmpR op_isN (pv 1) pe_non (nomark _)) (pss_one (ps_raise1 T_BadText I_BadText B_BadText (hr.mono (by omega)) (by rfl) (pa_cons pe_int pa_nil))) pss_nil)
      (pss_one (ps_ret (pv 1))))), (as_seq (as_set 1 (ab_if (at_B (ab_isi is_str (ab_var 0))) (ab_call (ap_cons (ab_var 0) ap_nil)) ab_non))
      (as_seq (as_if (at_test (ab_op oa_isN (ab_var 1) ab_non)) (as_raise1 (ab_int _)) as_nil)
      (as_ret (ab_var 1)))), fun qs k R RX hl h => ?_⟩
  obtain ⟨v, rfl, hlen, h1, h2⟩ := h
  have no : isNone (pplV v) = true → ∃ k', k' ≤ k ∧ RX ⟨clsA mg "BadText", some ("line", .int 0)⟩ k' := fun z => ⟨k, Nat.le_refl _, h1 z⟩
  simp only [bodyB, env0, slA, List.map_cons, List.map_nil, List.cons_append, List.nil_append, List.length_cons, List.length_nil, List.replicate, List.getElem?_cons_zero, List.getElem?_cons_succ, List.set_cons_zero, List.set_cons_succ, Option.some.injEq, Sl.dat.injEq, Sl.own.injEq, PyData.bool.injEq, PyData.int.injEq, PyData.str.injEq, PyData.tuple.injEq, PyData.list.injEq, PyData.dict.injEq, Sl.tab.injEq, List.cons.injEq, exists_eq_left', exists_eq_left, eq_self, decide_true, if_true, reduceIte, Int.reduceLE, pure1, pure2, pure3, pure4, leiF_int, liF_int, giF_int, geiF_int, addF_int, subF_int, eqEF_nil, neF_int, eqF_int, lenF_str, lenF_list, lenF_tup, wipe0, wipe1, true_and, and_true, frz_list, frz_dict, frz_tup, frz_dat, frz_no, frz_pen, tab_list, tab_dict, Nat.reduceAdd, Nat.reduceSub, bodyX, isf_any]
  refine ⟨fun c1 => ?_, fun c1 => ?_⟩
  · cases v <;> first | (cases c1; done) | skip
    rename_i z
    have ez : z = Sx z.cps.toList := sx_of z
    have hz := hlen z rfl
    have hzl : z.cps.toList.length ≤ 100000 := by rw [← sx_len, ← ez]; exact hz
    have pi : ∀ (k : Nat) (R : PyData → Nat → Prop), plaS [some (.str z)] k R ↔ R (parsePl z.cps.toList) k := fun k R => by
      conv => lhs; rw [ez]
      exact pla_iff hzl
    rw [pi]
    exact ⟨fun q => no q, fun q => ⟨k, Nat.le_refl _, h2 q⟩⟩
  · have e : pplV v = .none := by
      cases v <;> first | rfl | (cases c1; done)
    exact ⟨fun _ => no (by rw [e]; rfl), fun q => nomatch q⟩
end
end SM

set_option Elab.async false
set_option linter.all false
set_option maxRecDepth 100000
set_option maxHeartbeats 4000000
namespace SM
open PySem PySem.Spec PyProof.Rows L2
section
variable [PW] {K : PySem.W.Frag} {mg : Str → Option Value} {base : Heap} {kt : Str}
def numIn (l : List Nat) : PyData := if numbB l = true then valI l else .none
def numInS : SP := fun qs k R => ∃ l, qs = [some (.str (Sx l))] ∧ l.length ≤ 100000 ∧ R (numIn l) k
abbrev s_number_in : Stmt := topS 51
theorem sc_number_in : FnScope ["word", "sign"] ["word"] (defScope s_number_in) := ⟨rfl, rfl, rfl, by decide +kernel, rfl, by decide +kernel, by decide +kernel⟩

abbrev O_number_in (K : PySem.W.Frag) (mg : Str → Option Value) (base : Heap) (kt : Str) : Prop := Ok PW.prog PW.world K mg base CX0 "_law_number_in" ["word"] 1 (liftS K kt 1 numInS)
theorem ok_number_in (T : Txt K mg) (D : Def K mg "_law_number_in" s_number_in ["word"]) : O_number_in K mg base kt := by
  refine D.okS sc_number_in rfl fun f cdv A outer s H E hr hq => ⟨_, _, (pss_cons (ps_if (PW.pt (pw_or (pt_not (pt_chain op_lt op_lt pe_int (pe_callB call_len (by rfl) T.b_len (by decide +kernel) (pa_cons (pv 0) pa_nil)) pe_int)) (pw_or1 (pt_cmpR (op_neE hr.units) (pe_lc (own := [("sign", 1)]) (g := gName 1) (by rfl) sc_number_in.nd (pi_str (pv 0)) (blkOk_by (own := [("sign", 1)]) (N := ["word", "sign"]) (sc := defScope s_number_in) (by decide +kernel)) (fun _ _ _ _ _ => (pg_name (i := 1) sc_number_in.nd rfl (Or.inl rfl))) (fun _ _ _ _ _ => (pts_one (pt_cmpR op_notIn_sign (pv 1) pe_str (by with_unfolding_all rfl)))) (fun _ _ _ _ _ => (pv 1))) (pe_lst pa_nil) (nomark _))))) (pss_one (ps_ret pe_non)) pss_nil)
      (pss_one (ps_ret (pe_ifExp (PW.pt (pw_and (pt_cmpR (op_eqS hr.units) (pe_ix ix_seq (pv 0) pe_int (fun _ _ => rfl)) pe_str (nomark _)) (pw_and1 (pt_cmpR (op_neP hr.units) (pv 0) pe_str (nomark _))))) pe_non (pe_callTy call_int_str (by rfl) T.b_int (by decide +kernel) (pa_cons (pv 0) pa_nil)))))), (as_seq (as_if (at_or (at_not (at_test (ab_chain oa_li oa_li (ab_int _) (ab_callB ca_len (ab_acons (ab_var 0) ab_anil)) (ab_int _)))) (at_test (ab_op oa_neE ((af_lc (ai_str (ab_var 0)) (ag_name 1 (by decide)) (at_test (ab_op oa_ninS (ab_var 1) (ab_str _ (by decide +kernel)))) (ab_var 1))).ab (af_lst ab_anil).ab))) (as_ret ab_non) as_nil)
      (as_ret (ab_if (at_and (at_test (ab_op oa_eqS (ab_op oa_ix (ab_var 0) (ab_int _)) (ab_str _ (by decide +kernel)))) (at_test (ab_op oa_neP (ab_var 0) (ab_str _ (by decide +kernel))))) ab_non (ab_callB ca_intS (ab_acons (ab_var 0) ab_anil))))), fun qs k R hl h => ?_⟩
  obtain ⟨l, rfl, hl1, h⟩ := h
  have no : numbB l = false → ∃ k', k' ≤ k ∧ R .none k' := fun z => ⟨k, Nat.le_refl _, by
    unfold numIn at h
    rw [if_neg (by rw [z]; exact Bool.false_ne_true)] at h
    exact h⟩
  have yes : numbB l = true → ∃ c, intSF [PyData.str (Sx l)] = some c ∧ ∃ k', k' ≤ k ∧ R c k' := fun z => ⟨_, numb_int z, k, Nat.le_refl _, by
    unfold numIn at h
    rw [if_pos z] at h
    exact h⟩
  simp only [bodyB, env0, slA, List.map_cons, List.map_nil, List.cons_append, List.nil_append, List.length_cons, List.length_nil, List.replicate, List.getElem?_cons_zero, List.getElem?_cons_succ, List.set_cons_zero, List.set_cons_succ, Option.some.injEq, Sl.dat.injEq, Sl.own.injEq, PyData.bool.injEq, PyData.int.injEq, PyData.str.injEq, PyData.tuple.injEq, PyData.list.injEq, PyData.dict.injEq, Sl.tab.injEq, List.cons.injEq, exists_eq_left', exists_eq_left, eq_self, decide_true, if_true, reduceIte, Int.reduceLE, pure1, pure2, pure3, pure4, leiF_int, liF_int, giF_int, geiF_int, addF_int, subF_int, eqEF_nil, neF_int, eqF_int, lenF_str, lenF_list, lenF_tup, wipe0, wipe1, true_and, and_true, frz_list, frz_dict, frz_tup, frz_dat, frz_no, frz_pen, tab_list, tab_dict, Nat.reduceAdd, Nat.reduceSub, sx_len]
  refine ⟨fun b1 => ⟨fun b2 => ⟨fun _ => no ?_, fun q => nomatch q⟩, fun b2 => ?_⟩, fun b1 => ⟨fun b2 => ⟨fun _ => no ?_, fun q => nomatch q⟩, fun b2 => nomatch b2⟩⟩
  · have q : ¬ (l.length : Int) < 61 := by simpa using b2
    unfold numbB
    rw [decide_eq_false (show ¬ l.length ≤ 60 by omega), Bool.and_false, Bool.false_and, Bool.false_and]
  · have c1 : 1 ≤ l.length := by have := of_decide_eq_true b1; omega
    have c2 : l.length ≤ 60 := by
      have : (l.length : Int) < 61 := by simpa using b2
      omega
    refine ⟨by rw [List.length_map, sx_cps]; omega, comp_pure (fun d => !digB d) id (fun d hd k T N hT hN => ?_) ?_⟩
    · obtain ⟨c, hc, rfl⟩ := mem_signs hd
      have e : ninSF (.str ⟨#[c]⟩) (.str "0123456789") = some (.bool (!digB (.str ⟨#[c]⟩))) := by
        rw [ninSF_one, dig_one]
        congr 2
        rw [show (Str.ofString "0123456789").cps.toList = (List.range 10).map (48 + ·) by decide +kernel]
        unfold digC
        rw [← Bool.decide_and]
        congr 1
        rw [decide_eq_decide, List.mem_map]
        exact ⟨fun ⟨i, hi, q⟩ => by have := List.mem_range.mp hi; omega, fun ⟨h1, h2⟩ => ⟨c - 48, List.mem_range.mpr (by omega), by omega⟩⟩
      simp only [bodyB, env0, slA, List.map_cons, List.map_nil, List.cons_append, List.nil_append, List.length_cons, List.length_nil, List.replicate, List.getElem?_cons_zero, List.getElem?_cons_succ, List.set_cons_zero, List.set_cons_succ, Option.some.injEq, Sl.dat.injEq, Sl.own.injEq, PyData.bool.injEq, PyData.int.injEq, PyData.str.injEq, PyData.tuple.injEq, PyData.list.injEq, PyData.dict.injEq, Sl.tab.injEq, List.cons.injEq, exists_eq_left', exists_eq_left, eq_self, decide_true, if_true, reduceIte, Int.reduceLE, pure1, pure2, pure3, pure4, leiF_int, liF_int, giF_int, geiF_int, addF_int, subF_int, eqEF_nil, neF_int, eqF_int, lenF_str, lenF_list, lenF_tup, wipe0, wipe1, true_and, and_true, frz_list, frz_dict, frz_tup, frz_dat, frz_no, frz_pen, tab_list, tab_dict, Nat.reduceAdd, Nat.reduceSub]
      exact ⟨_, e, _, rfl, fun q => hT q, fun q => hN q⟩
    · rw [List.nil_append, List.map_id]
      have ef : ((Sx l).cps.toList.map fun c => PyData.str ⟨#[c]⟩).filter (fun d => !digB d) = [] ↔ digits l = true := by
        rw [List.filter_eq_nil_iff, ← sx_cps l, ← digs_all, sx_cps, List.all_eq_true]
        refine forall_congr' fun d => forall_congr' fun _ => ?_
        cases digB d <;> simp
      refine ⟨Nat.zero_le _, _, neEF_nil _, _, rfl, fun b3 => no ?_, fun b3 => ?_⟩
      · have dg : digits l = false := by
          cases e : digits l with
          | false => rfl
          | true =>
            rw [ef.mpr e] at b3
            cases b3
        unfold numbB
        rw [dg, Bool.and_false]
      · have dg : digits l = true := ef.mp (by simpa using b3)
        cases l with
        | nil => simp at c1
        | cons c r =>
          have fin2 : numbB (c :: r) = (!(c == 48) || (c :: r) == [48]) := by
            unfold numbB
            rw [decide_eq_true c1, decide_eq_true c2, dg, Bool.and_true, Bool.true_and, Bool.true_and]
            rfl
          have e0 : (Str.ofString "0" : Str) = Sx [48] := by decide +kernel
          have eq0 : strIs (.str (Sx [c])) "0" = (c == 48) := by
            rw [e0, is_sx]
            simp only [List.cons.injEq, and_true]
            by_cases z : c = 48
            · subst z
              rfl
            · rw [decide_eq_false z, beq_eq_false_iff_ne.mpr z]
          have ne0 : (!PyData.eqv (.str (Sx (c :: r))) (.str "0")) = !((c :: r) == [48]) := by
            rw [e0]
            rw [eqv_str, is_sx]
            by_cases z : c :: r = [48]
            · rw [decide_eq_true z, beq_iff_eq.mpr z]
            · rw [decide_eq_false z, beq_eq_false_iff_ne.mpr z]
          refine ⟨_, at_sx0 c r, _, eqSF_str _ _, _, rfl, fun a1 => ⟨_, neF_str _ _, _, rfl, fun a2 => no ?_, fun a2 => yes ?_⟩, fun a1 => ⟨fun q => (nomatch q), fun _ => yes ?_⟩⟩
          · rw [eq0] at a1
            rw [ne0] at a2
            rw [fin2, a1, Bool.not_true, Bool.false_or]
            cases e : (c :: r == [48]) with
            | false => rfl
            | true =>
              rw [e] at a2
              cases a2
          · rw [ne0] at a2
            have a3 : ((c :: r) == [48]) = true := by
              cases e : (c :: r == [48]) with
              | true => rfl
              | false =>
                rw [e] at a2
                cases a2
            rw [fin2, a3, Bool.or_true]
          · rw [eq0] at a1
            rw [fin2, a1, Bool.not_false, Bool.true_or]
  · have q : ¬ (0 : Int) < l.length := of_decide_eq_false b1
    unfold numbB
    rw [decide_eq_false (show ¬ 1 ≤ l.length by omega), Bool.false_and, Bool.false_and, Bool.false_and]
theorem ni_iff {l : List Nat} {k : Nat} {R : PyData → Nat → Prop} (hl : l.length ≤ 100000) : numInS [some (.str (Sx l))] k R ↔ R (numIn l) k := by
  constructor
  · rintro ⟨l', e, _, h⟩
    have q := PyData.str.inj (Option.some.inj (List.cons.inj e).1)
    rw [sx_inj q]
    exact h
  · exact fun h => ⟨l, rfl, hl, h⟩
end
end SM

set_option Elab.async false
set_option linter.all false
set_option maxRecDepth 100000
set_option maxHeartbeats 4000000
namespace SM
open PySem PySem.Spec PyProof.Rows L2
section
variable [PW] {K : PySem.W.Frag} {mg : Str → Option Value} {base : Heap} {kt : Str}
def kindD (x : List Nat) : PyData := if x = [110] then .str "node" else if x = [112] then .str "port" else if x = [115] then .str "slot" else .none
def lptS : SP := fun qs k R => ∃ l, qs = [some (.str (Sx l))] ∧ l.length ≤ 99990 ∧ R (parsePt l) k
theorem key_get (x : List Nat) : get1F (.dict [(.str "n", .str "node"), (.str "p", .str "port"), (.str "s", .str "slot")]) (.str (Sx x)) = some (kindD x) := by
  have ek : ∀ a : List Nat, keyEq (.str (Sx a)) (Sum.inr (Sx x)) = decide (x = a) := fun a => by
    show decide ((Sum.inr (Sx a) : Key) = Sum.inr (Sx x)) = _
    rw [decide_eq_decide]
    exact ⟨fun h => (sx_inj (Sum.inr.inj h)).symm, fun h => by rw [h]⟩
  rw [e_n, e_p, e_s]
  show some (((List.find? (fun p : PyData × PyData => keyEq p.1 (Sum.inr (Sx x))) [(.str (Sx [110]), .str "node"), (.str (Sx [112]), .str "port"), (.str (Sx [115]), .str "slot")]).map (·.2)).getD .none) = _
  rw [List.find?_cons, ek, List.find?_cons, ek, List.find?_cons, ek]
  unfold kindD
  by_cases h1 : x = [110]
  · rw [if_pos h1, decide_eq_true h1]
    rfl
  · rw [if_neg h1, decide_eq_false h1]
    by_cases h2 : x = [112]
    · rw [if_pos h2, decide_eq_true h2]
      rfl
    · rw [if_neg h2, decide_eq_false h2]
      by_cases h3 : x = [115]
      · rw [if_pos h3, decide_eq_true h3]
        rfl
      · rw [if_neg h3, decide_eq_false h3]
        rfl
theorem ni_plain (ix : List (List Nat)) : PyData.plainAll (ix.map numIn) = true ∧ ((ix.map numIn).any fun y => PyData.eqv y .none) = !(ix.all numbB) := by
  induction ix with
  | nil => exact ⟨rfl, rfl⟩
  | cons p r ih =>
    obtain ⟨h1, h2⟩ := ih
    refine ⟨?_, ?_⟩
    · show ((numIn p).plain && PyData.plainAll (r.map numIn)) = true
      rw [h1, Bool.and_true]
      unfold numIn
      split <;> rfl
    · rw [List.map_cons, List.any_cons, h2, List.all_cons]
      unfold numIn
      cases e : numbB p with
      | true => rw [if_pos rfl]; rfl
      | false => rw [if_neg Bool.false_ne_true]; rfl
theorem ni_vals {ix : List (List Nat)} (h : ix.all numbB = true) : ix.map numIn = ix.map valI := List.map_congr_left fun p hp => if_pos (List.all_eq_true.mp h p hp)
abbrev s_point_in : Stmt := topS 52
theorem sc_point_in : FnScope ["word", "numbers", "kind", "part"] ["word"] (defScope s_point_in) := ⟨rfl, rfl, rfl, by decide +kernel, rfl, by decide +kernel, by decide +kernel⟩

abbrev O_point_in (K : PySem.W.Frag) (mg : Str → Option Value) (base : Heap) (kt : Str) : Prop := Ok PW.prog PW.world K mg base CX0 "_law_point_in" ["word"] 2 (liftS K kt 1 lptS)
theorem ok_point_in (T : Txt K mg) (D : Def K mg "_law_point_in" s_point_in ["word"]) (O1 : O_number_in K mg base kt) : O_point_in K mg base kt := by
  obtain ⟨f_number_in, fd_number_in, G_number_in, g_number_in, k_number_in, b_number_in⟩ := O1
  refine D.okS sc_point_in rfl fun f cdv A outer s H E hr hq => ⟨_, _, (pss_cons (ps_setLc (i := 1) (own := [("part", 3)]) (g := gName 3) (by rfl) sc_point_in.nd rfl rfl (sw_true rfl rfl rfl (by decide +kernel)) (pi_list (pe_split (pe_slice sl_str (pv 0) (po_some pe_int) po_none) pe_str)) (blkOk_by (own := [("part", 3)]) (N := ["word", "numbers", "kind", "part"]) (sc := defScope s_point_in) (by decide +kernel)) (fun _ _ _ _ _ => (pg_name (i := 3) sc_point_in.nd rfl (Or.inl rfl))) (fun _ _ _ _ _ => pts_nil) (fun _ _ _ _ _ => (pe_callG G_number_in (hr.mono (by omega)) hq (by rfl) g_number_in k_number_in b_number_in pass0 (pa_cons (pv 3) pa_nil))))
      (pss_cons (ps_set (i := 2) sc_point_in.nd rfl (Or.inl rfl) (pe_dget1 (hu_of hr) (pe_disp (pps_cons pe_str pe_str (pps_cons pe_str pe_str (pps_cons pe_str pe_str pps_nil))) rfl rfl (fun z => nomatch z) (by decide)) (pe_slice sl_str (pv 0) po_none (po_some pe_int)) ⟨rfl, rfl, rfl, rfl⟩))
      (pss_cons (ps_if (PW.pt (pw_or (pt_cmpR op_isN (pv 2) pe_non (nomark _)) (pw_or (pt_cmpR (op_inP hr.units) pe_non (pv 1) (by with_unfolding_all rfl)) (pw_or1 (pt_cmpR (op_neP hr.units) (pe_callB call_len (by rfl) T.b_len (by decide +kernel) (pa_cons (pv 1) pa_nil)) (pe_op op_add pe_int (pe_callTy call_int1 (by rfl) T.b_int (by decide +kernel) (pa_cons (pe_cmpR (op_eqS hr.units) (pv 2) pe_str (nomark _)) pa_nil))) (nomark _)))))) (pss_one (ps_ret pe_non)) pss_nil)
      (pss_one (ps_ret (pe_op op_catA (pe_tup (pa_cons (pv 2) pa_nil)) (pe_callTy call_tuple_of (by rfl) T.b_tuple (by decide +kernel) (pa_cons (pv 1) pa_nil)))))))), (as_seq (as_set 1 (af_lc (ai_list (af_split (by decide +kernel) (ab_sl sa_str (ab_var 0) (ao_some (ab_int _)) ao_none)).ab) (ag_name 3 (by decide)) at_yes (ab_call (ap_cons (ab_var 3) ap_nil))).ab)
      (as_seq (as_set 2 (ab_dget1 (af_disp (aps_cons (ab_str _ (by decide +kernel)) (ab_str _ (by decide +kernel)) (aps_cons (ab_str _ (by decide +kernel)) (ab_str _ (by decide +kernel)) (aps_cons (ab_str _ (by decide +kernel)) (ab_str _ (by decide +kernel)) aps_nil)))).ab (ab_sl sa_str (ab_var 0) ao_none (ao_some (ab_int _)))))
      (as_seq (as_if (at_or (at_test (ab_op oa_isN (ab_var 2) ab_non)) (at_or (at_test (ab_op oa_inP ab_non (ab_var 1))) (at_test (ab_op oa_neP (ab_callB ca_len (ab_acons (ab_var 1) ab_anil)) (ab_op oa_add (ab_int _) (ab_callB ca_int (ab_acons (ab_op oa_eqS (ab_var 2) (ab_str _ (by decide +kernel))) ab_anil))))))) (as_ret ab_non) as_nil)
      (as_ret (ab_op oa_catT (ab_tup (ab_acons (ab_var 2) ab_anil)) (ab_callB ca_tuple (ab_acons (ab_var 1) ab_anil))))))), fun qs k R hl h => ?_⟩
  obtain ⟨l, rfl, hl1, h⟩ := h
  have d1 : slSF (.str (Sx l)) none (some 1) = some (.str (Sx (l.take 1))) := by
    show some (PyData.str (cutS _ _ _)) = _
    rw [show (some (1 : Int)) = some ((1 : Nat) : Int) from rfl, cut_take]
  have d2 : slSF (.str (Sx l)) (some 1) none = some (.str (Sx (l.drop 1))) := by
    show some (PyData.str (cutS _ _ _)) = _
    rw [show (some (1 : Int)) = some ((1 : Nat) : Int) from rfl, cut_drop]
  have es : Txt.split (Sx (l.drop 1)) (Sx [46]) = (TL.spl [46] 0 [] (l.drop 1)).map Sx := SX.split_S (List.cons_ne_nil _ _) rfl
  have pl : ∀ p, p ∈ TL.spl [46] 0 [] (l.drop 1) → p.length ≤ 100000 := fun p hp => by
    have q := spl_len (l.drop 1) 0 [] p hp
    rw [List.length_drop] at q
    simp at q
    omega
  have ll := spl_count (c := 46) (l.drop 1) 0 []
  rw [List.length_drop] at ll
  have l1 : 1 ≤ (TL.spl [46] 0 [] (l.drop 1)).length := by
    cases e : TL.spl [46] 0 [] (l.drop 1) with
    | nil => exact absurd e (spl_ne _ _)
    | cons a r => simp
  have xl : (l.take 1).length ≤ 1 := by rw [List.length_take]; omega
  have lne : l = [] → l.take 1 = [] := fun z => by rw [z]; rfl
  have hP : parsePt l = if (TL.spl [46] 0 [] (l.drop 1)).all numbB = true then (match l.take 1, TL.spl [46] 0 [] (l.drop 1) with
    | [115], [a, b] => .tuple [.str "slot", valI a, valI b]
    | [110], [a] => .tuple [.str "node", valI a]
    | [112], [a] => .tuple [.str "port", valI a]
    | _, _ => .none) else .none := rfl
  rw [hP] at h
  have lix : (TL.spl [46] 0 [] (l.drop 1)).length ≤ 99990 := by
    cases l with
    | nil => simp at ll; simp; omega
    | cons c r => simp only [List.length_cons] at ll hl1 ⊢; omega
  generalize TL.spl [46] 0 [] (l.drop 1) = ix at es pl ll h l1 lix
  generalize l.take 1 = x at d1 h xl
  simp only [bodyB, env0, slA, List.map_cons, List.map_nil, List.cons_append, List.nil_append, List.length_cons, List.length_nil, List.replicate, List.getElem?_cons_zero, List.getElem?_cons_succ, List.set_cons_zero, List.set_cons_succ, Option.some.injEq, Sl.dat.injEq, Sl.own.injEq, PyData.bool.injEq, PyData.int.injEq, PyData.str.injEq, PyData.tuple.injEq, PyData.list.injEq, PyData.dict.injEq, Sl.tab.injEq, List.cons.injEq, exists_eq_left', exists_eq_left, eq_self, decide_true, if_true, reduceIte, Int.reduceLE, pure1, pure2, pure3, pure4, leiF_int, liF_int, giF_int, geiF_int, addF_int, subF_int, eqEF_nil, neF_int, eqF_int, lenF_str, lenF_list, lenF_tup, wipe0, wipe1, true_and, and_true, frz_list, frz_dict, frz_tup, frz_dat, frz_no, frz_pen, tab_list, tab_dict, Nat.reduceAdd, Nat.reduceSub, d1, d2]
  refine ⟨by rw [sx_len, List.length_drop]; omega, fun y hy => ?_, ?_⟩
  · rw [dotS, es] at hy
    obtain ⟨p, hp, rfl⟩ := List.mem_map.mp hy
    rw [sx_len]
    have := pl p hp
    omega
  rw [dotS, es]
  refine ⟨by rw [List.length_map, List.length_map]; omega, comp_pure (fun _ => true) (fun d => numIn (zc d)) (fun d hd k T N hT hN => ?_) ?_⟩
  · rw [List.map_map] at hd
    obtain ⟨p, hp, rfl⟩ := List.mem_map.mp hd
    have e : zc (.str (Sx p)) = p := sx_cps p
    have q := hT rfl
    rw [show zc ((PyData.str ∘ Sx) p) = p from e] at q
    simp only [bodyB, env0, slA, List.map_cons, List.map_nil, List.cons_append, List.nil_append, List.length_cons, List.length_nil, List.replicate, List.getElem?_cons_zero, List.getElem?_cons_succ, List.set_cons_zero, List.set_cons_succ, Option.some.injEq, Sl.dat.injEq, Sl.own.injEq, PyData.bool.injEq, PyData.int.injEq, PyData.str.injEq, PyData.tuple.injEq, PyData.list.injEq, PyData.dict.injEq, Sl.tab.injEq, List.cons.injEq, exists_eq_left', exists_eq_left, eq_self, decide_true, if_true, reduceIte, Int.reduceLE, pure1, pure2, pure3, pure4, leiF_int, liF_int, giF_int, geiF_int, addF_int, subF_int, eqEF_nil, neF_int, eqF_int, lenF_str, lenF_list, lenF_tup, wipe0, wipe1, true_and, and_true, frz_list, frz_dict, frz_tup, frz_dat, frz_no, frz_pen, tab_list, tab_dict, Nat.reduceAdd, Nat.reduceSub]
    exact ⟨fun _ => ⟨p, rfl, pl p hp, q⟩, fun z => nomatch z⟩
  rw [filter_yes, List.nil_append]
  have ed : ((ix.map Sx).map PyData.str).map (fun d => numIn (zc d)) = ix.map numIn := by
    rw [List.map_map, List.map_map]
    exact List.map_congr_left fun p _ => congrArg numIn (sx_cps p)
  rw [ed]
  obtain ⟨np, na⟩ := ni_plain ix
  have i1 : isF (kindD x) .none = some (.bool (isNone (kindD x))) := rfl
  have i2 : inF .none (.list (ix.map numIn)) = some (.bool (!ix.all numbB)) := by
    rw [← na]
    exact if_pos (by rw [np]; rfl)
  refine ⟨by decide, _, rfl, ⟨_, rfl⟩, _, key_get x, _, i1, _, rfl, fun b1 => ⟨fun _ => ⟨k, Nat.le_refl _, ?_⟩, fun q => (nomatch q)⟩, fun b1 => ⟨_, i2, _, rfl, fun b2 => ⟨fun _ => ⟨k, Nat.le_refl _, ?_⟩, fun q => (nomatch q)⟩, fun b2 => ?_⟩⟩
  · have kn : ¬ x = [115] ∧ ¬ x = [110] ∧ ¬ x = [112] := by
      refine ⟨fun z => ?_, fun z => ?_, fun z => ?_⟩ <;> rw [z] at b1 <;> cases b1
    split at h
    · split at h
      · exact absurd rfl kn.1
      · exact absurd rfl kn.2.1
      · exact absurd rfl kn.2.2
      · exact h
    · exact h
  · rw [if_neg (by simpa using b2)] at h
    exact h
  · have b3 : ix.all numbB = true := by simpa using b2
    rw [if_pos b3] at h
    have lenE : lenF [.list (ix.map numIn)] = some (.int (ix.length : Nat)) := by
      show some (PyData.int ((ix.map numIn).length : Nat)) = _
      rw [List.length_map]
    have cat : ∀ w : Str, catTF (.tuple [.str w]) (.tuple (ix.map numIn)) = some (.tuple ([.str w] ++ ix.map numIn)) := fun w => if_pos (by rw [List.length_map]; simp only [List.length_cons, List.length_nil]; omega)
    have ne : ∀ m : Nat, neF (.int (ix.length : Nat)) (.int (m : Nat)) = some (.bool (!decide (ix.length = m))) := fun m => by
      rw [neF_int]
      congr 2
      rw [show decide (((ix.length : Nat) : Int) = ((m : Nat) : Int)) = decide (ix.length = m) from by rw [decide_eq_decide]; omega]
    by_cases k1 : x = [115]
    · subst k1
      have ek : kindD [115] = .str "slot" := rfl
      rw [ek]
      have q2 := ne 2
      refine ⟨_, lenE, _, rfl, _, rfl, _, rfl, _, q2, _, rfl, fun b4 => ⟨k, Nat.le_refl _, ?_⟩, fun b4 => ⟨by decide, _, rfl, _, cat _, k, Nat.le_refl _, ?_⟩⟩
      · have n2 : ¬ ix.length = 2 := by simpa using b4
        split at h
        · exact absurd rfl n2
        · exact absurd (by assumption : ([115] : List Nat) = [110]) (by decide)
        · exact absurd (by assumption : ([115] : List Nat) = [112]) (by decide)
        · exact h
      · have n2 : ix.length = 2 := by simpa using b4
        obtain ⟨a, b, rfl⟩ := two_len n2
        rw [ni_vals b3]
        exact h
    · have one : ∀ w : Str, kindD x = .str w → strIs (.str w) "slot" = false → (∃ a, ix = [a]) ∨ R .none k → (∀ a, ix = [a] → R (.tuple [.str w, valI a]) k) → ∃ c, lenF [.list (ix.map numIn)] = some c ∧ ∃ c_1, eqSF (kindD x) (.str "slot") = some c_1 ∧ ∃ c_2, intF [c_1] = some c_2 ∧ ∃ c_3, addF (.int 1) c_2 = some c_3 ∧ ∃ c_4, neF c c_3 = some c_4 ∧ ∃ b, c_4 = .bool b ∧
          (b = true → ∃ k', k' ≤ k ∧ R .none k') ∧ (b = false → 1 ≤ 100000 ∧ ∃ c_5, tupleF [.list (ix.map numIn)] = some c_5 ∧ ∃ c_6, catTF (.tuple [kindD x]) c_5 = some c_6 ∧ ∃ k', k' ≤ k ∧ R c_6 k') := fun w ew es2 f1 f2 => by
        rw [ew]
        have q1 := ne 1
        refine ⟨_, lenE, _, eqSF_str _ _, _, by rw [es2]; rfl, _, rfl, _, q1, _, rfl, fun b4 => ⟨k, Nat.le_refl _, ?_⟩, fun b4 => ⟨by decide, _, rfl, _, cat _, k, Nat.le_refl _, ?_⟩⟩
        · have n1 : ¬ ix.length = 1 := by simpa using b4
          rcases f1 with ⟨a, rfl⟩ | f1
          · exact absurd rfl n1
          · exact f1
        · have n1 : ix.length = 1 := by simpa using b4
          obtain ⟨a, rfl⟩ := List.length_eq_one_iff.mp n1
          rw [ni_vals b3]
          exact f2 a rfl
      have other : ∀ X : Prop, ix.length ≠ 1 → (ix.length = 1 → X) → True := fun _ _ _ => trivial
      by_cases k2 : x = [110]
      · subst k2
        refine one "node" rfl (by decide +kernel) ?_ fun a ea => ?_
        · split at h
          · exact absurd (by assumption : ([110] : List Nat) = [115]) (by decide)
          · exact .inl ⟨_, rfl⟩
          · exact absurd (by assumption : ([110] : List Nat) = [112]) (by decide)
          · exact .inr h
        · subst ea
          exact h
      · by_cases k3 : x = [112]
        · subst k3
          refine one "port" rfl (by decide +kernel) ?_ fun a ea => ?_
          · split at h
            · exact absurd (by assumption : ([112] : List Nat) = [115]) (by decide)
            · exact absurd (by assumption : ([112] : List Nat) = [110]) (by decide)
            · exact .inl ⟨_, rfl⟩
            · exact .inr h
          · subst ea
            exact h
        · have ek : kindD x = .none := by
            unfold kindD
            rw [if_neg k2, if_neg k3, if_neg k1]
          rw [ek] at b1
          cases b1
theorem lpt_iff {l : List Nat} {k : Nat} {R : PyData → Nat → Prop} (hl : l.length ≤ 99990) : lptS [some (.str (Sx l))] k R ↔ R (parsePt l) k := by
  constructor
  · rintro ⟨l', e, _, h⟩
    have q := PyData.str.inj (Option.some.inj (List.cons.inj e).1)
    rw [sx_inj q]
    exact h
  · exact fun h => ⟨l, rfl, hl, h⟩
end
end SM

set_option Elab.async false
set_option linter.all false
set_option maxRecDepth 100000
set_option maxHeartbeats 4000000
namespace SM
open PySem PySem.Spec PyProof.Rows L2
abbrev s_error : Stmt := topS 53
theorem sc_error : FnScope ["asks", "caught", "e"] ["asks"] (defScope s_error) := ⟨rfl, rfl, rfl, by decide +kernel, rfl, by decide +kernel, by decide +kernel⟩

/-- what is known of the error classes that are asked for -/
structure AskT (K : PySem.W.Frag) (mg : Str → Option Value) : Prop where
  b : mg "isinstance" = none
  gT : mg "BadText" = some (.ref (clsA mg "BadText"))
  gS : mg "SlotmapsError" = some (.ref (clsA mg "SlotmapsError"))
  gP : mg "BadPlace" = some (.ref (clsA mg "BadPlace"))
  gA : mg "BadAtlas" = some (.ref (clsA mg "BadAtlas"))
  gU : mg "UnknownMap" = some (.ref (clsA mg "UnknownMap"))
  tt : PySem.W.exmOne K (.ref (clsA mg "BadText")) (.ref (clsA mg "BadText")) = some true
  pt : PySem.W.exmOne K (.ref (clsA mg "BadPlace")) (.ref (clsA mg "BadText")) = some false
  ps : PySem.W.exmOne K (.ref (clsA mg "BadPlace")) (.ref (clsA mg "SlotmapsError")) = some true
  eT : ExcC K (clsA mg "BadText")
  eP : ExcC K (clsA mg "BadPlace")
  xT : XfC K (clsA mg "BadText")
  nT : PySem.W.findIn K (.ref (clsA mg "BadText")) "line" = some none
  kT : PySem.W.kitAny K (.ref (clsA mg "BadText")) [.ref (clsA mg "BadPlace"), .ref (clsA mg "BadAtlas"), .ref (clsA mg "UnknownMap")] = some false
  kP : PySem.W.kitOne K (.ref (clsA mg "BadPlace")) (.ref (clsA mg "BadPlace")) = some true
/-- the word for an error -/
def wdE (mg : Str → Option Value) (x : Exn) : Option PyData := match x.val with
  | some (f, d) => if x.cls = clsA mg "BadText" ∧ f = "line" then some (.tuple [.str "text", d]) else none
  | none => if x.cls = clsA mg "BadPlace" then some (.str "place") else none
theorem asks_error [PW] {X : Cx} (T : AskT X.K X.mg) (g : Addr) (cdg : Value) {q : Str} {k : Nat} : Asks X ["asks", "caught", "e"] "_law_error" (defScope s_error) g cdg (defBody s_error) "asks" q k (TAsk X.K (wdE X.mg)) := by
  intro f a s H Q tl room act cdO want
  refine ⟨_, pss_cons (ps_set (i := 1) sc_error.nd rfl (Or.inl rfl) pe_non) (pss_cons (ps_held rfl rfl rfl sc_error.nd takesN (fun W pn xe tk _ => pss_one (ps_expr (act W pn xe _ _ tk)))
    (.cons (i := 2) ⟨by rfl, by decide, .inl T.gT⟩ rfl rfl (fun a pn => pss_one (ps_set (i := 1) sc_error.nd rfl (Or.inl rfl) (pe_ifExp (pt_not (pt_val (pe_callB (call_isXTk (K := X.K) rfl) (by rfl) T.b (by decide +kernel) (pa_cons (pv 2) (pa_cons (pe_tup (pa_cons (pe_class (by rfl) T.gP) (pa_cons (pe_class (by rfl) T.gA) (pa_cons (pe_class (by rfl) T.gU) pa_nil)))) pa_nil)))))
        (pe_tup (pa_cons pe_str (pa_cons (pe_xcFk (K := X.K) rfl (pv 2)) pa_nil))) pe_str)))
      (.cons (i := 2) ⟨by rfl, by decide, .inl T.gS⟩ rfl rfl (fun a pn => pss_one (ps_set (i := 1) sc_error.nd rfl (Or.inl rfl) (pe_ifExp (pt_val (pe_callB (call_isXk (K := X.K) rfl) (by rfl) T.b (by decide +kernel) (pa_cons (pv 2) (pa_cons (pe_class (by rfl) T.gP) pa_nil)))) pe_str pe_str))) .nil)))
    (pss_one (ps_ret (pv 1)))), ?_⟩
  refine ⟨rfl, cdO, _, _, fun cls d G' h => ?_, fun v G' h => ?_, want⟩
  · obtain ⟨x, M, c, ⟨hc, hd⟩, hw, alive, fin⟩ := h
    obtain ⟨xc, xv⟩ := x
    cases xv with
    | none =>
      have hw' : (if xc = clsA X.mg "BadPlace" then some (PyData.str "place") else none) = some c := hw
      split at hw'
      · rename_i ec
        cases hw'
        cases (show d = none from hd)
        have hc' : cls = .ref (clsA X.mg "BadPlace") := by rw [hc, ec]
        refine ⟨false, by rw [hc']; exact T.pt, fun z => (nomatch z), fun _ => ⟨true, by rw [hc']; exact T.ps, fun _ => ⟨_, hc', fun b nb => ?_⟩, fun z => (nomatch z)⟩⟩
        have xr : XcR (upd G' b (xco b (clsA X.mg "BadPlace") none)) b (clsA X.mg "BadPlace") [] := .inl ⟨rfl, upd_same⟩
        refine ⟨.ref b, rfl, b, _, [], _, _, true, rfl, xr, T.eP, .own _, T.kP, true, rfl, ?_⟩
        exact ⟨.str "place", rfl, fin _ _ (same_upd nb) (.str _ (by decide +kernel))⟩
      · cases hw'
    | some fv =>
      obtain ⟨fl, dv⟩ := fv
      have hw' : (if xc = clsA X.mg "BadText" ∧ fl = "line" then some (PyData.tuple [.str "text", dv]) else none) = some c := hw
      split at hw'
      · rename_i ec
        obtain ⟨ec, rfl⟩ := ec
        cases hw'
        obtain ⟨p, v, ed, hp, np, hv⟩ := (show ∃ p v, d = some p ∧ G' p = some (.xd [("line", v)]) ∧ p ∉ M ∧ DV X.K G' M v dv from hd)
        subst ed
        have hc' : cls = .ref (clsA X.mg "BadText") := by rw [hc, ec]
        refine ⟨true, by rw [hc']; exact T.tt, fun _ => ⟨_, hc', fun b nb => ?_⟩, fun z => (nomatch z)⟩
        refine ⟨.ref b, rfl, (show 3 ≤ sizeLine by decide), fun t nt => ?_⟩
        have bt : b ≠ t := fun z => by
          rw [← z, upd_same] at nt
          cases nt
        have pb : p ≠ b := ne_of_none hp nb
        have pt : p ≠ t := fun z => by
          rw [← z, upd_ne pb, hp] at nt
          cases nt
        have xr : XcR (upd (upd G' b (xco b (clsA X.mg "BadText") (some p))) t (.tup [.ref (clsA X.mg "BadPlace"), .ref (clsA X.mg "BadAtlas"), .ref (clsA X.mg "UnknownMap")])) b (clsA X.mg "BadText") [("line", v)] :=
          .inr ⟨p, by rw [upd_ne bt, upd_same], by rw [upd_ne pt, upd_ne pb]; exact hp⟩
        refine ⟨b, t, _, _, _, _, false, rfl, upd_same, xr, T.eT, .cons (.own _) (.cons (.own _) (.cons (.own _) .nil)), T.kT, false, rfl, ?_⟩
        refine ⟨.ref b, rfl, b, _, _, v, rfl, xr, T.xT, T.nT, rfl, (show 2 ≤ sizeLine by decide), fun w nw => ?_⟩
        have sm : Same G' (upd (upd (upd G' b (xco b (clsA X.mg "BadText") (some p))) t (.tup [.ref (clsA X.mg "BadPlace"), .ref (clsA X.mg "BadAtlas"), .ref (clsA X.mg "UnknownMap")])) w (.tup [.str "text", v])) := ((same_upd nb).trans (same_upd nt)).trans (same_upd nw)
        refine ⟨.ref w, rfl, fin _ _ sm (.tup (fun z => ?_) upd_same (.cons (.str _ (by decide +kernel)) (.cons (DV.out (Out.of_same sm) _ hv) .nil)))⟩
        cases e : G' w with
        | none => exact alive w z e
        | some o =>
          rw [((same_upd nb).trans (same_upd nt)) w o e] at nw
          cases nw
      · cases hw'
  · exact ⟨.non, rfl, h⟩
end SM

set_option Elab.async false
set_option linter.all false
set_option maxRecDepth 100000
set_option maxHeartbeats 4000000
namespace SM
open PySem PySem.Spec PyProof.Rows L2
section
variable [PW] {K : PySem.W.Frag} {mg : Str → Option Value} {base : Heap} {kt : Str}
theorem par_spl {c : Nat} : ∀ (l acc : List Nat), (TL.par [c] acc l = none → TL.spl [c] 0 acc l = [acc ++ l]) ∧ ∀ p q, TL.par [c] acc l = some (p, q) → TL.spl [c] 0 acc l = p :: TL.spl [c] 0 [] q
  | [], acc => ⟨fun _ => by rw [TL.spl_nil, List.append_nil], fun p q h => by cases h⟩
  | d :: r, acc => by
    cases hp : TL.pre [c] (d :: r) with
    | true =>
      refine ⟨fun h => ?_, fun p q h => ?_⟩
      · rw [TL.par_hit hp] at h
        cases h
      · rw [TL.par_hit hp] at h
        cases h
        rw [TL.spl_hit hp]
        rfl
    | false =>
      obtain ⟨h1, h2⟩ := par_spl r (acc ++ [d])
      refine ⟨fun h => ?_, fun p q h => ?_⟩
      · rw [TL.par_miss hp] at h
        rw [TL.spl_miss hp, h1 h, List.append_assoc]
        rfl
      · rw [TL.par_miss hp] at h
        rw [TL.spl_miss hp, h2 p q h]
theorem spl_one {c : Nat} {q : List Nat} (h : (TL.spl [c] 0 [] q).length = 1) : TL.spl [c] 0 [] q = [q] := by
  obtain ⟨a, ha⟩ := List.length_eq_one_iff.mp h
  have j := join_spl (c := c) q []
  rw [ha] at j
  have e : a = q := j
  rw [ha, e]
theorem spl_more {c : Nat} {q : List Nat} (h : (TL.spl [c] 0 [] q).length ≠ 1) : c ∈ q := by
  have j := join_spl (c := c) q []
  cases e : TL.spl [c] 0 [] q with
  | nil => exact absurd e (spl_ne _ _)
  | cons a r =>
    cases r with
    | nil =>
      rw [e] at h
      exact absurd rfl h
    | cons b r =>
      rw [e] at j
      have j2 : a ++ ([c] ++ TL.joinL [c] (b :: r)) = q := by simpa [TL.joinL] using j
      rw [← j2]
      simp
theorem point_free {p : PyData} (h : ptT p) : 47 ∉ pointL p := by
  rcases h with ⟨n, hn, rfl | rfl⟩ | ⟨s, i, hs, hi, rfl⟩
  · show 47 ∉ 110 :: TL.numL n
    simp only [List.mem_cons, not_or]
    exact ⟨by decide, TL.numL_free (by omega)⟩
  · show 47 ∉ 112 :: TL.numL n
    simp only [List.mem_cons, not_or]
    exact ⟨by decide, TL.numL_free (by omega)⟩
  · show 47 ∉ 115 :: (TL.numL s ++ 46 :: TL.numL i)
    simp only [List.mem_cons, List.mem_append, not_or]
    exact ⟨by decide, TL.numL_free (by omega), by decide, TL.numL_free (by omega)⟩
theorem point_slash {q : List Nat} (h : 47 ∈ q) : parsePt q = .none := by
  cases e : isNone (parsePt q) with
  | true =>
    cases e2 : parsePt q <;> first | rfl | (rw [e2] at e; cases e)
  | false =>
    obtain ⟨h1, h2⟩ := point_back e
    rw [← h2] at h
    exact absurd h (point_free h1)
theorem count_sx (l : List Nat) : Txt.count (Sx l) (Sx [47]) = ((TL.spl [47] 0 [] l).length : Int) - 1 := by
  have hs : (Txt.split (Sx l) (Sx [47])).length = ((TL.spl [47] 0 [] l).map Sx).length := congrArg List.length (SX.split_S (a := l) (b := [47]) (List.cons_ne_nil _ _) rfl)
  rw [List.length_map] at hs
  rw [← hs]
  cases l with
  | nil => decide +kernel
  | cons a r =>
    unfold Txt.split Txt.count
    have k1 : decide ((Sx (a :: r)).length < (Sx [47]).length) = false := decide_eq_false (by rw [sx_len, sx_len]; simp)
    have k2 : decide (PySem.Builtin.Str.strKind (Sx (a :: r)) < PySem.Builtin.Str.strKind (Sx [47])) = false := decide_eq_false (by
      rw [show PySem.Builtin.Str.strKind (Sx [47]) = 1 by decide +kernel]
      unfold PySem.Builtin.Str.strKind
      split
      · omega
      · split <;> omega)
    rw [k1, k2, Bool.or_false, if_neg Bool.false_ne_true]
    split
    · rename_i e
      rw [List.isEmpty_iff.mp e]
      rfl
    · rw [length_partsBetween]
      omega
abbrev s_place_in : Stmt := topS 55
theorem sc_place_in : FnScope ["text", "head", "tail", "numbers", "point", "part"] ["text"] (defScope s_place_in) := ⟨rfl, rfl, rfl, by decide +kernel, rfl, by decide +kernel, by decide +kernel⟩

def lplInS : SP := fun qs k R => ∃ v, qs = [some v] ∧ (∀ z, v = .str z → z.length ≤ 99000) ∧ R (pplV v) k
abbrev O_place_in (K : PySem.W.Frag) (mg : Str → Option Value) (base : Heap) (kt : Str) : Prop := Ok PW.prog PW.world K mg base CX0 "_law_place_in" ["text"] 3 (liftS K kt 1 lplInS)
theorem ok_place_in (T : Txt K mg) (D : Def K mg "_law_place_in" s_place_in ["text"]) (O1 : O_number_in K mg base kt) (O2 : O_point_in K mg base kt) : O_place_in K mg base kt := by
  obtain ⟨f_number_in, fd_number_in, G_number_in, g_number_in, k_number_in, b_number_in⟩ := O1
  obtain ⟨f_point_in, fd_point_in, G_point_in, g_point_in, k_point_in, b_point_in⟩ := O2
  refine D.okS sc_place_in rfl fun f cdv A outer s H E hr hq => ⟨_, _, (pss_cons (ps_if (PW.pt (pw_or (pt_not (pt_val (pe_callB call_isi (by rfl) T.b_isinstance (by decide +kernel) (pa_cons (pv 0) (pa_cons (pe_bltn (v := .ty "str") (by rfl) T.b_str (by decide +kernel) rfl) pa_nil))))) (pw_or1 (pt_cmpR (op_neP hr.units) (pe_count (pv 0) pe_str) pe_int (nomark _))))) (pss_one (ps_ret pe_non)) pss_nil)
      (pss_cons (ps_asg (pe_split (pv 0) pe_str) (pg_unl (n := 2) (by rfl) (pgs_cons (pg_name (i := 1) sc_place_in.nd rfl (Or.inl rfl)) (pgs_cons (pg_name (i := 2) sc_place_in.nd rfl (Or.inl rfl)) pgs_nil))))
      (pss_cons (ps_set (i := 3) sc_place_in.nd rfl (Or.inl rfl) (pe_ifExp (pt_cmpR (op_neP hr.units) (pv 1) pe_str (nomark _)) (pe_lc (own := [("part", 5)]) (g := gName 5) (by rfl) sc_place_in.nd (pi_list (pe_split (pv 1) pe_str)) (blkOk_by (own := [("part", 5)]) (N := ["text", "head", "tail", "numbers", "point", "part"]) (sc := defScope s_place_in) (by decide +kernel)) (fun _ _ _ _ _ => (pg_name (i := 5) sc_place_in.nd rfl (Or.inl rfl))) (fun _ _ _ _ _ => pts_nil) (fun _ _ _ _ _ => (pe_callG G_number_in (hr.mono (by omega)) hq (by rfl) g_number_in k_number_in b_number_in pass0 (pa_cons (pv 5) pa_nil)))) (pe_lst pa_nil)))
      (pss_cons (ps_set (i := 4) sc_place_in.nd rfl (Or.inl rfl) (pe_callG G_point_in (hr.mono (by omega)) hq (by rfl) g_point_in k_point_in b_point_in pass0 (pa_cons (pv 2) pa_nil)))
      (pss_cons (ps_if (PW.pt (pw_or (pt_cmpR (op_inP hr.units) pe_non (pv 3) (by with_unfolding_all rfl)) (pw_or (pt_cmpR op_gt (pe_callB call_len (by rfl) T.b_len (by decide +kernel) (pa_cons (pv 3) pa_nil)) pe_int (nomark _)) (pw_or (pt_cmpR op_isN (pv 4) pe_non (nomark _)) (pw_or1 (pt_cmpR (op_eqS hr.units) (pe_ix ix_seq (pv 4) pe_int (fun _ _ => rfl)) pe_str (nomark _))))))) (pss_one (ps_ret pe_non)) pss_nil)
      (pss_one (ps_ret (pe_tup (pa_cons (pe_callTy call_tuple_of (by rfl) T.b_tuple (by decide +kernel) (pa_cons (pv 3) pa_nil)) (pa_cons (pv 4) pa_nil)))))))))), (as_seq (as_if (at_or (at_not (at_B (ab_isi is_str (ab_var 0)))) (at_test (ab_op oa_neP (ab_count (ab_var 0)) (ab_int _)))) (as_ret ab_non) as_nil)
      (as_seq (as_asg (ws := [1, 2]) (af_split (by decide +kernel) (ab_var 0)).ab (ag_unl (ag_cons (ag_name 1 (by decide)) (ag_cons (ag_name 2 (by decide)) ag_nil))))
      (as_seq (as_set 3 (ab_if (at_test (ab_op oa_neP (ab_var 1) (ab_str _ (by decide +kernel)))) ((af_lc (ai_list (af_split (by decide +kernel) (ab_var 1)).ab) (ag_name 5 (by decide)) at_yes (ab_call (ap_cons (ab_var 5) ap_nil)))).ab (af_lst ab_anil).ab))
      (as_seq (as_set 4 (ab_call (ap_cons (ab_var 2) ap_nil)))
      (as_seq (as_if (at_or (at_test (ab_op oa_inP ab_non (ab_var 3))) (at_or (at_test (ab_op oa_gi (ab_callB ca_len (ab_acons (ab_var 3) ab_anil)) (ab_int _))) (at_or (at_test (ab_op oa_isN (ab_var 4) ab_non)) (at_test (ab_op oa_eqS (ab_op oa_ix (ab_var 4) (ab_int _)) (ab_str _ (by decide +kernel))))))) (as_ret ab_non) as_nil)
      (as_ret (ab_tup (ab_acons (ab_callB ca_tuple (ab_acons (ab_var 3) ab_anil)) (ab_acons (ab_var 4) ab_anil))))))))), fun qs k R hl h => ?_⟩
  obtain ⟨v, rfl, hl1, h⟩ := h
  have hs : (Str.ofString "/" : Str) = Sx [47] := e_sl
  simp only [bodyB, env0, slA, List.map_cons, List.map_nil, List.cons_append, List.nil_append, List.length_cons, List.length_nil, List.replicate, List.getElem?_cons_zero, List.getElem?_cons_succ, List.set_cons_zero, List.set_cons_succ, Option.some.injEq, Sl.dat.injEq, Sl.own.injEq, PyData.bool.injEq, PyData.int.injEq, PyData.str.injEq, PyData.tuple.injEq, PyData.list.injEq, PyData.dict.injEq, Sl.tab.injEq, List.cons.injEq, exists_eq_left', exists_eq_left, eq_self, decide_true, if_true, reduceIte, Int.reduceLE, pure1, pure2, pure3, pure4, leiF_int, liF_int, giF_int, geiF_int, addF_int, subF_int, eqEF_nil, neF_int, eqF_int, lenF_str, lenF_list, lenF_tup, wipe0, wipe1, true_and, and_true, frz_list, frz_dict, frz_tup, frz_dat, frz_no, frz_pen, tab_list, tab_dict, Nat.reduceAdd, Nat.reduceSub]
  refine ⟨fun b1 => ⟨fun _ => ⟨k, Nat.le_refl _, ?_⟩, fun z => (nomatch z)⟩, fun b1 => ?_⟩
  · cases v <;> first | exact h | (cases b1; done)
  cases v <;> first | (cases b1; done) | skip
  rename_i z
  have hz := hl1 z rfl
  obtain ⟨l, rfl⟩ : ∃ l, z = Sx l := ⟨z.cps.toList, sx_of z⟩
  rw [sx_len] at hz
  have h' : R (parsePl l) k := by
    have e : pplV (.str (Sx l)) = parsePl l := congrArg parsePl (sx_cps l)
    rw [e] at h
    exact h
  have esp : Txt.split (Sx l) (Str.ofString "/") = (TL.spl [47] 0 [] l).map Sx := by
    rw [hs]
    exact SX.split_S (List.cons_ne_nil _ _) rfl
  have none_of : (TL.spl [47] 0 [] l).length ≠ 2 → parsePl l = .none := fun n2 => by
    unfold parsePl
    cases hp : TL.par [47] [] l with
    | none => rfl
    | some pq =>
      obtain ⟨p, q⟩ := pq
      have e := (par_spl l []).2 p q hp
      have q1 : parsePt q = .none := point_slash (spl_more fun z => n2 (by rw [e, List.length_cons, z]))
      show (if _ then _ else _) = _
      rw [q1]
      rfl
  have cnt : decide (Txt.count (Sx l) (Str.ofString "/") = 1) = decide ((TL.spl [47] 0 [] l).length = 2) := by
    rw [hs, count_sx, decide_eq_decide]
    omega
  refine ⟨Sx l, rfl, ?_⟩
  rw [cnt]
  refine ⟨fun b2 => ⟨k, Nat.le_refl _, ?_⟩, fun b2 => ?_⟩
  · rw [none_of (by simpa using b2)] at h'
    exact h'
  · have n2 : (TL.spl [47] 0 [] l).length = 2 := by simpa using b2
    cases hp : TL.par [47] [] l with
    | none =>
      rw [(par_spl l []).1 hp] at n2
      cases n2
    | some pq =>
      obtain ⟨p, q⟩ := pq
      have e := (par_spl l []).2 p q hp
      have q1 := spl_one (c := 47) (q := q) (by rw [e, List.length_cons] at n2; omega)
      rw [q1] at e
      obtain ⟨lp, lq⟩ := par_len l [] hp
      simp only [List.length_nil, Nat.zero_add] at lp
      have ePl : parsePl l = if isNone (parsePt q) || isSlotD (parsePt q) || decide (200 < (addrIx p).length) || !(addrIx p).all numbB then .none else .tuple [.tuple ((addrIx p).map valI), parsePt q] := by
        unfold parsePl
        rw [hp]
      rw [ePl] at h'
      refine ⟨Sx l, rfl, by rw [sx_len]; omega, ?_⟩
      rw [esp, e]
      refine ⟨fun y hy => ?_, rfl, ?_⟩
      · obtain ⟨x, hx, rfl⟩ := List.mem_map.mp hy
        rw [sx_len]
        simp only [List.mem_cons, List.not_mem_nil, or_false] at hx
        rcases hx with rfl | rfl <;> omega
      have ep0 : neF (.str (Sx p)) (.str "") = some (.bool (!decide (p = []))) := by
        rw [neF_str, eqv_str, show (Str.ofString "" : Str) = Sx [] by decide +kernel, is_sx]
      -- what is done with the numbers
      have tail : ∀ (ix : List (List Nat)), ix = addrIx p → ∀ k0, k0 = k → ∃ c, inF .none (.list (ix.map numIn)) = some c ∧ ∃ b, c = .bool b ∧ (b = true → R .none k) ∧ (b = false → (200 < ix.length → R .none k) ∧ (¬ 200 < ix.length →
          ∃ c, isF (parsePt q) .none = some c ∧ ∃ b, c = .bool b ∧ (b = true → R .none k) ∧ (b = false → ∃ c, atD (parsePt q) (.int 0) = some c ∧ ∃ c_1, eqSF c (.str "slot") = some c_1 ∧ ∃ b, c_1 = .bool b ∧ (b = true → R .none k) ∧ (b = false → R (.tuple [.tuple (ix.map numIn), parsePt q]) k)))) := fun ix eix k0 _ => by
        rw [← eix] at h'
        obtain ⟨np, na⟩ := ni_plain ix
        have i2 : inF .none (.list (ix.map numIn)) = some (.bool (!ix.all numbB)) := by
          rw [← na]
          exact if_pos (by rw [np]; rfl)
        refine ⟨_, i2, _, rfl, fun b3 => ?_, fun b3 => ⟨fun b4 => ?_, fun b4 => ?_⟩⟩
        · rw [if_pos (by rw [b3, Bool.or_true])] at h'
          exact h'
        · rw [if_pos (by rw [decide_eq_true b4, Bool.or_true, Bool.true_or])] at h'
          exact h'
        · have b5 : ix.all numbB = true := by simpa using b3
          rw [b5, decide_eq_false b4, Bool.not_true, Bool.or_false, Bool.or_false] at h'
          rcases pt_shape2 q with en | ⟨w, r, ew⟩
          · rw [en] at h' ⊢
            exact ⟨_, rfl, _, rfl, fun _ => h', fun z => (nomatch z)⟩
          · have i1 : isF (parsePt q) .none = some (.bool false) := by rw [ew]; rfl
            have i3 : atD (parsePt q) (.int 0) = some (.str w) := by rw [ew]; exact at_tup0 _ _
            have i4 : isSlotD (parsePt q) = strIs (.str w) "slot" := by rw [ew]; rfl
            have i5 : isNone (parsePt q) = false := by rw [ew]; rfl
            rw [i5, i4, Bool.false_or] at h'
            refine ⟨_, i1, _, rfl, fun z => (nomatch z), fun _ => ⟨_, i3, _, eqSF_str _ _, _, rfl, fun b6 => ?_, fun b6 => ?_⟩⟩
            · rw [if_pos b6] at h'
              exact h'
            · rw [if_neg (by rw [b6]; exact Bool.false_ne_true)] at h'
              rw [ni_vals b5]
              exact h'
      have giE : ∀ n : Nat, giF (.int (n : Nat)) (.int 200) = some (.bool (decide ((200 : Int) < (n : Nat)))) := fun n => rfl
      refine ⟨rfl, _, ep0, _, rfl, fun c1 => ?_, fun c1 => ?_⟩
      · have hpn : ¬ p = [] := by simpa using c1
        have es : Txt.split (Sx p) (Str.ofString ".") = (addrIx p).map Sx := by
          unfold addrIx
          rw [if_neg hpn, dotS]
          exact SX.split_S (List.cons_ne_nil _ _) rfl
        have il : (addrIx p).length ≤ 99990 := by
          unfold addrIx
          split
          · exact Nat.zero_le _
          · have := spl_count (c := 46) p 0 []
            omega
        have pl : ∀ x, x ∈ addrIx p → x.length ≤ 100000 := fun x hx => by
          unfold addrIx at hx
          rw [if_neg hpn] at hx
          have q := spl_len p 0 [] x hx
          simp at q
          omega
        refine ⟨Sx p, rfl, by rw [sx_len]; omega, fun y hy => split_small (by omega) hy, ?_⟩
        rw [es]
        have tl := tail _ rfl k rfl
        generalize addrIx p = ix at tl il pl
        refine ⟨by rw [List.length_map, List.length_map]; omega, comp_pure (fun _ => true) (fun d => numIn (zc d)) (fun d hd k T N hT hN => ?_) ?_⟩
        · rw [List.map_map] at hd
          obtain ⟨x, hx, rfl⟩ := List.mem_map.mp hd
          have q := hT rfl
          rw [show zc ((PyData.str ∘ Sx) x) = x from sx_cps x] at q
          simp only [bodyB, env0, slA, List.map_cons, List.map_nil, List.cons_append, List.nil_append, List.length_cons, List.length_nil, List.replicate, List.getElem?_cons_zero, List.getElem?_cons_succ, List.set_cons_zero, List.set_cons_succ, Option.some.injEq, Sl.dat.injEq, Sl.own.injEq, PyData.bool.injEq, PyData.int.injEq, PyData.str.injEq, PyData.tuple.injEq, PyData.list.injEq, PyData.dict.injEq, Sl.tab.injEq, List.cons.injEq, exists_eq_left', exists_eq_left, eq_self, decide_true, if_true, reduceIte, Int.reduceLE, pure1, pure2, pure3, pure4, leiF_int, liF_int, giF_int, geiF_int, addF_int, subF_int, eqEF_nil, neF_int, eqF_int, lenF_str, lenF_list, lenF_tup, wipe0, wipe1, true_and, and_true, frz_list, frz_dict, frz_tup, frz_dat, frz_no, frz_pen, tab_list, tab_dict, Nat.reduceAdd, Nat.reduceSub]
          exact ⟨fun _ => ⟨x, rfl, pl x hx, q⟩, fun z => nomatch z⟩
        rw [filter_yes, List.nil_append]
        have ed : ((ix.map Sx).map PyData.str).map (fun d => numIn (zc d)) = ix.map numIn := by
          rw [List.map_map, List.map_map]
          exact List.map_congr_left fun p _ => congrArg numIn (sx_cps p)
        rw [ed]
        refine (lpt_iff (by omega)).mpr ?_
        obtain ⟨c, e1, b, eb, t1, t2⟩ := tl
        refine ⟨c, e1, b, eb, fun z => ⟨fun _ => ⟨k, Nat.le_refl _, t1 z⟩, fun y => (nomatch y)⟩, fun z => ?_⟩
        obtain ⟨u1, u2⟩ := t2 z
        have lenE : lenF [.list (ix.map numIn)] = some (.int (ix.length : Nat)) := by
          show some (PyData.int ((ix.map numIn).length : Nat)) = _
          rw [List.length_map]
        refine ⟨_, lenE, _, giE _, _, rfl, fun w => ⟨fun _ => ⟨k, Nat.le_refl _, u1 (by have := of_decide_eq_true w; omega)⟩, fun y => (nomatch y)⟩, fun w => ?_⟩
        obtain ⟨c2, e2, b2, eb2, v1, v2⟩ := u2 (by have := of_decide_eq_false w; omega)
        refine ⟨c2, e2, b2, eb2, fun w => ⟨fun _ => ⟨k, Nat.le_refl _, v1 w⟩, fun y => (nomatch y)⟩, fun w => ?_⟩
        obtain ⟨c3, e3, c4, e4, b4, eb4, x1, x2⟩ := v2 w
        exact ⟨c3, e3, c4, e4, b4, eb4, fun w => ⟨k, Nat.le_refl _, x1 w⟩, fun w => ⟨_, rfl, by decide, k, Nat.le_refl _, x2 w⟩⟩
      · have hpn : p = [] := by simpa using c1
        refine ⟨by decide, (lpt_iff (by omega)).mpr ?_⟩
        obtain ⟨c, e1, b, eb, t1, t2⟩ := tail [] (by rw [hpn]; rfl) k rfl
        refine ⟨c, e1, b, eb, fun z => ⟨fun _ => ⟨k, Nat.le_refl _, t1 z⟩, fun y => (nomatch y)⟩, fun z => ?_⟩
        obtain ⟨u1, u2⟩ := t2 z
        refine ⟨fun w => absurd w (by decide), fun w => ?_⟩
        obtain ⟨c2, e2, b2, eb2, v1, v2⟩ := u2 (by decide)
        refine ⟨c2, e2, b2, eb2, fun w => ⟨fun _ => ⟨k, Nat.le_refl _, v1 w⟩, fun y => (nomatch y)⟩, fun w => ?_⟩
        obtain ⟨c3, e3, c4, e4, b4, eb4, x1, x2⟩ := v2 w
        exact ⟨c3, e3, c4, e4, b4, eb4, fun w => ⟨k, Nat.le_refl _, x1 w⟩, fun w => ⟨_, rfl, by decide, k, Nat.le_refl _, x2 w⟩⟩
theorem lpl_of {v : PyData} {k : Nat} {R : PyData → Nat → Prop} (h1 : ∀ z, v = .str z → z.length ≤ 99000) (h : R (pplV v) k) : lplInS [some v] k R := ⟨v, rfl, h1, h⟩
end
end SM

set_option Elab.async false
set_option linter.all false
set_option maxRecDepth 100000
set_option maxHeartbeats 4000000
namespace SM
open PySem PySem.Spec PyProof.Rows L2
section
variable [PW] {K : PySem.W.Frag} {mg : Str → Option Value} {base : Heap} {kt : Str}
def kindOk (w : PyData) : Bool := [PyData.str "node", .str "port"].any fun y => PyData.eqv y w
def formB : PyData → Bool
  | .tuple [.tuple as, .tuple [w, i]] => decide (as.length ≤ 200) && (kindOk w && (as ++ [i]).all countB)
  | _ => false
/-- a value that may be asked -/
def askV (v : PyData) : Prop := ∀ xs, v = .tuple xs → PyData.plainAll xs = true
theorem tup_two {v : PyData} (h : tupIn v 2 2 = true) : ∃ a b, v = .tuple [a, b] := by
  cases v <;> first | (cases h; done) | skip
  rename_i xs
  have h2 : (decide ((2 : Int) ≤ xs.length) && decide ((xs.length : Int) ≤ 2)) = true := h
  simp only [Bool.and_eq_true, decide_eq_true_eq] at h2
  obtain ⟨a, b, rfl⟩ := two_len (l := xs) (by omega)
  exact ⟨a, b, rfl⟩
theorem form_two {v : PyData} (h : tupIn v 2 2 = false) : formB v = false := by
  unfold formB
  split
  · cases h
  · rfl
theorem form_addr {a b : PyData} (h : tupIn a 0 200 = false) : formB (.tuple [a, b]) = false := by
  unfold formB
  split
  · rename_i as w i heq
    cases heq
    have h2 : (decide ((0 : Int) ≤ as.length) && decide ((as.length : Int) ≤ 200)) = false := h
    rw [decide_eq_true (show (0 : Int) ≤ as.length by omega), Bool.true_and] at h2
    have h3 := of_decide_eq_false h2
    rw [decide_eq_false (show ¬ as.length ≤ 200 by omega), Bool.false_and]
  · rfl
theorem form_point {a b : PyData} (h : tupIn b 2 2 = false) : formB (.tuple [a, b]) = false := by
  unfold formB
  split
  · rename_i as w i heq
    cases heq
    cases h
  · rfl
theorem tup_upto {v : PyData} {n : Nat} (h : tupIn v 0 (n : Int) = true) : ∃ xs, v = .tuple xs ∧ xs.length ≤ n := by
  cases v <;> first | (cases h; done) | skip
  rename_i xs
  have h2 : (decide ((0 : Int) ≤ xs.length) && decide ((xs.length : Int) ≤ (n : Int))) = true := h
  simp only [Bool.and_eq_true, decide_eq_true_eq] at h2
  exact ⟨xs, rfl, by omega⟩
theorem in_kinds {w : PyData} (h : w.plain = true) : inF w (.tuple [.str "node", .str "port"]) = some (.bool (kindOk w)) := if_pos (by
  rw [h, show PyData.plainAll [PyData.str (Str.ofString "node"), PyData.str (Str.ofString "port")] = true from rfl, decide_eq_true (show PyData.depthAll [PyData.str (Str.ofString "node"), PyData.str (Str.ofString "port")] ≤ 60 by decide), Bool.or_true]
  rfl)
abbrev s_is_place_form : Stmt := topS 41
theorem sc_is_place_form : FnScope ["value", "address", "point", "index"] ["value"] (defScope s_is_place_form) := ⟨rfl, rfl, rfl, by decide +kernel, rfl, by decide +kernel, by decide +kernel⟩

def pfS : SP := fun qs k R => ∃ v, qs = [some v] ∧ askV v ∧ R (.bool (formB v)) k
abbrev O_is_place_form (K : PySem.W.Frag) (mg : Str → Option Value) (base : Heap) (kt : Str) : Prop := Ok PW.prog PW.world K mg base CX0 "is_place_form" ["value"] 3 (liftS K kt 1 pfS)
theorem ok_is_place_form (T : Txt K mg) (D : Def K mg "is_place_form" s_is_place_form ["value"]) (O1 : O_is_tuple K mg base kt) (O2 : O_is_count K mg base kt) : O_is_place_form K mg base kt := by
  obtain ⟨f_is_tuple, fd_is_tuple, G_is_tuple, g_is_tuple, k_is_tuple, b_is_tuple⟩ := O1
  obtain ⟨f_is_count, fd_is_count, G_is_count, g_is_count, k_is_count, b_is_count⟩ := O2
  refine D.okS sc_is_place_form rfl fun f cdv A outer s H E hr hq => ⟨_, _, (pss_cons (ps_if (pt_not (pt_val (pe_callG G_is_tuple (hr.mono (by omega)) hq (by rfl) g_is_tuple k_is_tuple b_is_tuple pass0 (pa_cons (pv 0) (pa_cons pe_int (pa_cons pe_int pa_nil)))))) (pss_one (ps_ret pe_bl)) pss_nil)
      (pss_cons (ps_asg (pv 0) (pg_tup (n := 2) (by rfl) (pgs_cons (pg_name (i := 1) sc_is_place_form.nd rfl (Or.inl rfl)) (pgs_cons (pg_name (i := 2) sc_is_place_form.nd rfl (Or.inl rfl)) pgs_nil))))
      (pss_cons (ps_if (PW.pt (pw_or (pt_not (pt_val (pe_callG G_is_tuple (hr.mono (by omega)) hq (by rfl) g_is_tuple k_is_tuple b_is_tuple pass0 (pa_cons (pv 1) (pa_cons pe_int (pa_cons (pe_glob (v := .int 200) (by rfl) T.k_MOST_INDEXES.choose_spec ⟨_, rfl⟩) pa_nil)))))) (pw_or1 (pt_not (pt_val (pe_callG G_is_tuple (hr.mono (by omega)) hq (by rfl) g_is_tuple k_is_tuple b_is_tuple pass0 (pa_cons (pv 2) (pa_cons pe_int (pa_cons pe_int pa_nil))))))))) (pss_one (ps_ret pe_bl)) pss_nil)
      (pss_one (ps_ret (pe_and (pe_cmpR (op_inP hr.units) (pe_ix ix_seq (pv 2) pe_int (fun _ _ => rfl)) (pe_tup (pa_cons pe_str (pa_cons pe_str pa_nil))) (by with_unfolding_all rfl)) (pe_one (pe_callB (cr_all (by rfl)) (by rfl) T.b_all (by decide +kernel) (pa_cons (pe_lc (own := [("index", 3)]) (g := gName 3) (by rfl) sc_is_place_form.nd (pi_tup (pe_op op_catA (pv 1) (pe_slice sl_tupA (pv 2) (po_some pe_int) po_none))) (blkOk_by (own := [("index", 3)]) (N := ["value", "address", "point", "index"]) (sc := defScope s_is_place_form) (by decide +kernel)) (fun _ _ _ _ _ => (pg_name (i := 3) sc_is_place_form.nd rfl (Or.inl rfl))) (fun _ _ _ _ _ => pts_nil) (fun _ _ _ _ _ => (pe_callG G_is_count (hr.mono (by omega)) hq (by rfl) g_is_count k_is_count b_is_count pass0 (pa_cons (pv 3) pa_nil)))) pa_nil))))))))), (as_seq (as_if (at_not (at_B (ab_call (ap_cons (ab_var 0) (ap_cons (ab_int _) (ap_cons (ab_int _) ap_nil)))))) (as_ret (ab_bl _)) as_nil)
      (as_seq (as_asg (ws := [1, 2]) (ab_var 0) (ag_tup (ag_cons (ag_name 1 (by decide)) (ag_cons (ag_name 2 (by decide)) ag_nil))))
      (as_seq (as_if (at_or (at_not (at_B (ab_call (ap_cons (ab_var 1) (ap_cons (ab_int _) (ap_cons (ab_int _) ap_nil)))))) (at_not (at_B (ab_call (ap_cons (ab_var 2) (ap_cons (ab_int _) (ap_cons (ab_int _) ap_nil))))))) (as_ret (ab_bl _)) as_nil)
      (as_ret (ab_and (ab_op oa_inP (ab_op oa_ix (ab_var 2) (ab_int _)) (ab_tup (ab_acons (ab_str _ (by decide +kernel)) (ab_acons (ab_str _ (by decide +kernel)) ab_anil)))) (ab_callB ca_all (ab_acons ((af_lc (ai_tup (ab_op oa_catT (ab_var 1) (ab_sl sa_tup (ab_var 2) (ao_some (ab_int _)) ao_none))) (ag_name 3 (by decide)) at_yes (ab_call (ap_cons (ab_var 3) ap_nil)))).ab ab_anil))))))), fun qs k R hl h => ?_⟩
  obtain ⟨v, rfl, hv, h⟩ := h
  simp only [bodyB, env0, slA, List.map_cons, List.map_nil, List.cons_append, List.nil_append, List.length_cons, List.length_nil, List.replicate, List.getElem?_cons_zero, List.getElem?_cons_succ, List.set_cons_zero, List.set_cons_succ, Option.some.injEq, Sl.dat.injEq, Sl.own.injEq, PyData.bool.injEq, PyData.int.injEq, PyData.str.injEq, PyData.tuple.injEq, PyData.list.injEq, PyData.dict.injEq, Sl.tab.injEq, List.cons.injEq, exists_eq_left', exists_eq_left, eq_self, decide_true, if_true, reduceIte, Int.reduceLE, pure1, pure2, pure3, pure4, leiF_int, liF_int, giF_int, geiF_int, addF_int, subF_int, eqEF_nil, neF_int, eqF_int, lenF_str, lenF_list, lenF_tup, wipe0, wipe1, true_and, and_true, frz_list, frz_dict, frz_tup, frz_dat, frz_no, frz_pen, tab_list, tab_dict, Nat.reduceAdd, Nat.reduceSub, tupG]
  refine ⟨fun b1 => ⟨k, Nat.le_refl _, ?_⟩, fun b1 => ?_⟩
  · rw [form_two (by simpa using b1)] at h
    exact h
  obtain ⟨a, b, rfl⟩ := tup_two (v := v) (by simpa using b1)
  refine ⟨rfl, rfl, fun b2 => ⟨fun _ => ⟨k, Nat.le_refl _, ?_⟩, fun z => (nomatch z)⟩, fun b2 => ⟨fun b3 => ⟨k, Nat.le_refl _, ?_⟩, fun b3 => ?_⟩⟩
  · rw [form_addr (by simpa using b2)] at h
    exact h
  · rw [form_point (by simpa using b3)] at h
    exact h
  obtain ⟨as, rfl, la⟩ := tup_upto (n := 200) (v := a) (by simpa using b2)
  obtain ⟨w, i, rfl⟩ := tup_two (v := b) (by simpa using b3)
  have hp : (PyData.tuple as).plain = true ∧ w.plain = true ∧ i.plain = true := by
    have q := hv _ rfl
    simp only [PyData.plainAll, PyData.plain, Bool.and_true, Bool.and_eq_true] at q ⊢
    exact ⟨q.1, q.2.1, q.2.2⟩
  have hf : formB (.tuple [.tuple as, .tuple [w, i]]) = (kindOk w && (as ++ [i]).all countB) := by
    show (decide (as.length ≤ 200) && _) = _
    rw [decide_eq_true la, Bool.true_and]
  rw [hf] at h
  refine ⟨_, at_tup0 _ _, by decide, _, in_kinds hp.2.1, _, rfl, fun b4 => ?_, fun b4 => ?_⟩
  · rw [b4, Bool.true_and] at h
    have sl : slTF (.tuple [w, i]) (some 1) none = some (.tuple [i]) := rfl
    have ct : catTF (.tuple as) (.tuple [i]) = some (.tuple (as ++ [i])) := if_pos (by simp only [List.length_cons, List.length_nil]; omega)
    refine ⟨_, sl, _, ct, _, rfl, by rw [List.length_append, List.length_singleton]; omega, comp_pure (fun _ => true) (fun d => .bool (countB d)) (fun d hd k T N hT hN => ?_) ?_⟩
    · simp only [bodyB, env0, slA, List.map_cons, List.map_nil, List.cons_append, List.nil_append, List.length_cons, List.length_nil, List.replicate, List.getElem?_cons_zero, List.getElem?_cons_succ, List.set_cons_zero, List.set_cons_succ, Option.some.injEq, Sl.dat.injEq, Sl.own.injEq, PyData.bool.injEq, PyData.int.injEq, PyData.str.injEq, PyData.tuple.injEq, PyData.list.injEq, PyData.dict.injEq, Sl.tab.injEq, List.cons.injEq, exists_eq_left', exists_eq_left, eq_self, decide_true, if_true, reduceIte, Int.reduceLE, pure1, pure2, pure3, pure4, leiF_int, liF_int, giF_int, geiF_int, addF_int, subF_int, eqEF_nil, neF_int, eqF_int, lenF_str, lenF_list, lenF_tup, wipe0, wipe1, true_and, and_true, frz_list, frz_dict, frz_tup, frz_dat, frz_no, frz_pen, tab_list, tab_dict, Nat.reduceAdd, Nat.reduceSub]
      exact ⟨fun _ => ⟨_, rfl, hT rfl⟩, fun q => nomatch q⟩
    · rw [filter_yes, List.nil_append]
      exact ⟨_, allF_map _ _, k, Nat.le_refl _, h⟩
  · rw [b4, Bool.false_and] at h
    exact ⟨k, Nat.le_refl _, h⟩
theorem pf_iff {v : PyData} {k : Nat} {R : PyData → Nat → Prop} (hv : askV v) : pfS [some v] k R ↔ R (.bool (formB v)) k := by
  constructor
  · rintro ⟨v', e, _, h⟩
    cases e
    exact h
  · exact fun h => ⟨v, rfl, hv, h⟩
abbrev s_format_place : Stmt := topS 36
theorem sc_format_place : FnScope ["place"] ["place"] (defScope s_format_place) := ⟨rfl, rfl, rfl, by decide +kernel, rfl, by decide +kernel, by decide +kernel⟩

def fplX (C : Addr) : SPX := fun qs k R RX => ∃ v, qs = [some v] ∧ askV v ∧ (formB v = true → plT v) ∧ (formB v = false → RX ⟨C, none⟩ k) ∧ (formB v = true → R (.str (Sx (placeL v))) k)
abbrev O_format_place (K : PySem.W.Frag) (mg : Str → Option Value) (base : Heap) (kt : Str) : Prop := Ok PW.prog PW.world K mg base (L2.CX PW.prog PW.world) "format_place" ["place"] 5 (liftX K kt 1 (fplX (clsA mg "BadPlace")))
theorem ok_format_place (T : Txt K mg) (D : Def K mg "format_place" s_format_place ["place"]) (O1 : O_is_place_form K mg base kt) (O2 : O_place_text K mg base kt) : O_format_place K mg base kt := by
  obtain ⟨f_is_place_form, fd_is_place_form, G_is_place_form, g_is_place_form, k_is_place_form, b_is_place_form⟩ := O1
  obtain ⟨f_place_text, fd_place_text, G_place_text, g_place_text, k_place_text, b_place_text⟩ := O2
  refine D.okX sc_format_place rfl fun f cdv A outer s H E hr hq => ⟨_, _, (pss_cons (ps_if (pt_not (pt_val (pe_callG G_is_place_form (hr.mono (by omega)) hq (by rfl) g_is_place_form k_is_place_form b_is_place_form pass0 (pa_cons (pv 0) pa_nil)))) (pss_one (ps_raise0 PySem.F.excBase_ValueError T.x_BadPlace (by rfl))) pss_nil)
      (pss_one (ps_ret (pe_callG G_place_text (hr.mono (by omega)) hq (by rfl) g_place_text k_place_text b_place_text pass0 (pa_cons (pv 0) pa_nil))))), (as_seq (as_if (at_not (at_B (ab_call (ap_cons (ab_var 0) ap_nil)))) as_raise0 as_nil)
      (as_ret (ab_call (ap_cons (ab_var 0) ap_nil)))), fun qs k R RX hl h => ?_⟩
  obtain ⟨v, rfl, hv, hp, h1, h2⟩ := h
  simp only [bodyB, env0, slA, List.map_cons, List.map_nil, List.cons_append, List.nil_append, List.length_cons, List.length_nil, List.replicate, List.getElem?_cons_zero, List.getElem?_cons_succ, List.set_cons_zero, List.set_cons_succ, Option.some.injEq, Sl.dat.injEq, Sl.own.injEq, PyData.bool.injEq, PyData.int.injEq, PyData.str.injEq, PyData.tuple.injEq, PyData.list.injEq, PyData.dict.injEq, Sl.tab.injEq, List.cons.injEq, exists_eq_left', exists_eq_left, eq_self, decide_true, if_true, reduceIte, Int.reduceLE, pure1, pure2, pure3, pure4, leiF_int, liF_int, giF_int, geiF_int, addF_int, subF_int, eqEF_nil, neF_int, eqF_int, lenF_str, lenF_list, lenF_tup, wipe0, wipe1, true_and, and_true, frz_list, frz_dict, frz_tup, frz_dat, frz_no, frz_pen, tab_list, tab_dict, Nat.reduceAdd, Nat.reduceSub, bodyX, pf_iff hv]
  refine ⟨fun b1 => ⟨k, Nat.le_refl _, h1 (by simpa using b1)⟩, fun b1 => ?_⟩
  have b2 : formB v = true := by simpa using b1
  exact ⟨v, rfl, hp b2, k, Nat.le_refl _, h2 b2⟩
abbrev s_is_index1 : Stmt := topS 57
theorem sc_is_index1 : FnScope ["value"] ["value"] (defScope s_is_index1) := ⟨rfl, rfl, rfl, by decide +kernel, rfl, by decide +kernel, by decide +kernel⟩

abbrev O_is_index1 (K : PySem.W.Frag) (mg : Str → Option Value) (base : Heap) (kt : Str) : Prop := Ok PW.prog PW.world K mg base CX0 "_law_is_index" ["value"] 1 (liftS K kt 1 (pureS countG))
theorem ok_is_index1 (T : Txt K mg) (D : Def K mg "_law_is_index" s_is_index1 ["value"]) : O_is_index1 K mg base kt := by
  refine D.okS sc_is_index1 rfl fun f cdv A outer s H E hr hq => ⟨_, _, (pss_one (ps_ret (pe_and (pe_callB call_isi (by rfl) T.b_isinstance (by decide +kernel) (pa_cons (pv 0) (pa_cons (pe_bltn (v := .ty "int") (by rfl) T.b_int (by decide +kernel) rfl) pa_nil))) (pe_and (pe_not (pe_callB call_isi (by rfl) T.b_isinstance (by decide +kernel) (pa_cons (pv 0) (pa_cons (pe_bltn (v := .ty "bool") (by rfl) T.b_bool (by decide +kernel) rfl) pa_nil)))) (pe_one (pe_cmpR op_ge (pv 0) pe_int (nomark _))))))), (as_ret (ab_and (ab_isi is_int (ab_var 0)) (ab_and (ab_not (ab_isi is_bool (ab_var 0))) (ab_op oa_gei (ab_var 0) (ab_int _))))), fun qs k R hl h => ?_⟩
  obtain ⟨ds, d, rfl, h1, h2⟩ := pure_in h
  unfold countG at h1
  split at h1 <;> cases h1
  rename_i v
  simp only [bodyB, env0, slA, List.map_cons, List.map_nil, List.cons_append, List.nil_append, List.length_cons, List.length_nil, List.replicate, List.getElem?_cons_zero, List.getElem?_cons_succ, List.set_cons_zero, List.set_cons_succ, Option.some.injEq, Sl.dat.injEq, Sl.own.injEq, PyData.bool.injEq, PyData.int.injEq, PyData.str.injEq, PyData.tuple.injEq, PyData.list.injEq, PyData.dict.injEq, Sl.tab.injEq, List.cons.injEq, exists_eq_left', exists_eq_left, eq_self, decide_true, if_true, reduceIte, Int.reduceLE, pure1, pure2, pure3, pure4, leiF_int, liF_int, giF_int, geiF_int, addF_int, subF_int, eqEF_nil, neF_int, eqF_int, lenF_str, lenF_list, lenF_tup, wipe0, wipe1, true_and, and_true, frz_list, frz_dict, frz_tup, frz_dat, frz_no, frz_pen, tab_list, tab_dict, Nat.reduceAdd, Nat.reduceSub]
  cases v <;> (try simp only [bodyB, env0, slA, List.map_cons, List.map_nil, List.cons_append, List.nil_append, List.length_cons, List.length_nil, List.replicate, List.getElem?_cons_zero, List.getElem?_cons_succ, List.set_cons_zero, List.set_cons_succ, Option.some.injEq, Sl.dat.injEq, Sl.own.injEq, PyData.bool.injEq, PyData.int.injEq, PyData.str.injEq, PyData.tuple.injEq, PyData.list.injEq, PyData.dict.injEq, Sl.tab.injEq, List.cons.injEq, exists_eq_left', exists_eq_left, eq_self, decide_true, if_true, reduceIte, Int.reduceLE, pure1, pure2, pure3, pure4, leiF_int, liF_int, giF_int, geiF_int, addF_int, subF_int, eqEF_nil, neF_int, eqF_int, lenF_str, lenF_list, lenF_tup, wipe0, wipe1, true_and, and_true, frz_list, frz_dict, frz_tup, frz_dat, frz_no, frz_pen, tab_list, tab_dict, Nat.reduceAdd, Nat.reduceSub]) <;> simpa [countB, isInt, isBool] using h2
abbrev s_is_place : Stmt := topS 58
theorem sc_is_place : FnScope ["value", "point", "index"] ["value"] (defScope s_is_place) := ⟨rfl, rfl, rfl, by decide +kernel, rfl, by decide +kernel, by decide +kernel⟩

abbrev O_is_place1 (K : PySem.W.Frag) (mg : Str → Option Value) (base : Heap) (kt : Str) : Prop := Ok PW.prog PW.world K mg base CX0 "_law_is_place" ["value"] 2 (liftS K kt 1 pfS)
theorem ok_is_place1 (T : Txt K mg) (D : Def K mg "_law_is_place" s_is_place ["value"]) (O1 : O_is_index1 K mg base kt) : O_is_place1 K mg base kt := by
  obtain ⟨f_is_index1, fd_is_index1, G_is_index1, g_is_index1, k_is_index1, b_is_index1⟩ := O1
  refine D.okS sc_is_place rfl fun f cdv A outer s H E hr hq => ⟨_, _, (pss_cons (ps_if (PW.pt (pw_or (pt_not (pt_val (pe_callB call_isi (by rfl) T.b_isinstance (by decide +kernel) (pa_cons (pv 0) (pa_cons (pe_bltn (v := .ty "tuple") (by rfl) T.b_tuple (by decide +kernel) rfl) pa_nil))))) (pw_or (pt_cmpR (op_neP hr.units) (pe_callB call_len (by rfl) T.b_len (by decide +kernel) (pa_cons (pv 0) pa_nil)) pe_int (nomark _)) (pw_or (pt_not (pt_val (pe_callB call_isi (by rfl) T.b_isinstance (by decide +kernel) (pa_cons (pe_ix ix_seq (pv 0) pe_int (fun _ _ => rfl)) (pa_cons (pe_bltn (v := .ty "tuple") (by rfl) T.b_tuple (by decide +kernel) rfl) pa_nil))))) (pw_or1 (pt_cmpR op_gt (pe_callB call_len (by rfl) T.b_len (by decide +kernel) (pa_cons (pe_ix ix_seq (pv 0) pe_int (fun _ _ => rfl)) pa_nil)) pe_int (nomark _))))))) (pss_one (ps_ret pe_bl)) pss_nil)
      (pss_cons (ps_if (PW.pt (pw_or (pt_cmpR (op_neE hr.units) (pe_lc (own := [("index", 2)]) (g := gName 2) (by rfl) sc_is_place.nd (pi_tup (pe_ix ix_seq (pv 0) pe_int (fun _ _ => rfl))) (blkOk_by (own := [("index", 2)]) (N := ["value", "point", "index"]) (sc := defScope s_is_place) (by decide +kernel)) (fun _ _ _ _ _ => (pg_name (i := 2) sc_is_place.nd rfl (Or.inl rfl))) (fun _ _ _ _ _ => (pts_one (pt_not (pt_val (pe_callG G_is_index1 (hr.mono (by omega)) hq (by rfl) g_is_index1 k_is_index1 b_is_index1 pass0 (pa_cons (pv 2) pa_nil)))))) (fun _ _ _ _ _ => (pv 2))) (pe_lst pa_nil) (nomark _)) (pw_or1 (pt_not (pt_val (pe_callB call_isi (by rfl) T.b_isinstance (by decide +kernel) (pa_cons (pe_ix ix_seq (pv 0) pe_int (fun _ _ => rfl)) (pa_cons (pe_bltn (v := .ty "tuple") (by rfl) T.b_tuple (by decide +kernel) rfl) pa_nil)))))))) (pss_one (ps_ret pe_bl)) pss_nil)
      (pss_cons (ps_set (i := 1) sc_is_place.nd rfl (Or.inl rfl) (pe_ix ix_seq (pv 0) pe_int (fun _ _ => rfl)))
      (pss_one (ps_ret (pe_and (pe_cmpR (op_eqP hr.units) (pe_callB call_len (by rfl) T.b_len (by decide +kernel) (pa_cons (pv 1) pa_nil)) pe_int (nomark _)) (pe_and (pe_callB call_isi (by rfl) T.b_isinstance (by decide +kernel) (pa_cons (pe_ix ix_seq (pv 1) pe_int (fun _ _ => rfl)) (pa_cons (pe_bltn (v := .ty "str") (by rfl) T.b_str (by decide +kernel) rfl) pa_nil))) (pe_and (pe_cmpR (op_inP hr.units) (pe_ix ix_seq (pv 1) pe_int (fun _ _ => rfl)) (pe_tup (pa_cons pe_str (pa_cons pe_str pa_nil))) (by with_unfolding_all rfl)) (pe_one (pe_callG G_is_index1 (hr.mono (by omega)) hq (by rfl) g_is_index1 k_is_index1 b_is_index1 pass0 (pa_cons (pe_ix ix_seq (pv 1) pe_int (fun _ _ => rfl)) pa_nil))))))))))), (as_seq (as_if (at_or (at_not (at_B (ab_isi is_tup (ab_var 0)))) (at_or (at_test (ab_op oa_neP (ab_callB ca_len (ab_acons (ab_var 0) ab_anil)) (ab_int _))) (at_or (at_not (at_B (ab_isi is_tup (ab_op oa_ix (ab_var 0) (ab_int _))))) (at_test (ab_op oa_gi (ab_callB ca_len (ab_acons (ab_op oa_ix (ab_var 0) (ab_int _)) ab_anil)) (ab_int _)))))) (as_ret (ab_bl _)) as_nil)
      (as_seq (as_if (at_or (at_test (ab_op oa_neE ((af_lc (ai_tup (ab_op oa_ix (ab_var 0) (ab_int _))) (ag_name 2 (by decide)) (at_not (at_B (ab_call (ap_cons (ab_var 2) ap_nil)))) (ab_var 2))).ab (af_lst ab_anil).ab)) (at_not (at_B (ab_isi is_tup (ab_op oa_ix (ab_var 0) (ab_int _)))))) (as_ret (ab_bl _)) as_nil)
      (as_seq (as_set 1 (ab_op oa_ix (ab_var 0) (ab_int _)))
      (as_ret (ab_and (ab_op oa_eqP (ab_callB ca_len (ab_acons (ab_var 1) ab_anil)) (ab_int _)) (ab_and (ab_isi is_str (ab_op oa_ix (ab_var 1) (ab_int _))) (ab_and (ab_op oa_inP (ab_op oa_ix (ab_var 1) (ab_int _)) (ab_tup (ab_acons (ab_str _ (by decide +kernel)) (ab_acons (ab_str _ (by decide +kernel)) ab_anil)))) (ab_call (ap_cons (ab_op oa_ix (ab_var 1) (ab_int _)) ap_nil))))))))), fun qs k R hl h => ?_⟩
  obtain ⟨v, rfl, hv, h⟩ := h
  have no : formB v = false → ∃ k', k' ≤ k ∧ R (.bool false) k' := fun e => ⟨k, Nat.le_refl _, by rw [e] at h; exact h⟩
  have nt : isTup v = false → formB v = false := fun e => by
    cases v <;> first | rfl | (cases e; done)
  simp only [bodyB, env0, slA, List.map_cons, List.map_nil, List.cons_append, List.nil_append, List.length_cons, List.length_nil, List.replicate, List.getElem?_cons_zero, List.getElem?_cons_succ, List.set_cons_zero, List.set_cons_succ, Option.some.injEq, Sl.dat.injEq, Sl.own.injEq, PyData.bool.injEq, PyData.int.injEq, PyData.str.injEq, PyData.tuple.injEq, PyData.list.injEq, PyData.dict.injEq, Sl.tab.injEq, List.cons.injEq, exists_eq_left', exists_eq_left, eq_self, decide_true, if_true, reduceIte, Int.reduceLE, pure1, pure2, pure3, pure4, leiF_int, liF_int, giF_int, geiF_int, addF_int, subF_int, eqEF_nil, neF_int, eqF_int, lenF_str, lenF_list, lenF_tup, wipe0, wipe1, true_and, and_true, frz_list, frz_dict, frz_tup, frz_dat, frz_no, frz_pen, tab_list, tab_dict, Nat.reduceAdd, Nat.reduceSub]
  refine ⟨fun b1 => ⟨fun _ => no (nt (by simpa using b1)), fun z => (nomatch z)⟩, fun b1 => ?_⟩
  cases v <;> first | (cases b1; done) | skip
  rename_i xs
  have n2 : xs.length ≠ 2 → formB (.tuple xs) = false := fun n => form_two (by
    show (decide ((2 : Int) ≤ xs.length) && decide ((xs.length : Int) ≤ 2)) = false
    by_cases z : (2 : Int) ≤ xs.length
    · rw [decide_eq_false (show ¬ (xs.length : Int) ≤ 2 by omega), Bool.and_false]
    · rw [decide_eq_false z, Bool.false_and])
  simp only [bodyB, env0, slA, List.map_cons, List.map_nil, List.cons_append, List.nil_append, List.length_cons, List.length_nil, List.replicate, List.getElem?_cons_zero, List.getElem?_cons_succ, List.set_cons_zero, List.set_cons_succ, Option.some.injEq, Sl.dat.injEq, Sl.own.injEq, PyData.bool.injEq, PyData.int.injEq, PyData.str.injEq, PyData.tuple.injEq, PyData.list.injEq, PyData.dict.injEq, Sl.tab.injEq, List.cons.injEq, exists_eq_left', exists_eq_left, eq_self, decide_true, if_true, reduceIte, Int.reduceLE, pure1, pure2, pure3, pure4, leiF_int, liF_int, giF_int, geiF_int, addF_int, subF_int, eqEF_nil, neF_int, eqF_int, lenF_str, lenF_list, lenF_tup, wipe0, wipe1, true_and, and_true, frz_list, frz_dict, frz_tup, frz_dat, frz_no, frz_pen, tab_list, tab_dict, Nat.reduceAdd, Nat.reduceSub]
  refine ⟨fun b2 => ⟨fun _ => no (n2 (by
    have q : ¬ (xs.length : Int) = 2 := by simpa using b2
    omega)), fun z => (nomatch z)⟩, fun b2 => ?_⟩
  obtain ⟨a, b, rfl⟩ := two_len (l := xs) (by
    have q : (xs.length : Int) = 2 := by simpa using b2
    omega)
  have at1 : atD (.tuple [a, b]) (.int 1) = some b := rfl
  refine ⟨_, at_tup0 _ _, fun b3 => ⟨fun _ => no (form_addr ?_), fun z => (nomatch z)⟩, fun b3 => ?_⟩
  · cases a <;> first | rfl | (cases b3; done)
  cases a <;> first | (cases b3; done) | skip
  rename_i as
  refine ⟨_, at_tup0 _ _, _, rfl, _, rfl, _, rfl, fun b4 => no (form_addr ?_), fun b4 => ?_⟩
  · have q : (200 : Int) < as.length := of_decide_eq_true b4
    show (decide ((0 : Int) ≤ as.length) && decide ((as.length : Int) ≤ 200)) = false
    rw [decide_eq_false (show ¬ (as.length : Int) ≤ 200 by omega), Bool.and_false]
  have la : as.length ≤ 200 := by
    have q : ¬ (200 : Int) < as.length := of_decide_eq_false b4
    omega
  refine ⟨_, at_tup0 _ _, _, rfl, by omega, comp_pure (fun d => !countB d) id (fun d hd k T N hT hN => ?_) ?_⟩
  · simp only [bodyB, env0, slA, List.map_cons, List.map_nil, List.cons_append, List.nil_append, List.length_cons, List.length_nil, List.replicate, List.getElem?_cons_zero, List.getElem?_cons_succ, List.set_cons_zero, List.set_cons_succ, Option.some.injEq, Sl.dat.injEq, Sl.own.injEq, PyData.bool.injEq, PyData.int.injEq, PyData.str.injEq, PyData.tuple.injEq, PyData.list.injEq, PyData.dict.injEq, Sl.tab.injEq, List.cons.injEq, exists_eq_left', exists_eq_left, eq_self, decide_true, if_true, reduceIte, Int.reduceLE, pure1, pure2, pure3, pure4, leiF_int, liF_int, giF_int, geiF_int, addF_int, subF_int, eqEF_nil, neF_int, eqF_int, lenF_str, lenF_list, lenF_tup, wipe0, wipe1, true_and, and_true, frz_list, frz_dict, frz_tup, frz_dat, frz_no, frz_pen, tab_list, tab_dict, Nat.reduceAdd, Nat.reduceSub]
    exact ⟨_, rfl, _, rfl, fun q => hT q, fun q => hN q⟩
  rw [List.nil_append, List.map_id]
  have ef : as.filter (fun d => !countB d) = [] ↔ as.all countB = true := by
    rw [List.filter_eq_nil_iff, List.all_eq_true]
    refine forall_congr' fun d => forall_congr' fun _ => ?_
    cases countB d <;> simp
  have hp : (PyData.tuple as).plain = true ∧ b.plain = true := by
    have q := hv _ rfl
    simp only [PyData.plainAll, PyData.plain, Bool.and_true, Bool.and_eq_true] at q ⊢
    exact q
  refine ⟨Nat.zero_le _, _, neEF_nil _, _, rfl, fun b5 => ⟨fun _ => no ?_, fun z => (nomatch z)⟩, fun b5 => ?_⟩
  · have na : as.all countB = false := by
      cases e : as.all countB with
      | false => rfl
      | true =>
        rw [ef.mpr e] at b5
        cases b5
    unfold formB
    split
    · rename_i as' w i heq
      cases heq
      rw [List.all_append, na, Bool.false_and, Bool.and_false, Bool.and_false]
    · rfl
  have ya : as.all countB = true := ef.mp (by simpa using b5)
  refine ⟨_, at1, fun b6 => no (form_point ?_), fun b6 => ?_⟩
  · cases b <;> first | rfl | (cases b6; done)
  cases b <;> first | (cases b6; done) | skip
  rename_i ys
  have m2 : ys.length ≠ 2 → formB (.tuple [.tuple as, .tuple ys]) = false := fun n => form_point (by
    show (decide ((2 : Int) ≤ ys.length) && decide ((ys.length : Int) ≤ 2)) = false
    by_cases z : (2 : Int) ≤ ys.length
    · rw [decide_eq_false (show ¬ (ys.length : Int) ≤ 2 by omega), Bool.and_false]
    · rw [decide_eq_false z, Bool.false_and])
  refine ⟨_, at1, _, rfl, _, eqF_nat ys.length 2, _, rfl, fun b7 => ?_, fun b7 => no (m2 (of_decide_eq_false b7))⟩
  obtain ⟨w, i, rfl⟩ := two_len (l := ys) (of_decide_eq_true b7)
  have hw : w.plain = true := by
    have q := hp.2
    simp only [PyData.plainAll, PyData.plain, Bool.and_true, Bool.and_eq_true] at q
    exact q.1
  have hf : formB (.tuple [.tuple as, .tuple [w, i]]) = (kindOk w && countB i) := by
    show (decide (as.length ≤ 200) && (kindOk w && (as ++ [i]).all countB)) = _
    rw [decide_eq_true la, Bool.true_and, List.all_append, ya, Bool.true_and, List.all_cons, List.all_nil, Bool.and_true]
  have ks : isStr w = false → kindOk w = false := fun e => by
    cases w <;> first | (cases e; done) | rfl
  refine ⟨_, at_tup0 _ _, fun b8 => ?_, fun b8 => no (by rw [hf, ks b8, Bool.false_and])⟩
  refine ⟨_, at_tup0 _ _, by decide, _, in_kinds hw, _, rfl, fun b9 => ?_, fun b9 => no (by rw [hf, b9, Bool.false_and])⟩
  refine ⟨_, rfl, _, rfl, k, Nat.le_refl _, ?_⟩
  rw [hf, b9, Bool.true_and] at h
  exact h
end
end SM

set_option Elab.async false
set_option linter.all false
set_option maxRecDepth 100000
set_option maxHeartbeats 4000000
namespace SM
open PySem PySem.Spec PyProof.Rows L2
section
variable [PW] {K : PySem.W.Frag} {mg : Str → Option Value} {base : Heap} {kt : Str}
theorem eq_self_str (z : Str) : eqF (.str z) (.str z) = some (.bool true) := by
  rw [eqF_str, eqv_str]
  have e : strIs (.str z) z = true := beq_self_eq_true z
  rw [e]
theorem w_int {n : Nat} (h : n < lineN) : (PyData.int (n : Nat)).weight ≤ 201 := by
  have e : lineN < 2 ^ 200 := by decide +kernel
  have h2 : n < 2 ^ 200 := Nat.lt_trans h e
  have l : n.log2 < 201 := PySem.Flt.log2_lt_of (by decide) (Nat.lt_trans h2 (by decide))
  have h3 : n.log2 < 200 := PySem.Flt.log2_lt_of (by decide) h2
  show PyData.weight _ ≤ 201
  simp only [PyData.weight, Int.natAbs_natCast]
  split <;> omega
theorem ints_ok : ∀ as : List Nat, (∀ n, n ∈ as → n < lineN) → okAll (10 ^ 60) (intsD as) = true ∧ PyData.weightAll (intsD as) ≤ 202 * as.length ∧ PyData.depthAll (intsD as) = 0
  | [], _ => ⟨rfl, Nat.le_refl _, rfl⟩
  | n :: r, h => by
    obtain ⟨h1, h2, h3⟩ := ints_ok r fun m hm => h m (List.mem_cons_of_mem _ hm)
    have hn := h n List.mem_cons_self
    refine ⟨?_, ?_, ?_⟩
    · show (decide ((n : Int).natAbs ≤ 10 ^ 60) && okAll _ (intsD r)) = true
      rw [h1, Bool.and_true]
      refine decide_eq_true ?_
      rw [Int.natAbs_natCast]
      exact Nat.le_of_lt hn
    · show (PyData.int (n : Nat)).weight + 1 + PyData.weightAll (intsD r) ≤ _
      have w := w_int hn
      rw [List.length_cons]
      omega
    · show max (PyData.int (n : Nat)).depth (PyData.depthAll (intsD r)) = 0
      rw [h3]
      rfl
theorem place_repr {p : PyData} (h : plT p) : reprF [p] = some (.str p.shown) := by
  obtain ⟨as, q, rfl, l1, l2, n, hn, hq⟩ := h
  obtain ⟨o1, o2, o3⟩ := ints_ok as l2
  obtain ⟨p1, p2, p3⟩ := ints_ok [n] fun m hm => by rw [List.mem_singleton.mp hm]; exact hn
  have ok : okD (10 ^ 60) (.tuple [.tuple (intsD as), q]) = true := by
    rcases hq with rfl | rfl
    · show (okAll (10 ^ 60) (intsD as) && ((okD (10 ^ 60) (PyData.str "node") && okAll (10 ^ 60) (intsD [n])) && true)) = true
      have z : okD (10 ^ 60) (PyData.str "node") = true := by decide +kernel
      simp only [o1, p1, z, Bool.and_self]
    · show (okAll (10 ^ 60) (intsD as) && ((okD (10 ^ 60) (PyData.str "port") && okAll (10 ^ 60) (intsD [n])) && true)) = true
      have z : okD (10 ^ 60) (PyData.str "port") = true := by decide +kernel
      simp only [o1, p1, z, Bool.and_self]
  have wt : (PyData.tuple [.tuple (intsD as), q]).weight ≤ 250000 := by
    have e1 : (PyData.str (Str.ofString "node")).weight ≤ 1000 := by decide +kernel
    have e2 : (PyData.str (Str.ofString "port")).weight ≤ 1000 := by decide +kernel
    have e3 := w_int hn
    rcases hq with rfl | rfl
    · simp only [PyData.weight, PyData.weightAll] at o2 e1 e3 ⊢
      omega
    · simp only [PyData.weight, PyData.weightAll] at o2 e2 e3 ⊢
      omega
  have dp : (PyData.tuple [.tuple (intsD as), q]).depth ≤ 60 := by
    rcases hq with rfl | rfl
    · simp only [PyData.depth, PyData.depthAll, o3]
      decide
    · simp only [PyData.depth, PyData.depthAll, o3]
      decide
  obtain ⟨h1, h2⟩ := okD_shown (N := 10 ^ 60) (by decide) ok wt
  exact if_pos (by rw [h1, decide_eq_true dp, decide_eq_true h2] <;> rfl)
theorem read_repr {v : PyData} (h : isNone (pplV v) = false) : reprF [pplV v] = some (.str (pplV v).shown) := by
  cases v <;> first | (cases h; done) | skip
  exact place_repr (place_back h).1
abbrev s_read_right : Stmt := topS 56
theorem sc_read_right : FnScope ["text", "due", "caught"] ["text"] (defScope s_read_right) := ⟨rfl, rfl, rfl, by decide +kernel, rfl, by decide +kernel, by decide +kernel⟩

def rrS : SP := fun qs k R => ∃ v, qs = [some v] ∧ (∀ z, v = .str z → z.length ≤ 99000) ∧ R (.bool true) k
abbrev O_read_right (K : PySem.W.Frag) (mg : Str → Option Value) (base : Heap) (kt : Str) : Prop := Ok PW.prog PW.world K mg base CX0 "_law_read_right" ["text"] 12 (liftS K kt 1 rrS)
theorem ok_read_right (T : Txt K mg) (AT : AskT K mg) (hsy : ∃ o, base.get? sysModules = some o) {c P : Addr} (LM : LamD mg base "_law_read_right" c P) (D_error : Def K mg "_law_error" s_error ["asks"]) (D : DefC K mg "_law_read_right" s_read_right ["text"] c) (O1 : O_place_in K mg base kt) (O2 : O_parse_place K mg base kt) : O_read_right K mg base kt := by
  obtain ⟨f_place_in, fd_place_in, G_place_in, g_place_in, k_place_in, b_place_in⟩ := O1
  obtain ⟨f_parse_place, fd_parse_place, G_parse_place, g_parse_place, k_parse_place, b_parse_place⟩ := O2
  refine D.okS sc_read_right rfl fun f A outer s H E hr hq => ⟨_, _, (pss_cons (ps_set (i := 1) sc_read_right.nd rfl (Or.inl rfl) (pe_callG G_place_in (hr.mono (by omega)) hq (by rfl) g_place_in k_place_in b_place_in pass0 (pa_cons (pv 0) pa_nil)))
      (pss_cons (ps_set (i := 2) sc_read_right.nd rfl (Or.inl rfl) (pe_ask1 (k := 8) D_error sc_error (fun g cdg => asks_error AT g cdg) LM (hr.mono (by omega)) (fun A1 outer z G E f a hg hr2 => (pe_callG G_parse_place (hr2.mono (by omega)) (hg.trans hq) (by rfl) g_parse_place k_parse_place b_parse_place passL (pa_cons (pv 0) pa_nil))) (LamX.lamS_by (show LamX.lamSB (defScope s_read_right) _ = true from by decide +kernel)) rfl (Or.inl rfl)))
      (pss_cons (ps_if (pt_cmpR op_isN (pv 1) pe_non (nomark _)) (pss_one (ps_ret (pe_cmpR (op_eqP hr.units) (pv 2) (pe_tup (pa_cons pe_str (pa_cons pe_int pa_nil))) (nomark _)))) pss_nil)
      (pss_one (ps_ret (pe_and (pe_cmpR op_isN (pv 2) pe_non (nomark _)) (pe_one (pe_cmpR (op_eqP hr.units) (pe_callB (cr_reprD hr.units hq hsy) (by rfl) T.b_repr (by decide +kernel) (pa_cons (pe_callG G_parse_place (hr.mono (by omega)) hq (by rfl) g_parse_place k_parse_place b_parse_place (passNo rfl rfl) (pa_cons (pv 0) pa_nil)) pa_nil)) (pe_callB (cr_reprD hr.units hq hsy) (by rfl) T.b_repr (by decide +kernel) (pa_cons (pv 1) pa_nil)) (nomark _))))))))), (as_seq (as_set 1 (ab_call (ap_cons (ab_var 0) ap_nil)))
      (as_seq (as_set 2 (ab_ask LM.at_ (ap_cons (ab_var 0) ap_nil)))
      (as_seq (as_if (at_test (ab_op oa_isN (ab_var 1) ab_non)) (as_ret (ab_op oa_eqP (ab_var 2) (ab_tup (ab_acons (ab_str _ (by decide +kernel)) (ab_acons (ab_int _) ab_anil))))) as_nil)
      (as_ret (ab_and (ab_op oa_isN (ab_var 2) ab_non) (ab_op oa_eqP (ab_callB ca_repr (ab_acons (ab_callX (ap_cons (ab_var 0) ap_nil)) ab_anil)) (ab_callB ca_repr (ab_acons (ab_var 1) ab_anil)))))))), fun qs k R hl h => ?_⟩
  obtain ⟨v, rfl, hv, h⟩ := h
  have hv2 : ∀ z, v = .str z → z.length ≤ 100000 := fun z e => Nat.le_trans (hv z e) (by decide)
  simp only [bodyB, env0, slA, List.map_cons, List.map_nil, List.cons_append, List.nil_append, List.length_cons, List.length_nil, List.replicate, List.getElem?_cons_zero, List.getElem?_cons_succ, List.set_cons_zero, List.set_cons_succ, Option.some.injEq, Sl.dat.injEq, Sl.own.injEq, PyData.bool.injEq, PyData.int.injEq, PyData.str.injEq, PyData.tuple.injEq, PyData.list.injEq, PyData.dict.injEq, Sl.tab.injEq, List.cons.injEq, exists_eq_left', exists_eq_left, eq_self, decide_true, if_true, reduceIte, Int.reduceLE, pure1, pure2, pure3, pure4, leiF_int, liF_int, giF_int, geiF_int, addF_int, subF_int, eqEF_nil, neF_int, eqF_int, lenF_str, lenF_list, lenF_tup, wipe0, wipe1, true_and, and_true, frz_list, frz_dict, frz_tup, frz_dat, frz_no, frz_pen, tab_list, tab_dict, Nat.reduceAdd, Nat.reduceSub]
  refine lpl_of hv ⟨v, rfl, hv2, fun n => ?_, fun n => ?_⟩
  · have e : pplV v = .none := by
      cases e2 : pplV v <;> first | rfl | (rw [e2] at n; cases n)
    rw [e]
    exact ⟨.tuple [.str "text", .int 0], if_pos ⟨rfl, rfl⟩, _, rfl, _, rfl, fun _ => ⟨by decide, _, rfl, k, Nat.le_refl _, h⟩, fun z => (nomatch z)⟩
  · have i1 : isF (pplV v) .none = some (.bool false) := by
      show some (PyData.bool (isNone (pplV v))) = _
      rw [n]
    refine ⟨_, i1, _, rfl, fun z => (nomatch z), fun _ => ⟨_, rfl, _, rfl, fun _ => ⟨v, rfl, hv2, fun n2 => ?_, fun _ => ?_⟩, fun z => (nomatch z)⟩⟩
    · rw [n] at n2
      cases n2
    · exact ⟨_, read_repr n, _, read_repr n, _, eq_self_str _, k, Nat.le_refl _, h⟩
end
end SM

set_option Elab.async false
set_option linter.all false
set_option maxRecDepth 100000
set_option maxHeartbeats 4000000
namespace SM
open PySem PySem.Spec PyProof.Rows L2
section
variable [PW]
/-! what is shown -/
def goodP (d : PyData) : Prop := okD (10 ^ 60) d = true ∧ d.weight ≤ 250000 ∧ d.depth ≤ 40
theorem goodP_repr {d : PyData} (h : goodP d) : reprF [d] = some (.str d.shown) := by
  obtain ⟨h1, h2⟩ := okD_shown (N := 10 ^ 60) (by decide) h.1 h.2.1
  exact if_pos (by rw [h1, decide_eq_true (show d.depth ≤ 60 from Nat.le_trans h.2.2 (by decide)), decide_eq_true h2] <;> rfl)
theorem goodP_fit {W n : Nat} {d : PyData} (h : fitP W n d) (h1 : W ≤ 250000) (h2 : n ≤ 40) : goodP d := ⟨okD_mono (by decide) d h.1, Nat.le_trans h.2.1 h1, Nat.le_trans h.2.2 h2⟩
theorem goodP_text {l : List Nat} (h : ∀ c, c ∈ l → c < 128) (hl : l.length ≤ 200000) : goodP (.str (Sx l)) := by
  refine goodP_fit (W := 200000) (n := 0) (fit_str (fun c hc => ?_) (by rw [sx_len]; exact hl)) (by decide) (by decide)
  rw [sx_cps] at hc
  exact h c hc
theorem joinL_mem {S : List Nat} {c : Nat} : ∀ {ps : List (List Nat)}, c ∈ TL.joinL S ps → c ∈ S ∨ ∃ p, p ∈ ps ∧ c ∈ p
  | [], h => nomatch h
  | [p], h => .inr ⟨p, List.mem_cons_self, h⟩
  | p :: q :: r, h => by
    have h : c ∈ p ++ (S ++ TL.joinL S (q :: r)) := h
    rcases List.mem_append.mp h with w | w
    · exact .inr ⟨p, List.mem_cons_self, w⟩
    · rcases List.mem_append.mp w with v | v
      · exact .inl v
      · rcases joinL_mem v with u | ⟨x, hx, u⟩
        · exact .inl u
        · exact .inr ⟨x, List.mem_cons_of_mem _ hx, u⟩
theorem num_sign {n c : Nat} (h : c ∈ TL.numL n) : c < 128 := by
  have q := TL.numL_digits n c h
  omega
theorem point_sign {p : PyData} {c : Nat} (h : ptT p) (z : c ∈ pointL p) : c < 128 := by
  rcases h with ⟨n, hn, rfl | rfl⟩ | ⟨s, i, hs, hi, rfl⟩
  · have z : c ∈ 110 :: TL.numL n := z
    rcases List.mem_cons.mp z with q | q
    · omega
    · exact num_sign q
  · have z : c ∈ 112 :: TL.numL n := z
    rcases List.mem_cons.mp z with q | q
    · omega
    · exact num_sign q
  · have z : c ∈ 115 :: (TL.numL s ++ 46 :: TL.numL i) := z
    rcases List.mem_cons.mp z with q | q
    · omega
    · rcases List.mem_append.mp q with q | q
      · exact num_sign q
      · rcases List.mem_cons.mp q with q | q
        · omega
        · exact num_sign q
theorem fit_num {n : Nat} (h : n < lineN) : okD (10 ^ 60) (.int (n : Nat)) = true ∧ PyData.weight (.int (n : Nat)) ≤ 200 := by
  have e : lineN < 2 ^ 200 := by decide +kernel
  refine ⟨?_, ?_⟩
  · show decide ((n : Int).natAbs ≤ 10 ^ 60) = true
    rw [Int.natAbs_natCast]
    exact decide_eq_true (Nat.le_of_lt h)
  · show (if ((n : Int) == 0) = true then 0 else (n : Int).natAbs.log2 + 1) ≤ 200
    split
    · exact Nat.zero_le _
    · rename_i q
      have z : n ≠ 0 := fun z => q (by rw [z]; rfl)
      have := (Nat.log2_lt z).mpr (Nat.lt_trans h e)
      rw [Int.natAbs_natCast]
      omega
theorem place_good {p : PyData} (h : plT p) : goodP p ∧ goodP (.str (Sx (placeL p))) := by
  obtain ⟨as, q, rfl, l1, l2, n, hn, hq⟩ := h
  have hp := pt_of hn hq
  refine ⟨?_, ?_⟩
  · have a1 : okAll (10 ^ 60) (intsD as) = true := okAll_iff.mpr fun x hx => by
      obtain ⟨m, hm, rfl⟩ := num_mem hx
      exact (fit_num (l2 m hm)).1
    have a2 : PyData.weightAll (intsD as) ≤ (intsD as).length * (200 + 1) := weight_all fun x hx => by
      obtain ⟨m, hm, rfl⟩ := num_mem hx
      exact (fit_num (l2 m hm)).2
    have a3 : (intsD as).length * 201 ≤ 200 * 201 := Nat.mul_le_mul_right _ (by unfold intsD; rw [List.length_map]; exact l1)
    have a4 : PyData.depthAll (intsD as) ≤ 0 := depthAll_iff.mpr fun x hx => by
      obtain ⟨m, hm, rfl⟩ := num_mem hx
      exact Nat.le_refl _
    obtain ⟨f1, f2⟩ := fit_num hn
    have b : okD (10 ^ 60) q = true ∧ q.weight ≤ 300 ∧ q.depth ≤ 1 := by
      rcases hq with rfl | rfl
      all_goals
        refine ⟨?_, ?_, Nat.le_refl _⟩
        · simp only [okD, okAll] at f1 ⊢
          rw [f1]
          decide +kernel
        · show PyData.weight (.str _) + 1 + (PyData.weight (.int (n : Nat)) + 1 + 0) ≤ 300
          have e : ∀ z : Str, PyData.weight (.str z) = z.length := fun _ => rfl
          rw [e]
          have e4 : (Str.ofString "node").length = 4 := rfl
          have e5 : (Str.ofString "port").length = 4 := rfl
          omega
    refine ⟨?_, ?_, ?_⟩
    · simp only [okD, okAll]
      rw [b.1, a1] <;> rfl
    · show PyData.weight (.tuple (intsD as)) + 1 + (q.weight + 1 + 0) ≤ 250000
      have e : PyData.weight (.tuple (intsD as)) = PyData.weightAll (intsD as) := rfl
      omega
    · show max (PyData.depth (.tuple (intsD as))) (max q.depth 0) + 1 ≤ 40
      have e : PyData.depth (.tuple (intsD as)) = PyData.depthAll (intsD as) + 1 := rfl
      omega
  · have q1 := addr_len l1 l2
    have q2 := point_len hp
    rw [place_eq]
    refine goodP_text (fun c hc => ?_) ?_
    · rcases List.mem_append.mp hc with w | w
      · rcases List.mem_append.mp w with v | v
        · rcases joinL_mem v with u | ⟨x, hx, u⟩
          · rw [List.mem_singleton.mp u]
            decide
          · obtain ⟨m, _, rfl⟩ := List.mem_map.mp hx
            exact num_sign u
        · rw [List.mem_singleton.mp v]
          decide
      · exact point_sign hp w
    · rw [List.length_append, List.length_append]
      show _ + 1 + _ ≤ _
      omega
end
end SM

set_option Elab.async false
set_option linter.all false
set_option maxRecDepth 100000
set_option maxHeartbeats 4000000
namespace SM
open PySem PySem.Spec PyProof.Rows L2
section
variable [PW] {K : PySem.W.Frag} {mg : Str → Option Value} {base : Heap} {kt : Str}
abbrev s_written_right : Stmt := topS 59
theorem sc_written_right : FnScope ["value", "caught"] ["value"] (defScope s_written_right) := ⟨rfl, rfl, rfl, by decide +kernel, rfl, by decide +kernel, by decide +kernel⟩

def wrS : SP := fun qs k R => ∃ v, qs = [some v] ∧ askV v ∧ (formB v = true → plT v) ∧ R (.bool true) k
abbrev O_written_right (K : PySem.W.Frag) (mg : Str → Option Value) (base : Heap) (kt : Str) : Prop := Ok PW.prog PW.world K mg base CX0 "_law_written_right" ["value"] 12 (liftS K kt 1 wrS)
theorem ok_written_right (T : Txt K mg) (AT : AskT K mg) (hsy : ∃ o, base.get? sysModules = some o) {c P : Addr} (LM : LamD mg base "_law_written_right" c P) (D_error : Def K mg "_law_error" s_error ["asks"]) (D : DefC K mg "_law_written_right" s_written_right ["value"] c) (O1 : O_format_place K mg base kt) (O2 : O_is_place1 K mg base kt) (O3 : O_law_place_text K mg base kt) : O_written_right K mg base kt := by
  obtain ⟨f_format_place, fd_format_place, G_format_place, g_format_place, k_format_place, b_format_place⟩ := O1
  obtain ⟨f_is_place, fd_is_place, G_is_place, g_is_place, k_is_place, b_is_place⟩ := O2
  obtain ⟨f_place_text1, fd_place_text1, G_place_text1, g_place_text1, k_place_text1, b_place_text1⟩ := O3
  refine D.okS sc_written_right rfl fun f A outer s H E hr hq => ⟨_, _, (pss_cons (ps_set (i := 1) sc_written_right.nd rfl (Or.inl rfl) (pe_ask1 (k := 8) D_error sc_error (fun g cdg => asks_error AT g cdg) LM (hr.mono (by omega)) (fun A1 outer z G E f a hg hr2 => (pe_callG G_format_place (hr2.mono (by omega)) (hg.trans hq) (by rfl) g_format_place k_format_place b_format_place passL (pa_cons (pv 0) pa_nil))) (LamX.lamS_by (show LamX.lamSB (defScope s_written_right) _ = true from by decide +kernel)) rfl (Or.inl rfl)))
      (pss_cons (ps_if (pt_not (pt_val (pe_callG G_is_place (hr.mono (by omega)) hq (by rfl) g_is_place k_is_place b_is_place pass0 (pa_cons (pv 0) pa_nil)))) (pss_one (ps_ret (pe_cmpR (op_eqS hr.units) (pv 1) pe_str (nomark _)))) pss_nil)
      (pss_one (ps_ret (pe_and (pe_cmpR op_isN (pv 1) pe_non (nomark _)) (pe_one (pe_cmpR (op_eqP hr.units) (pe_callB (cr_reprD hr.units hq hsy) (by rfl) T.b_repr (by decide +kernel) (pa_cons (pe_callG G_format_place (hr.mono (by omega)) hq (by rfl) g_format_place k_format_place b_format_place (passNo rfl rfl) (pa_cons (pv 0) pa_nil)) pa_nil)) (pe_callB (cr_reprD hr.units hq hsy) (by rfl) T.b_repr (by decide +kernel) (pa_cons (pe_callG G_place_text1 (hr.mono (by omega)) hq (by rfl) g_place_text1 k_place_text1 b_place_text1 pass0 (pa_cons (pv 0) pa_nil)) pa_nil)) (nomark _)))))))), (as_seq (as_set 1 (ab_ask LM.at_ (ap_cons (ab_var 0) ap_nil)))
      (as_seq (as_if (at_not (at_B (ab_call (ap_cons (ab_var 0) ap_nil)))) (as_ret (ab_op oa_eqS (ab_var 1) (ab_str _ (by decide +kernel)))) as_nil)
      (as_ret (ab_and (ab_op oa_isN (ab_var 1) ab_non) (ab_op oa_eqP (ab_callB ca_repr (ab_acons (ab_callX (ap_cons (ab_var 0) ap_nil)) ab_anil)) (ab_callB ca_repr (ab_acons (ab_call (ap_cons (ab_var 0) ap_nil)) ab_anil))))))), fun qs k R hl h => ?_⟩
  obtain ⟨v, rfl, hv, hp, h⟩ := h
  simp only [bodyB, env0, slA, List.map_cons, List.map_nil, List.cons_append, List.nil_append, List.length_cons, List.length_nil, List.replicate, List.getElem?_cons_zero, List.getElem?_cons_succ, List.set_cons_zero, List.set_cons_succ, Option.some.injEq, Sl.dat.injEq, Sl.own.injEq, PyData.bool.injEq, PyData.int.injEq, PyData.str.injEq, PyData.tuple.injEq, PyData.list.injEq, PyData.dict.injEq, Sl.tab.injEq, List.cons.injEq, exists_eq_left', exists_eq_left, eq_self, decide_true, if_true, reduceIte, Int.reduceLE, pure1, pure2, pure3, pure4, leiF_int, liF_int, giF_int, geiF_int, addF_int, subF_int, eqEF_nil, neF_int, eqF_int, lenF_str, lenF_list, lenF_tup, wipe0, wipe1, true_and, and_true, frz_list, frz_dict, frz_tup, frz_dat, frz_no, frz_pen, tab_list, tab_dict, Nat.reduceAdd, Nat.reduceSub, pf_iff hv]
  refine ⟨v, rfl, hv, hp, fun n => ?_, fun n => ?_⟩
  · exact ⟨.str "place", if_pos rfl, fun _ => ⟨_, rfl, k, Nat.le_refl _, h⟩, fun z => (by rw [n] at z; cases z)⟩
  · have pr : reprF [.str (Sx (placeL v))] = some (.str (PyData.str (Sx (placeL v))).shown) := goodP_repr (place_good (hp n)).2
    refine ⟨fun z => (by rw [n] at z; cases z), fun _ => ⟨_, rfl, _, rfl, fun _ => ⟨v, rfl, hv, hp, fun n2 => ?_, fun _ => ?_⟩, fun z => (nomatch z)⟩⟩
    · rw [n] at n2
      cases n2
    · exact ⟨_, pr, ⟨v, rfl, hp n, _, pr, _, eq_self_str _, k, Nat.le_refl _, h⟩⟩
end
end SM

set_option Elab.async false
set_option linter.all false
set_option maxRecDepth 100000
set_option maxHeartbeats 4000000
namespace SM
open PySem PySem.Spec PyProof.Rows L2
section
variable [PW] {K : PySem.W.Frag} {mg : Str → Option Value} {base : Heap} {kt : Str}
def ascP7 (l : List Nat) : Prop := ∀ c, c ∈ l → c < 128
theorem at_sx {l : List Nat} {i : Int} (h0 : 0 ≤ i) (h1 : i < l.length) : ∃ c, c ∈ l ∧ atD (.str (Sx l)) (.int i) = some (.str (Sx [c])) := by
  have hlt : i.toNat < l.length := by omega
  refine ⟨l[i.toNat], List.getElem_mem hlt, ?_⟩
  show ((ixN l.length i).bind fun j => l[j]?).map _ = _
  have e : ixN l.length i = some i.toNat := by
    unfold ixN
    rw [if_pos h0, if_pos h1]
  rw [e]
  show (l[i.toNat]?).map _ = _
  rw [List.getElem?_eq_getElem hlt] <;> rfl
theorem at_any {xs : List PyData} {i : Int} (h0 : 0 ≤ i) (h1 : i < xs.length) : ∃ d, d ∈ xs ∧ atD (.list xs) (.int i) = some d := by
  have hlt : i.toNat < xs.length := by omega
  refine ⟨xs[i.toNat], List.getElem_mem hlt, ?_⟩
  show (ixN xs.length i).bind (fun j => xs[j]?) = _
  have e : ixN xs.length i = some i.toNat := by
    unfold ixN
    rw [if_pos h0, if_pos h1]
  rw [e]
  exact List.getElem?_eq_getElem hlt
theorem sl_take (l : List Nat) (n : Nat) : slSF (.str (Sx l)) none (some (n : Int)) = some (.str (Sx (l.take n))) := by
  show some (PyData.str (cutS _ _ _)) = _
  rw [cut_take]
theorem sl_drop (l : List Nat) (n : Nat) : slSF (.str (Sx l)) (some (n : Int)) none = some (.str (Sx (l.drop n))) := by
  show some (PyData.str (cutS _ _ _)) = _
  rw [cut_drop]
def signsL : List Nat := [48, 49, 50, 51, 52, 53, 54, 55, 56, 57, 32, 97, 98, 110, 112, 115, 120, 101, 46, 47, 45, 43, 84, 95]
theorem e_signs : (Str.ofString "0123456789 abnpsxe./-+T_" : Str) = Sx signsL := by decide +kernel
theorem e_none : (Str.ofString "" : Str) = Sx [] := by decide +kernel
theorem sx_addC {a b : List Nat} (h : a.length + b.length ≤ 1000000) : strAddF (.str (Sx a)) (.str (Sx b)) = some (.str (Sx (a ++ b))) := by
  show (if _ then _ else _) = _
  rw [if_pos (by rw [sx_len, sx_len]; omega), sx_add]
theorem upper_sx {l : List Nat} (h : ascP7 l) : ∃ l', Txt.upper (Sx l) = Sx l' ∧ l'.length = l.length ∧ ascP7 l' := by
  obtain ⟨h1, h2⟩ := plainT_upper (N := 0) (x := Sx l) (plainT_iff.mpr fun c hc => h c (by rw [sx_cps] at hc; exact hc))
  refine ⟨(Txt.upper (Sx l)).cps.toList, sx_of _, ?_, plainT_iff.mp h1⟩
  rw [show (Txt.upper (Sx l)).cps.toList.length = (Txt.upper (Sx l)).length from Array.length_toList, h2, sx_len]
def ctS : SP := fun qs k R => ∃ l, qs = [none, some (.str (Sx l))] ∧ l.length ≤ 90000 ∧ ascP7 l ∧ 5 ≤ k ∧ k ≤ 1000000000 ∧ ∀ l', l'.length ≤ 2 * l.length + 1 → ascP7 l' → R (.str (Sx l')) (k - 5)
abbrev s_changed_text : Stmt := topS 54
theorem sc_changed_text : FnScope ["pen", "text", "at", "signs", "sign", "found"] ["pen", "text"] (defScope s_changed_text) := ⟨rfl, rfl, rfl, by decide +kernel, rfl, by decide +kernel, by decide +kernel⟩

abbrev O_changed_text (K : PySem.W.Frag) (mg : Str → Option Value) (base : Heap) (kt : Str) : Prop := Ok PW.prog PW.world K mg base CX0 "_law_changed_text" ["pen", "text"] 2 (liftS K kt 2 ctS)
theorem ok_changed_text (T : Txt K mg) (D : Def K mg "_law_changed_text" s_changed_text ["pen", "text"]) (O1 : O_law_draw K mg base kt) : O_changed_text K mg base kt := by
  obtain ⟨f_draw, fd_draw, G_draw, g_draw, k_draw, b_draw⟩ := O1
  refine D.okS sc_changed_text rfl fun f cdv A outer s H E hr hq => ⟨_, _, (pss_cons (ps_par (i := 2) (j := 3) (by rfl) sc_changed_text.nd rfl rfl (by decide) rfl rfl (pa_cons (pe_callG G_draw (hr.mono (by omega)) hq (by rfl) g_draw k_draw b_draw pass0 (pa_cons (pv 0) (pa_cons (pe_op op_add (pe_callB call_len (by rfl) T.b_len (by decide +kernel) (pa_cons (pv 1) pa_nil)) pe_int) pa_nil))) (pa_cons (pe_op op_add_str pe_str pe_str) pa_nil)) (by rfl))
      (pss_cons (ps_set (i := 4) sc_changed_text.nd rfl (Or.inl rfl) (pe_ix ix_seq (pv 3) (pe_callG G_draw (hr.mono (by omega)) hq (by rfl) g_draw k_draw b_draw pass0 (pa_cons (pv 0) (pa_cons (pe_callB call_len (by rfl) T.b_len (by decide +kernel) (pa_cons (pv 3) pa_nil)) pa_nil))) (fun _ _ => rfl)))
      (pss_cons (ps_set (i := 5) sc_changed_text.nd rfl (Or.inl rfl) (pe_lst (pa_cons (pe_op op_add_str (pe_op op_add_str (pe_slice sl_str (pv 1) po_none (po_some (pv 2))) (pv 4)) (pe_slice sl_str (pv 1) (po_some (pv 2)) po_none)) (pa_cons (pe_op op_add_str (pe_slice sl_str (pv 1) po_none (po_some (pv 2))) (pe_slice sl_str (pv 1) (po_some (pe_op op_add (pv 2) pe_int)) po_none)) (pa_cons (pe_op op_add_str (pe_op op_add_str (pe_slice sl_str (pv 1) po_none (po_some (pv 2))) (pv 4)) (pe_slice sl_str (pv 1) (po_some (pe_op op_add (pv 2) pe_int)) po_none)) pa_nil)))))
      (pss_cons (ps_set (i := 5) sc_changed_text.nd rfl (Or.inl rfl) (pe_op op_cat (pv 5) (pe_lst (pa_cons (pe_op op_add_str (pv 1) pe_str) (pa_cons (pe_op op_add_str pe_str (pv 1)) (pa_cons (pe_op op_add_str (pv 1) pe_str) (pa_cons (pe_slice sl_str (pv 1) po_none (po_some (pv 2))) (pa_cons (pe_slice sl_str (pv 1) (po_some (pv 2)) po_none) (pa_cons (pe_upper (pv 1)) (pa_cons (pe_op op_add_str (pv 1) (pv 1)) (pa_cons pe_str pa_nil)))))))))))
      (pss_one (ps_ret (pe_ix ix_seq (pv 5) (pe_callG G_draw (hr.mono (by omega)) hq (by rfl) g_draw k_draw b_draw pass0 (pa_cons (pv 0) (pa_cons pe_int pa_nil))) (fun _ _ => rfl)))))))), (as_seq (as_par (ab_acons (ab_call (ap_pen 0 (ap_cons (ab_op oa_add (ab_callB ca_len (ab_acons (ab_var 1) ab_anil)) (ab_int _)) ap_nil))) (ab_acons (ab_op oa_strAdd (ab_str _ (by decide +kernel)) (ab_str _ (by decide +kernel))) ab_anil)))
      (as_seq (as_set 4 (ab_op oa_ix (ab_var 3) (ab_call (ap_pen 0 (ap_cons (ab_callB ca_len (ab_acons (ab_var 3) ab_anil)) ap_nil)))))
      (as_seq (as_set 5 (af_lst (ab_acons (ab_op oa_strAdd (ab_op oa_strAdd (ab_sl sa_str (ab_var 1) ao_none (ao_some (ab_var 2))) (ab_var 4)) (ab_sl sa_str (ab_var 1) (ao_some (ab_var 2)) ao_none)) (ab_acons (ab_op oa_strAdd (ab_sl sa_str (ab_var 1) ao_none (ao_some (ab_var 2))) (ab_sl sa_str (ab_var 1) (ao_some (ab_op oa_add (ab_var 2) (ab_int _))) ao_none)) (ab_acons (ab_op oa_strAdd (ab_op oa_strAdd (ab_sl sa_str (ab_var 1) ao_none (ao_some (ab_var 2))) (ab_var 4)) (ab_sl sa_str (ab_var 1) (ao_some (ab_op oa_add (ab_var 2) (ab_int _))) ao_none)) ab_anil)))).ab)
      (as_seq (as_set 5 (af_op of_cat (ab_var 5) (af_lst (ab_acons (ab_op oa_strAdd (ab_var 1) (ab_str _ (by decide +kernel))) (ab_acons (ab_op oa_strAdd (ab_str _ (by decide +kernel)) (ab_var 1)) (ab_acons (ab_op oa_strAdd (ab_var 1) (ab_str _ (by decide +kernel))) (ab_acons (ab_sl sa_str (ab_var 1) ao_none (ao_some (ab_var 2))) (ab_acons (ab_sl sa_str (ab_var 1) (ao_some (ab_var 2)) ao_none) (ab_acons (ab_upper (ab_var 1)) (ab_acons (ab_op oa_strAdd (ab_var 1) (ab_var 1)) (ab_acons (ab_str _ (by decide +kernel)) ab_anil))))))))).ab).ab)
      (as_ret (ab_op oa_ix (ab_var 5) (ab_call (ap_pen 0 (ap_cons (ab_int _) ap_nil))))))))), fun qs k R hl h => ?_⟩
  obtain ⟨l, rfl, ll, hA, k1, k2, h⟩ := h
  have fin : ∀ l' k', k' ≤ k → k - 5 ≤ k' → l'.length ≤ 2 * l.length + 1 → ascP7 l' → ∃ k2, k2 ≤ k' ∧ R (.str (Sx l')) k2 := fun l' k' _ a b c => ⟨k - 5, a, h l' b c⟩
  simp only [bodyB, env0, slA, List.map_cons, List.map_nil, List.cons_append, List.nil_append, List.length_cons, List.length_nil, List.replicate, List.getElem?_cons_zero, List.getElem?_cons_succ, List.set_cons_zero, List.set_cons_succ, Option.some.injEq, Sl.dat.injEq, Sl.own.injEq, PyData.bool.injEq, PyData.int.injEq, PyData.str.injEq, PyData.tuple.injEq, PyData.list.injEq, PyData.dict.injEq, Sl.tab.injEq, List.cons.injEq, exists_eq_left', exists_eq_left, eq_self, decide_true, if_true, reduceIte, Int.reduceLE, pure1, pure2, pure3, pure4, leiF_int, liF_int, giF_int, geiF_int, addF_int, subF_int, eqEF_nil, neF_int, eqF_int, lenF_str, lenF_list, lenF_tup, wipe0, wipe1, true_and, and_true, frz_list, frz_dict, frz_tup, frz_dat, frz_no, frz_pen, tab_list, tab_dict, Nat.reduceAdd, Nat.reduceSub, draw_iff, e_signs, e_nl, e_sp, e_none, sx_len]
  refine ⟨by omega, line_le (by omega), by omega, k2, fun i i0 i1 => ?_⟩
  obtain ⟨n, rfl⟩ := Int.eq_ofNat_of_zero_le i0
  have hn : n ≤ l.length := by omega
  refine ⟨_, sx_addC (by show 24 + 1 ≤ 1000000; decide), _, _, ⟨rfl, rfl⟩, ?_⟩
  refine ⟨_, rfl, draw_iff.mpr ⟨by decide, by decide +kernel, by omega, by omega, fun j j0 j1 => ?_⟩⟩
  obtain ⟨c, hc, ec⟩ := at_sx (l := signsL ++ [10]) j0 (by
    rw [sx_len] at j1
    exact j1)
  have c128 : c < 128 := by
    have q : ∀ x, x ∈ signsL ++ [10] → x < 128 := by decide
    exact q c hc
  have n1 : addF (.int (n : Nat)) (.int 1) = some (.int ((n + 1 : Nat) : Int)) := rfl
  have tl := List.length_take (i := n) (l := l)
  have dl := List.length_drop (i := n) (l := l)
  have dl1 := List.length_drop (i := n + 1) (l := l)
  obtain ⟨u, eu, lu, au⟩ := upper_sx hA
  have aT : ∀ m, ascP7 (l.take m) := fun m x hx => hA x (List.mem_of_mem_take hx)
  have aD : ∀ m, ascP7 (l.drop m) := fun m x hx => hA x (List.mem_of_mem_drop hx)
  have aA : ∀ {a b : List Nat}, ascP7 a → ascP7 b → ascP7 (a ++ b) := fun {a b} h1 h2 x hx => (List.mem_append.mp hx).elim (h1 x) (h2 x)
  have a1 : ∀ x : Nat, x < 128 → ascP7 [x] := fun x hx y hy => by rw [List.mem_singleton.mp hy]; exact hx
  have aN : ascP7 [] := fun x hx => nomatch hx
  refine ⟨_, ec, _, rfl, _, sl_take l n, _, sx_addC (by rw [List.length_singleton]; omega), _, rfl, _, sl_drop l n, _, sx_addC (by rw [List.length_append, List.length_singleton]; omega), _, rfl, _, sl_take l n, _, n1, _, rfl, _, sl_drop l (n + 1), _, sx_addC (by omega),
    _, rfl, _, sl_take l n, _, sx_addC (by rw [List.length_singleton]; omega), _, n1, _, rfl, _, sl_drop l (n + 1), _, sx_addC (by rw [List.length_append, List.length_singleton]; omega), ?_⟩
  refine ⟨by decide, _, sx_addC (by rw [List.length_singleton]; omega), _, sx_addC (by rw [List.length_singleton]; omega), _, sx_addC (by rw [List.length_singleton]; omega), _, rfl, _, sl_take l n, _, rfl, _, sl_drop l n, by omega, by rw [eu, sx_len]; omega, _, sx_addC (by omega), by decide, _, cat_ll (by show 3 + 8 ≤ 100000; decide), by decide, by decide +kernel, by omega, by omega, fun i i0 i1 => ?_⟩
  obtain ⟨d, hd, ed⟩ := at_any (xs := [PyData.str (Sx (l.take n ++ [c] ++ l.drop n)), .str (Sx (l.take n ++ l.drop (n + 1))), .str (Sx (l.take n ++ [c] ++ l.drop (n + 1)))] ++ [.str (Sx (l ++ [10])), .str (Sx ([32] ++ l)), .str (Sx (l ++ [32])), .str (Sx (l.take n)), .str (Sx (l.drop n)), .str (Txt.upper (Sx l)), .str (Sx (l ++ l)), .str (Sx [])]) i0 (by simpa using i1)
  refine ⟨d, ed, ?_⟩
  have go : ∀ l', l'.length ≤ 2 * l.length + 1 → ascP7 l' → d = .str (Sx l') → ∃ k', k' ≤ k - 1 - 1 - 1 ∧ R d k' := fun l' q1 q2 q3 => by
    rw [q3]
    exact fin l' _ (by omega) (by omega) q1 q2
  simp only [List.mem_append, List.mem_cons, List.not_mem_nil, or_false] at hd
  rcases hd with (rfl | rfl | rfl) | rfl | rfl | rfl | rfl | rfl | rfl | rfl | rfl
  · exact go _ (by simp only [List.length_append, List.length_singleton]; omega) (aA (aA (aT n) (a1 c c128)) (aD n)) rfl
  · exact go _ (by simp only [List.length_append]; omega) (aA (aT n) (aD (n + 1))) rfl
  · exact go _ (by simp only [List.length_append, List.length_singleton]; omega) (aA (aA (aT n) (a1 c c128)) (aD (n + 1))) rfl
  · exact go _ (by simp only [List.length_append, List.length_singleton]; omega) (aA hA (a1 10 (by decide))) rfl
  · exact go _ (by simp only [List.length_append, List.length_singleton]; omega) (aA (a1 32 (by decide)) hA) rfl
  · exact go _ (by simp only [List.length_append, List.length_singleton]; omega) (aA hA (a1 32 (by decide))) rfl
  · exact go _ (by omega) (aT n) rfl
  · exact go _ (by omega) (aD n) rfl
  · exact go u (by omega) au (by rw [eu])
  · exact go _ (by simp only [List.length_append]; omega) (aA hA hA) rfl
  · exact go [] (by simp) aN rfl
end
end SM

set_option Elab.async false
set_option linter.all false
set_option maxRecDepth 100000
set_option maxHeartbeats 4000000
namespace SM
open PySem PySem.Spec PyProof.Rows L2
section
variable [PW] {K : PySem.W.Frag} {mg : Str → Option Value} {base : Heap} {kt : Str}
def goodV (v : PyData) : Prop := askV v ∧ (formB v = true → plT v)
def plQ (p : PyData) : Prop := ∃ (as : List Nat) (w : Str) (n : Nat), p = .tuple [.tuple (intsD as), .tuple [.str w, .int n]] ∧ (w = "node" ∨ w = "port") ∧ as.length ≤ 10 ∧ (∀ n, n ∈ as → n < 1000) ∧ n < 1000
def smallD (x : PyData) : Prop := x.plain = true ∧ (countB x = true → ∃ n : Nat, n < lineN ∧ x = .int n)
theorem small_nat {n : Nat} (h : n < lineN) : smallD (.int (n : Nat)) := ⟨rfl, fun _ => ⟨n, h, rfl⟩⟩
theorem smalls : ∀ {xs : List PyData}, (∀ x, x ∈ xs → smallD x) → PyData.plainAll xs = true ∧ (xs.all countB = true → ∃ as : List Nat, xs = intsD as ∧ ∀ n, n ∈ as → n < lineN)
  | [], _ => ⟨rfl, fun _ => ⟨[], rfl, fun _ h => (nomatch h)⟩⟩
  | x :: r, h => by
    obtain ⟨h1, h2⟩ := smalls (xs := r) fun y hy => h y (List.mem_cons_of_mem _ hy)
    obtain ⟨p1, p2⟩ := h x List.mem_cons_self
    refine ⟨?_, fun q => ?_⟩
    · show (x.plain && PyData.plainAll r) = true
      rw [p1, h1] <;> rfl
    · rw [List.all_cons, Bool.and_eq_true] at q
      obtain ⟨n, hn, rfl⟩ := p2 q.1
      obtain ⟨as, rfl, ha⟩ := h2 q.2
      exact ⟨n :: as, rfl, fun m hm => (List.mem_cons.mp hm).elim (fun z => by rw [z]; exact hn) (ha m)⟩
theorem kind_str {w : PyData} (h : kindOk w = true) : w = .str "node" ∨ w = .str "port" := by
  cases w <;> first | (cases h; done) | skip
  rename_i z
  have q : (strIs (.str (Str.ofString "node")) z || (strIs (.str (Str.ofString "port")) z || false)) = true := by
    have e : kindOk (.str z) = (PyData.eqv (.str "node") (.str z) || (PyData.eqv (.str "port") (.str z) || false)) := rfl
    rw [e, eqv_str, eqv_str] at h
    exact h
  simp only [Bool.or_eq_true, Bool.or_false] at q
  rcases q with q | q
  · exact .inl (by rw [← (beq_iff_eq.mp (show (Str.ofString "node" == z) = true from q))])
  · exact .inr (by rw [← (beq_iff_eq.mp (show (Str.ofString "port" == z) = true from q))])
theorem good_place {xs : List PyData} {w i : PyData} (h : ∀ x, x ∈ xs → smallD x) (hi : smallD i) (hw : w.plain = true) : goodV (.tuple [.tuple xs, .tuple [w, i]]) := by
  obtain ⟨h1, h2⟩ := smalls h
  refine ⟨fun ys e => ?_, fun q => ?_⟩
  · cases e
    simp only [PyData.plainAll, PyData.plain, h1, hw, hi.1, Bool.and_self, Bool.and_true]
  · have q2 : (decide (xs.length ≤ 200) && (kindOk w && (xs ++ [i]).all countB)) = true := q
    rw [List.all_append, Bool.and_eq_true, Bool.and_eq_true, Bool.and_eq_true, List.all_cons, List.all_nil, Bool.and_true] at q2
    obtain ⟨a1, a2, a3, a4⟩ := q2
    obtain ⟨as, rfl, ha⟩ := h2 a3
    obtain ⟨n, hn, rfl⟩ := hi.2 a4
    refine ⟨as, _, rfl, ?_, ha, n, hn, ?_⟩
    · have := of_decide_eq_true a1
      unfold intsD at this
      rw [List.length_map] at this
      exact this
    · rcases kind_str a2 with rfl | rfl
      · exact .inl rfl
      · exact .inr rfl
theorem good_not {v : PyData} (h : ∀ xs, v = .tuple xs → PyData.plainAll xs = true) (hf : formB v = false) : goodV v := ⟨h, fun z => by rw [hf] at z; cases z⟩
theorem tT_take (xs : List PyData) (n : Nat) (h : n ≤ xs.length) : slTF (.tuple xs) none (some (n : Int)) = some (.tuple (xs.take n)) := by
  show some (PyData.tuple (cutD xs none (some (n : Int)))) = _
  unfold cutD
  have e : HT.sIx xs.length xs.length (some (n : Int)) = n := by
    show ((if ((n : Nat) : Int) < 0 then (((n : Nat) : Int) + (xs.length : Int)).toNat else min ((n : Nat) : Int).toNat xs.length) : Nat) = n
    rw [if_neg (by omega), Int.toNat_natCast]
    omega
  rw [e, HT.sIx_none, List.drop_zero, Nat.sub_zero]
theorem tT_drop (xs : List PyData) (n : Nat) : slTF (.tuple xs) (some (n : Int)) none = some (.tuple (xs.drop n)) := by
  show some (PyData.tuple (cutD xs (some (n : Int)) none)) = _
  unfold cutD
  have e : HT.sIx xs.length 0 (some (n : Int)) = min n xs.length := by
    show ((if ((n : Nat) : Int) < 0 then (((n : Nat) : Int) + (xs.length : Int)).toNat else min ((n : Nat) : Int).toNat xs.length) : Nat) = _
    rw [if_neg (by omega), Int.toNat_natCast]
  rw [e, HT.sIx_none]
  congr 2
  by_cases z : n ≤ xs.length
  · rw [Nat.min_eq_left z, List.take_of_length_le (by rw [List.length_drop]; exact Nat.le_refl _)]
  · rw [Nat.min_eq_right (by omega), List.drop_eq_nil_of_le (Nat.le_refl _), List.drop_eq_nil_of_le (by omega), List.take_nil]
theorem plain_smalls {xs : List PyData} (h : ∀ x, x ∈ xs → smallD x) : PyData.plainAll xs = true := (smalls h).1
theorem zeros {k : Nat} (h : 2 ≤ k) (h2 : k ≤ 1000) : repF (.tuple [.int 0]) (.int (k : Nat)) = some (.tuple (List.replicate k (.int 0))) := by
  show (if _ then _ else _) = _
  rw [if_pos (by rw [decide_eq_true (show (2 : Int) ≤ (k : Nat) by omega), decide_eq_true (show ((k : Nat) : Int) ≤ 1000 by omega)]; rfl), Int.toNat_natCast]
  congr 2
  clear h h2
  induction k with
  | zero => rfl
  | succ k ih => rw [List.replicate_succ, List.flatten_cons, ih]; rfl
abbrev s_changed_place : Stmt := topS 60
theorem sc_changed_place : FnScope ["pen", "place", "address", "point", "at", "index", "word", "found"] ["pen", "place"] (defScope s_changed_place) := ⟨rfl, rfl, rfl, by decide +kernel, rfl, by decide +kernel, by decide +kernel⟩

def cpS : SP := fun qs k R => ∃ p, qs = [none, some p] ∧ plQ p ∧ 10 ≤ k ∧ k ≤ 1000000000 ∧ ∀ v, goodV v → R v (k - 10)
abbrev O_changed_place (K : PySem.W.Frag) (mg : Str → Option Value) (base : Heap) (kt : Str) : Prop := Ok PW.prog PW.world K mg base CX0 "_law_changed_place" ["pen", "place"] 3 (liftS K kt 2 cpS)
theorem ok_changed_place (T : Txt K mg) (D : Def K mg "_law_changed_place" s_changed_place ["pen", "place"]) (O1 : O_law_draw K mg base kt) (O2 : O_law_pick K mg base kt) : O_changed_place K mg base kt := by
  obtain ⟨f_draw, fd_draw, G_draw, g_draw, k_draw, b_draw⟩ := O1
  obtain ⟨f_pick, fd_pick, G_pick, g_pick, k_pick, b_pick⟩ := O2
  refine D.okS sc_changed_place rfl fun f cdv A outer s H E hr hq => ⟨_, _, (pss_cons (ps_asg (pv 1) (pg_tup (n := 2) (by rfl) (pgs_cons (pg_name (i := 2) sc_changed_place.nd rfl (Or.inl rfl)) (pgs_cons (pg_name (i := 3) sc_changed_place.nd rfl (Or.inl rfl)) pgs_nil))))
      (pss_cons (ps_par (i := 4) (j := 5) (by rfl) sc_changed_place.nd rfl rfl (by decide) rfl rfl (pa_cons (pe_callG G_draw (hr.mono (by omega)) hq (by rfl) g_draw k_draw b_draw pass0 (pa_cons (pv 0) (pa_cons (pe_op op_add (pe_callB call_len (by rfl) T.b_len (by decide +kernel) (pa_cons (pv 2) pa_nil)) pe_int) pa_nil))) (pa_cons (pe_callG G_pick (hr.mono (by omega)) hq (by rfl) g_pick k_pick b_pick pass0 (pa_cons (pv 0) (pa_cons (pe_lst (pa_cons pe_bl (pa_cons pe_bl (pa_cons (pe_un un_neg pe_int) (pa_cons pe_non (pa_cons pe_str (pa_cons (pe_op op_pow pe_int pe_int) (pa_cons (pe_tup pa_nil) (pa_cons pe_int pa_nil))))))))) pa_nil))) pa_nil)) (by rfl))
      (pss_cons (ps_set (i := 6) sc_changed_place.nd rfl (Or.inl rfl) (pe_callG G_pick (hr.mono (by omega)) hq (by rfl) g_pick k_pick b_pick pass0 (pa_cons (pv 0) (pa_cons (pe_lst (pa_cons pe_str (pa_cons pe_str (pa_cons pe_str (pa_cons pe_non (pa_cons pe_str (pa_cons (pe_tup (pa_cons pe_str pa_nil)) (pa_cons pe_str pa_nil)))))))) pa_nil))))
      (pss_cons (ps_set (i := 7) sc_changed_place.nd rfl (Or.inl rfl) (pe_lst (pa_cons (pe_tup (pa_cons (pe_op op_catA (pe_op op_catA (pe_slice sl_tupA (pv 2) po_none (po_some (pv 4))) (pe_tup (pa_cons (pv 5) pa_nil))) (pe_slice sl_tupA (pv 2) (po_some (pe_op op_add (pv 4) pe_int)) po_none)) (pa_cons (pv 3) pa_nil))) (pa_cons (pe_tup (pa_cons (pv 2) (pa_cons (pe_tup (pa_cons (pe_ix ix_seq (pv 3) pe_int (fun _ _ => rfl)) (pa_cons (pv 5) pa_nil))) pa_nil))) (pa_cons (pe_tup (pa_cons (pe_callTy call_list_of (by rfl) T.b_list (by decide +kernel) (pa_cons (pv 2) pa_nil)) (pa_cons (pv 3) pa_nil))) pa_nil)))))
      (pss_cons (ps_set (i := 7) sc_changed_place.nd rfl (Or.inl rfl) (pe_op op_cat (pv 7) (pe_lst (pa_cons (pe_tup (pa_cons (pv 2) (pa_cons (pe_callTy call_list_of (by rfl) T.b_list (by decide +kernel) (pa_cons (pv 3) pa_nil)) pa_nil))) (pa_cons (pe_tup (pa_cons (pv 2) (pa_cons (pe_op op_catA (pv 3) (pe_tup (pa_cons pe_int pa_nil))) pa_nil))) (pa_cons (pe_tup (pa_cons (pv 2) (pa_cons (pe_slice sl_tupA (pv 3) po_none (po_some pe_int)) pa_nil))) (pa_cons (pe_op op_catA (pv 1) (pe_tup (pa_cons pe_int pa_nil))) pa_nil)))))))
      (pss_cons (ps_set (i := 7) sc_changed_place.nd rfl (Or.inl rfl) (pe_op op_cat (pv 7) (pe_lst (pa_cons (pe_lst (pa_cons (pv 2) (pa_cons (pv 3) pa_nil))) (pa_cons (pe_tup (pa_cons (pv 2) (pa_cons (pe_tup (pa_cons (pv 6) (pa_cons (pe_ix ix_seq (pv 3) pe_int (fun _ _ => rfl)) pa_nil))) pa_nil))) (pa_cons (pe_tup (pa_cons (pv 2) (pa_cons (pe_tup (pa_cons (pv 6) (pa_cons pe_int (pa_cons pe_int pa_nil)))) pa_nil))) pa_nil))))))
      (pss_cons (ps_set (i := 7) sc_changed_place.nd rfl (Or.inl rfl) (pe_op op_cat (pv 7) (pe_lst (pa_cons (pe_tup (pa_cons (pe_op op_catA (pv 2) (pe_op op_repA (pe_tup (pa_cons pe_int pa_nil)) (pe_op op_sub pe_int (pe_callB call_len (by rfl) T.b_len (by decide +kernel) (pa_cons (pv 2) pa_nil))))) (pa_cons (pv 3) pa_nil))) (pa_cons (pe_tup (pa_cons (pe_op op_catA (pv 2) (pe_op op_repA (pe_tup (pa_cons pe_int pa_nil)) (pe_op op_sub pe_int (pe_callB call_len (by rfl) T.b_len (by decide +kernel) (pa_cons (pv 2) pa_nil))))) (pa_cons (pv 3) pa_nil))) pa_nil)))))
      (pss_one (ps_ret (pe_callG G_pick (hr.mono (by omega)) hq (by rfl) g_pick k_pick b_pick pass0 (pa_cons (pv 0) (pa_cons (pv 7) pa_nil)))))))))))), (as_seq (as_asg (ws := [2, 3]) (ab_var 1) (ag_tup (ag_cons (ag_name 2 (by decide)) (ag_cons (ag_name 3 (by decide)) ag_nil))))
      (as_seq (as_par (ab_acons (ab_call (ap_pen 0 (ap_cons (ab_op oa_add (ab_callB ca_len (ab_acons (ab_var 2) ab_anil)) (ab_int _)) ap_nil))) (ab_acons (ab_call (ap_pen 0 (ap_cons (af_lst (ab_acons (ab_bl _) (ab_acons (ab_bl _) (ab_acons (ab_neg (ab_int _)) (ab_acons ab_non (ab_acons (ab_str _ (by decide +kernel)) (ab_acons (ab_op oa_pow (ab_int _) (ab_int _)) (ab_acons (ab_tup ab_anil) (ab_acons (ab_int _) ab_anil))))))))).ab ap_nil))) ab_anil)))
      (as_seq (as_set 6 (ab_call (ap_pen 0 (ap_cons (af_lst (ab_acons (ab_str _ (by decide +kernel)) (ab_acons (ab_str _ (by decide +kernel)) (ab_acons (ab_str _ (by decide +kernel)) (ab_acons ab_non (ab_acons (ab_str _ (by decide +kernel)) (ab_acons (ab_tup (ab_acons (ab_str _ (by decide +kernel)) ab_anil)) (ab_acons (ab_str _ (by decide +kernel)) ab_anil)))))))).ab ap_nil))))
      (as_seq (as_set 7 (af_lst (ab_acons (ab_tup (ab_acons (ab_op oa_catT (ab_op oa_catT (ab_sl sa_tup (ab_var 2) ao_none (ao_some (ab_var 4))) (ab_tup (ab_acons (ab_var 5) ab_anil))) (ab_sl sa_tup (ab_var 2) (ao_some (ab_op oa_add (ab_var 4) (ab_int _))) ao_none)) (ab_acons (ab_var 3) ab_anil))) (ab_acons (ab_tup (ab_acons (ab_var 2) (ab_acons (ab_tup (ab_acons (ab_op oa_ix (ab_var 3) (ab_int _)) (ab_acons (ab_var 5) ab_anil))) ab_anil))) (ab_acons (ab_tup (ab_acons (af_callB cf_list (ab_acons (ab_var 2) ab_anil)).ab (ab_acons (ab_var 3) ab_anil))) ab_anil)))).ab)
      (as_seq (as_set 7 (af_op of_cat (ab_var 7) (af_lst (ab_acons (ab_tup (ab_acons (ab_var 2) (ab_acons (af_callB cf_list (ab_acons (ab_var 3) ab_anil)).ab ab_anil))) (ab_acons (ab_tup (ab_acons (ab_var 2) (ab_acons (ab_op oa_catT (ab_var 3) (ab_tup (ab_acons (ab_int _) ab_anil))) ab_anil))) (ab_acons (ab_tup (ab_acons (ab_var 2) (ab_acons (ab_sl sa_tup (ab_var 3) ao_none (ao_some (ab_int _))) ab_anil))) (ab_acons (ab_op oa_catT (ab_var 1) (ab_tup (ab_acons (ab_int _) ab_anil))) ab_anil))))).ab).ab)
      (as_seq (as_set 7 (af_op of_cat (ab_var 7) (af_lst (ab_acons (af_lst (ab_acons (ab_var 2) (ab_acons (ab_var 3) ab_anil))).ab (ab_acons (ab_tup (ab_acons (ab_var 2) (ab_acons (ab_tup (ab_acons (ab_var 6) (ab_acons (ab_op oa_ix (ab_var 3) (ab_int _)) ab_anil))) ab_anil))) (ab_acons (ab_tup (ab_acons (ab_var 2) (ab_acons (ab_tup (ab_acons (ab_var 6) (ab_acons (ab_int _) (ab_acons (ab_int _) ab_anil)))) ab_anil))) ab_anil)))).ab).ab)
      (as_seq (as_set 7 (af_op of_cat (ab_var 7) (af_lst (ab_acons (ab_tup (ab_acons (ab_op oa_catT (ab_var 2) (ab_op oa_rep (ab_tup (ab_acons (ab_int _) ab_anil)) (ab_op oa_sub (ab_int _) (ab_callB ca_len (ab_acons (ab_var 2) ab_anil))))) (ab_acons (ab_var 3) ab_anil))) (ab_acons (ab_tup (ab_acons (ab_op oa_catT (ab_var 2) (ab_op oa_rep (ab_tup (ab_acons (ab_int _) ab_anil)) (ab_op oa_sub (ab_int _) (ab_callB ca_len (ab_acons (ab_var 2) ab_anil))))) (ab_acons (ab_var 3) ab_anil))) ab_anil))).ab).ab)
      (as_ret (ab_call (ap_pen 0 (ap_cons (ab_var 7) ap_nil))))))))))), fun qs k R hl h => ?_⟩
  obtain ⟨p, rfl, ⟨as, w, n, rfl, hw, l1, l2, hn⟩, k1, k2, h⟩ := h
  have il : (intsD as).length = as.length := by unfold intsD; rw [List.length_map]
  have p59 : powF (.int 10) (.int 59) = some (.int (10 ^ 59)) := by simp [powF, fIC]
  have ng : negF (.int 1) = some (.int (-1)) := rfl
  simp only [bodyB, env0, slA, List.map_cons, List.map_nil, List.cons_append, List.nil_append, List.length_cons, List.length_nil, List.replicate, List.getElem?_cons_zero, List.getElem?_cons_succ, List.set_cons_zero, List.set_cons_succ, Option.some.injEq, Sl.dat.injEq, Sl.own.injEq, PyData.bool.injEq, PyData.int.injEq, PyData.str.injEq, PyData.tuple.injEq, PyData.list.injEq, PyData.dict.injEq, Sl.tab.injEq, List.cons.injEq, exists_eq_left', exists_eq_left, eq_self, decide_true, if_true, reduceIte, Int.reduceLE, pure1, pure2, pure3, pure4, leiF_int, liF_int, giF_int, geiF_int, addF_int, subF_int, eqEF_nil, neF_int, eqF_int, lenF_str, lenF_list, lenF_tup, wipe0, wipe1, true_and, and_true, frz_list, frz_dict, frz_tup, frz_dat, frz_no, frz_pen, tab_list, tab_dict, Nat.reduceAdd, Nat.reduceSub, draw_iff, pick_list, il, p59, ng]
  refine ⟨by omega, line_le (by omega), by omega, k2, fun j j0 j1 => ?_⟩
  obtain ⟨m, rfl⟩ := Int.eq_ofNat_of_zero_le j0
  have hm : m ≤ as.length := by omega
  refine ⟨by decide, by decide, by decide, by decide, by omega, by omega, fun x hx => ?_⟩
  have hx2 : smallD x := by
    simp only [List.mem_cons, List.not_mem_nil, or_false] at hx
    rcases hx with rfl | rfl | rfl | rfl | rfl | rfl | rfl | rfl
    all_goals first
      | exact ⟨rfl, fun z => Bool.noConfusion (show false = true from z)⟩
      | exact small_nat (n := 10 ^ 59) (by decide +kernel)
      | exact small_nat (n := 0) (by decide +kernel)
  refine ⟨_, _, ⟨rfl, rfl⟩, by decide, by decide, by decide, by decide, by omega, by omega, fun y hy => ?_⟩
  have hy2 : y.plain = true := by
    simp only [List.mem_cons, List.not_mem_nil, or_false] at hy
    rcases hy with rfl | rfl | rfl | rfl | rfl | rfl | rfl <;> rfl
  have cT : ∀ zs us : List PyData, zs.length + us.length ≤ 100000 → catTF (.tuple zs) (.tuple us) = some (.tuple (zs ++ us)) := fun zs us hz => if_pos hz
  have ad : addF (.int (m : Nat)) (.int 1) = some (.int ((m + 1 : Nat) : Int)) := rfl
  have tk := List.length_take (i := m) (l := intsD as)
  have dr := List.length_drop (i := m + 1) (l := intsD as)
  refine ⟨_, rfl, _, tT_take _ _ (by omega), by decide, _, cT _ _ (by rw [List.length_singleton]; omega), _, ad, _, rfl, _, tT_drop _ _, _, cT _ _ (by rw [List.length_append, List.length_singleton]; omega), by decide, _, at_tup0 _ _, by decide, by decide, _, rfl, by decide, by decide, _, rfl, by decide, by decide, ?_⟩
  have z1 : (200 : Int) - (as.length : Nat) = ((200 - as.length : Nat) : Int) := by omega
  have z2 : (201 : Int) - (as.length : Nat) = ((201 - as.length : Nat) : Int) := by omega
  refine ⟨_, cT _ _ (by show 2 + 1 ≤ 100000; decide), by decide, _, rfl, by decide, by decide, _, cT _ _ (by show 2 + 1 ≤ 100000; decide), by decide, _, cat_ll (by show 3 + 4 ≤ 100000; decide), by decide, _, rfl, by decide, by decide, by decide, by decide, by decide, _, cat_ll (by show 7 + 3 ≤ 100000; decide), by decide, ?_⟩
  rw [z1, z2]
  refine ⟨_, zeros (by omega) (by omega), _, cT _ _ (by rw [List.length_replicate]; omega), by decide, by decide, _, zeros (by omega) (by omega), _, cT _ _ (by rw [List.length_replicate]; omega), by decide, by decide, _, cat_ll (by show 10 + 2 ≤ 100000; decide), ?_⟩
  refine pick_list.mpr ⟨by show 0 < 12; decide, by show 12 < 1000000; decide, by omega, by omega, fun d hd => ?_⟩
  have fin : goodV d → ∃ k', k' ≤ k - 1 - 1 - 1 - 1 ∧ R d k' := fun g => ⟨k - 10, by omega, h d g⟩
  have sI : ∀ x, x ∈ intsD as → smallD x := fun x hx => by
    obtain ⟨q, hq, rfl⟩ := num_mem hx
    exact small_nat (Nat.lt_of_lt_of_le (l2 q hq) (by decide +kernel))
  have sn : smallD (.int (n : Nat)) := small_nat (Nat.lt_of_lt_of_le hn (by decide +kernel))
  have s0 : smallD (.int 0) := small_nat (n := 0) (by decide +kernel)
  have pI := plain_smalls sI
  have sz : ∀ q : Nat, ∀ x, x ∈ intsD as ++ List.replicate q (PyData.int 0) → smallD x := fun q x hx => (List.mem_append.mp hx).elim (sI x) fun z => by rw [List.eq_of_mem_replicate z]; exact s0
  have pl : ∀ u : PyData, u.plain = true → PyData.plainAll [.tuple (intsD as), u] = true := fun u hu => by
    simp only [PyData.plainAll, PyData.plain, pI, hu, Bool.and_self, Bool.and_true]
  apply fin
  simp only [List.mem_append, List.mem_cons, List.not_mem_nil, or_false] at hd
  rcases hd with (((rfl | rfl | rfl) | rfl | rfl | rfl | rfl) | rfl | rfl | rfl) | rfl | rfl
  · refine good_place (fun y hy => ?_) sn rfl
    rcases List.mem_append.mp hy with q | q
    · rcases List.mem_append.mp q with q | q
      · exact sI y (List.mem_of_mem_take q)
      · rw [List.mem_singleton.mp q]
        exact hx2
    · exact sI y (List.mem_of_mem_drop q)
  · exact good_place sI hx2 rfl
  · refine good_not (fun ys e => ?_) rfl
    cases e
    simp only [PyData.plainAll, PyData.plain, pI, Bool.and_self, Bool.and_true]
  · refine good_not (fun ys e => ?_) rfl
    cases e
    exact pl _ rfl
  · refine good_not (fun ys e => ?_) rfl
    cases e
    exact pl _ rfl
  · refine good_not (fun ys e => ?_) rfl
    cases e
    exact pl _ rfl
  · refine good_not (fun ys e => ?_) rfl
    cases e
    simp only [PyData.plainAll, PyData.plain, List.cons_append, List.nil_append, pI, Bool.and_self, Bool.and_true]
  · exact good_not (fun ys e => nomatch e) rfl
  · exact good_place sI sn hy2
  · refine good_not (fun ys e => ?_) rfl
    cases e
    refine pl _ ?_
    simp only [PyData.plain, PyData.plainAll, hy2, Bool.and_self, Bool.and_true]
  · exact good_place (sz _) sn rfl
  · exact good_place (sz _) sn rfl
end
end SM

set_option Elab.async false
set_option linter.all false
set_option maxRecDepth 100000
set_option maxHeartbeats 4000000
namespace SM
open PySem PySem.Spec PyProof.Rows L2
section
variable [PW] {K : PySem.W.Frag} {mg : Str → Option Value} {base : Heap} {kt : Str}
abbrev s_checked_atlas : Stmt := topS 22
theorem sc_checked_atlas : FnScope ["atlas", "reason"] ["atlas"] (defScope s_checked_atlas) := ⟨rfl, rfl, rfl, by decide +kernel, rfl, by decide +kernel, by decide +kernel⟩

def caX (C : Addr) : SPX := fun qs k R RX => ∃ v r, qs = [some v] ∧ errorG [v] = some r ∧ isNone r = false ∧ RX ⟨C, some ("reason", r)⟩ k
abbrev O_checked_atlas (K : PySem.W.Frag) (mg : Str → Option Value) (base : Heap) (kt : Str) : Prop := Ok PW.prog PW.world K mg base (L2.CX PW.prog PW.world) "checked_atlas" ["atlas"] 8 (liftX K kt 1 (caX (clsA mg "BadAtlas")))
theorem ok_checked_atlas (T : Txt K mg) (RB : RaisesI PW.prog PW.world K mg base "BadAtlas" (clsA mg "BadAtlas") "reason") (D : Def K mg "checked_atlas" s_checked_atlas ["atlas"]) (O1 : O_atlas_error K mg base kt) (O2 : O_maps_by_name K mg base kt) : O_checked_atlas K mg base kt := by
  obtain ⟨f_atlas_error, fd_atlas_error, G_atlas_error, g_atlas_error, k_atlas_error, b_atlas_error⟩ := O1
  obtain ⟨f_maps_by_name, fd_maps_by_name, G_maps_by_name, g_maps_by_name, k_maps_by_name, b_maps_by_name⟩ := O2
  obtain ⟨fI_BadAtlas, fd_BadAtlas, ps_BadAtlas, T_BadAtlas, I_BadAtlas, B_BadAtlas⟩ := RB.ex
  refine D.okX sc_checked_atlas rfl fun f cdv A outer s H E hr hq => ⟨_, _, (pss_cons (ps_set (i := 1) sc_checked_atlas.nd rfl (Or.inl rfl) (pe_callG G_atlas_error (hr.mono (by omega)) hq (by rfl) g_atlas_error k_atlas_error b_atlas_error pass0 (pa_cons (pv 0) pa_nil)))
      (pss_cons (ps_if (pt_cmpR op_notN (pv 1) pe_non (nomark _)) (pss_one (ps_raise1 T_BadAtlas I_BadAtlas B_BadAtlas (hr.mono (by omega)) (by rfl) (pa_cons (pv 1) pa_nil))) pss_nil)
      (pss_one (ps_ret (pe_callG G_maps_by_name (hr.mono (by omega)) hq (by rfl) g_maps_by_name k_maps_by_name b_maps_by_name pass0 (pa_cons (pv 0) pa_nil)))))), (as_seq (as_set 1 (ab_call (ap_cons (ab_var 0) ap_nil)))
      (as_seq (as_if (at_test (ab_op oa_notN (ab_var 1) ab_non)) (as_raise1 (ab_var 1)) as_nil)
      (as_ret (ab_call (ap_cons (ab_var 0) ap_nil))))), fun qs k R RX hl h => ?_⟩
  obtain ⟨v, r, rfl, e, n, h⟩ := h
  simp only [bodyB, env0, slA, List.map_cons, List.map_nil, List.cons_append, List.nil_append, List.length_cons, List.length_nil, List.replicate, List.getElem?_cons_zero, List.getElem?_cons_succ, List.set_cons_zero, List.set_cons_succ, Option.some.injEq, Sl.dat.injEq, Sl.own.injEq, PyData.bool.injEq, PyData.int.injEq, PyData.str.injEq, PyData.tuple.injEq, PyData.list.injEq, PyData.dict.injEq, Sl.tab.injEq, List.cons.injEq, exists_eq_left', exists_eq_left, eq_self, decide_true, if_true, reduceIte, Int.reduceLE, pure1, pure2, pure3, pure4, leiF_int, liF_int, giF_int, geiF_int, addF_int, subF_int, eqEF_nil, neF_int, eqF_int, lenF_str, lenF_list, lenF_tup, wipe0, wipe1, true_and, and_true, frz_list, frz_dict, frz_tup, frz_dat, frz_no, frz_pen, tab_list, tab_dict, Nat.reduceAdd, Nat.reduceSub, bodyX, e]
  have i1 : isnF r .none = some (.bool true) := by
    show some (PyData.bool (!isNone r)) = _
    rw [n] <;> rfl
  exact ⟨_, i1, _, rfl, fun _ => ⟨k, Nat.le_refl _, h⟩, fun z => (nomatch z)⟩
abbrev s_format_atlas : Stmt := topS 35
theorem sc_format_atlas : FnScope ["atlas", "chart", "line"] ["atlas"] (defScope s_format_atlas) := ⟨rfl, rfl, rfl, by decide +kernel, rfl, by decide +kernel, by decide +kernel⟩

abbrev O_format_atlas (K : PySem.W.Frag) (mg : Str → Option Value) (base : Heap) (kt : Str) : Prop := Ok PW.prog PW.world K mg base (L2.CX PW.prog PW.world) "format_atlas" ["atlas"] 9 (liftX K kt 1 (caX (clsA mg "BadAtlas")))
theorem ok_format_atlas (T : Txt K mg) (D : Def K mg "format_atlas" s_format_atlas ["atlas"]) (O1 : O_checked_atlas K mg base kt) (O2 : O_map_lines K mg base kt) : O_format_atlas K mg base kt := by
  obtain ⟨f_checked_atlas, fd_checked_atlas, G_checked_atlas, g_checked_atlas, k_checked_atlas, b_checked_atlas⟩ := O1
  obtain ⟨f_map_lines, fd_map_lines, G_map_lines, g_map_lines, k_map_lines, b_map_lines⟩ := O2
  refine D.okX sc_format_atlas rfl fun f cdv A outer s H E hr hq => ⟨_, _, (pss_cons (ps_expr (pe_callG G_checked_atlas (hr.mono (by omega)) hq (by rfl) g_checked_atlas k_checked_atlas b_checked_atlas passX (pa_cons (pv 0) pa_nil)))
      (pss_one (ps_ret (pe_join pe_str (pe_lc2 (own := [("chart", 1), ("line", 2)]) (g := gName 1) (g1 := gName 2) (vs1 := [2]) (by rfl) sc_format_atlas.nd (pi_tup (pv 0)) (blkOk_by (own := [("chart", 1), ("line", 2)]) (N := ["atlas", "chart", "line"]) (sc := defScope s_format_atlas) (by decide +kernel)) (by decide) (fun _ _ _ _ _ => (pg_name (i := 1) sc_format_atlas.nd rfl (Or.inl rfl))) (fun _ _ _ _ _ => pts_nil) (fun _ _ _ _ _ => (pi_list (pe_callG G_map_lines (hr.mono (by omega)) hq (by rfl) g_map_lines k_map_lines b_map_lines pass0 (pa_cons (pv 1) pa_nil)))) (fun _ _ _ _ _ => (pg_name (i := 2) sc_format_atlas.nd rfl (Or.inl rfl))) (fun _ _ _ _ _ => pts_nil) (fun _ _ _ _ _ => (pv 2))))))), (as_seq (as_dropX (ap_cons (ab_var 0) ap_nil))
      (as_ret (ab_join ((af_lc2 (ai_tup (ab_var 0)) (ag_name 1 (by decide)) at_yes (ai_list (ab_call (ap_cons (ab_var 1) ap_nil))) (ag_name 2 (by decide)) at_yes (ab_var 2))).ab))), fun qs k R RX hl h => ?_⟩
  obtain ⟨v, r, rfl, e, n, h⟩ := h
  simp only [bodyB, env0, slA, List.map_cons, List.map_nil, List.cons_append, List.nil_append, List.length_cons, List.length_nil, List.replicate, List.getElem?_cons_zero, List.getElem?_cons_succ, List.set_cons_zero, List.set_cons_succ, Option.some.injEq, Sl.dat.injEq, Sl.own.injEq, PyData.bool.injEq, PyData.int.injEq, PyData.str.injEq, PyData.tuple.injEq, PyData.list.injEq, PyData.dict.injEq, Sl.tab.injEq, List.cons.injEq, exists_eq_left', exists_eq_left, eq_self, decide_true, if_true, reduceIte, Int.reduceLE, pure1, pure2, pure3, pure4, leiF_int, liF_int, giF_int, geiF_int, addF_int, subF_int, eqEF_nil, neF_int, eqF_int, lenF_str, lenF_list, lenF_tup, wipe0, wipe1, true_and, and_true, frz_list, frz_dict, frz_tup, frz_dat, frz_no, frz_pen, tab_list, tab_dict, Nat.reduceAdd, Nat.reduceSub, bodyX]
  exact ⟨v, r, rfl, e, n, k, Nat.le_refl _, h⟩
end
end SM

set_option Elab.async false
set_option linter.all false
set_option maxRecDepth 100000
set_option maxHeartbeats 4000000
namespace SM
open PySem PySem.Spec PyProof.Rows L2
section
variable [PW] {K : PySem.W.Frag} {mg : Str → Option Value} {base : Heap} {kt : Str}
abbrev s_law : Stmt := topS 61
theorem sc_law : FnScope ["script", "pen", "odd", "again", "address", "place", "text", "one", "caught", "e", "k"] ["script"] (defScope s_law) := ⟨rfl, rfl, rfl, by decide +kernel, rfl, by decide +kernel, by decide +kernel⟩

abbrev NL : List Str := ["script", "pen", "odd", "again", "address", "place", "text", "one", "caught", "e", "k"]
def forBody : Stmt → List Stmt
  | .For _ _ b _ _ => b
  | _ => []
abbrev oopsB : List Stmt := forBody ((defBody s_law).getD 5 (.Pass ⟨0, 0, 0, 0⟩))
/-- what is known of the error of an atlas -/
structure OopsT (K : PySem.W.Frag) (mg : Str → Option Value) : Prop where
  gA : mg "BadAtlas" = some (.ref (clsA mg "BadAtlas"))
  gT : mg "BadText" = some (.ref (clsA mg "BadText"))
  gP : mg "BadPlace" = some (.ref (clsA mg "BadPlace"))
  gU : mg "UnknownMap" = some (.ref (clsA mg "UnknownMap"))
  bV : mg "ValueError" = none
  aa : PySem.W.exmOne K (.ref (clsA mg "BadAtlas")) (.ref (clsA mg "BadAtlas")) = some true
  eA : ExcC K (clsA mg "BadAtlas")
  kA : PySem.W.kitAny K (.ref (clsA mg "BadAtlas")) [.ref (clsA mg "BadText"), .ref (clsA mg "BadPlace"), .ref (clsA mg "UnknownMap")] = some false
  vA : PySem.W.kitOne K (.ref (clsA mg "BadAtlas")) (.type "ValueError") = some true
theorem set4 {α : Type} (σ : List α) {i j : Nat} (h : i ≠ j) (x y z w : α) : (((σ.set i x).set j y).set i z).set j w = (σ.set i z).set j w := by
  rw [List.set_comm _ _ h, List.set_set, List.set_comm _ _ h.symm, List.set_set]
theorem oops (T : Txt K mg) (ET : OopsT K mg) (O1 : O_format_atlas K mg base kt) (f : Addr) (cdv : Value) (A : Around) (outer : List Env) (s : Shared) (H : Hp) (E : XK) (hr : Room 19 (A.deeper (envOfC "law" (defScope s_law) s.heap.objs.size f cdv))) (hq : NoRepr (A.deeper (envOfC "law" (defScope s_law) s.heap.objs.size f cdv))) :
    ∃ t, PSs (cxOf CX0 PW.prog PW.world K mg base NL "law" (defScope s_law) f cdv A outer s H E).nox oopsB t ∧ AbsS XNo K kt t fun B env k => ∃ v r, env.length = 11 ∧ env[7]? = some (.dat v) ∧ errorG [v] = some r ∧ isNone r = false ∧ B.nx ((env.set 8 .no).set 9 .no) k := by
  obtain ⟨f_format_atlas, fd_format_atlas, G_format_atlas, g_format_atlas, k_format_atlas, b_format_atlas⟩ := O1
  refine ⟨_, pss_cons (ps_set (i := 8) sc_law.nd rfl (Or.inl rfl) pe_non)
    (pss_cons (ps_keep (x := "BadAtlas") (i := 9) (j := 8) rfl rfl rfl sc_law.nd rfl rfl rfl (.inl rfl) (.inl rfl) ⟨by rfl, by decide, .inl ET.gA⟩ takesN
      (fun W pn xe tk _ => pss_one (ps_expr (pe_callGS G_format_atlas (hr.mono (by omega)) hq (by rfl) g_format_atlas k_format_atlas b_format_atlas (fun σ => passAt tk σ) (pa_cons (pv 7) pa_nil)))) (.inl rfl))
    (pss_one (ps_if (PW.pt (pw_or (pt_cmpR op_isN (pv 8) pe_non (nomark _)) (pw_or (pt_val (pe_callB call_isXT (by rfl) T.b_isinstance (by decide +kernel) (pa_cons (pv 8) (pa_cons (pe_tup (pa_cons (pe_class (by rfl) ET.gT) (pa_cons (pe_class (by rfl) ET.gP) (pa_cons (pe_class (by rfl) ET.gU) pa_nil)))) pa_nil))))
      (pw_or1 (pt_not (pt_val (pe_callB call_isX (by rfl) T.b_isinstance (by decide +kernel) (pa_cons (pv 8) (pa_cons (pe_bltn (v := .ty "ValueError") (by rfl) ET.bV (by decide +kernel) rfl) pa_nil))))))))) (pss_one (ps_ret pe_bl)) pss_nil))), ?_⟩
  intro F M σ H1 env k B D h1 g e
  obtain ⟨v, r, hL, hi, he, hn, hx⟩ := g
  obtain ⟨w, hw, dv⟩ := h1.sl 7 v hi
  have hlen := h1.len
  have hw1 : (σ.set 8 (some V.non))[7]? = some (some w) := by rw [List.getElem?_set_ne (by decide)]; exact hw
  refine ⟨w, hw1, M, F.pen, [some v], k, (fun _ _ => False), (fun x k' => x = ⟨clsA mg "BadAtlas", some ("reason", r)⟩ ∧ k' = k), h1.trr, .cons (.dat dv) .nil, rfl, fun a ea => ⟨h1.sub _ (h1.pn a ea).1, h1.sub _ (h1.pn a ea).2.1, h1.fu a ea⟩, ⟨v, r, rfl, he, hn, rfl, rfl⟩, fun _ _ _ _ _ z => z.elim, ?_⟩
  rintro cls dd H2 x k' ⟨hc, hd⟩ gr fu ⟨rfl, rfl⟩
  obtain ⟨p, u, rfl, hp, np, hu⟩ := hd
  refine ⟨true, by rw [hc]; exact ET.aa, fun _ => ⟨clsA mg "BadAtlas", hc, fun a na => ?_⟩, fun z => nomatch z⟩
  rw [set4 σ (by decide : (8 : Nat) ≠ 9)]
  have h8 : ((σ.set 8 (some (V.ref a))).set 9 none)[8]? = some (some (.ref a)) := by
    rw [List.getElem?_set_ne (by decide), List.getElem?_set_self (by omega)]
  have pa : p ≠ a := ne_of_none hp na
  have xr0 : (upd H2 a (xco a (clsA mg "BadAtlas") (some p))) a = some (xco a (clsA mg "BadAtlas") (some p)) := upd_same
  refine ⟨.ref a, h8, rfl, false, rfl, .ref a, h8, (show 3 ≤ sizeLine by decide), fun t nt => ?_⟩
  have at_ : a ≠ t := fun z => by
    rw [← z, upd_same] at nt
    cases nt
  have pt_ : p ≠ t := fun z => by
    rw [← z, upd_ne pa, hp] at nt
    cases nt
  have sm : Same H2 (upd (upd H2 a (xco a (clsA mg "BadAtlas") (some p))) t (.tup [.ref (clsA mg "BadText"), .ref (clsA mg "BadPlace"), .ref (clsA mg "UnknownMap")])) := (same_upd na).trans (same_upd nt)
  have xr : XcR (upd (upd H2 a (xco a (clsA mg "BadAtlas") (some p))) t (.tup [.ref (clsA mg "BadText"), .ref (clsA mg "BadPlace"), .ref (clsA mg "UnknownMap")])) a (clsA mg "BadAtlas") [("reason", u)] :=
    .inr ⟨p, by rw [upd_ne at_, upd_same], by rw [upd_ne pt_, upd_ne pa]; exact hp⟩
  refine ⟨a, t, _, _, _, _, false, rfl, upd_same, xr, ET.eA, .cons (.own _) (.cons (.own _) (.cons (.own _) .nil)), ET.kA, false, rfl, ?_⟩
  refine ⟨.ref a, h8, a, _, _, _, _, true, rfl, xr, ET.eA, .ty _, ET.vA, true, rfl, ?_⟩
  have D2 := (h1.grow gr fu).same sm
  have D3 := (D2.put 8 (x := .no) (y := some (.ref a)) (fun d z => (by cases z)) (fun z => (by cases z)) (fun d z => (by cases z)) (fun ds z => (by cases z))).forget 9
  exact e.nx M _ _ _ k' D3 hx
end
end SM

set_option Elab.async false
set_option linter.all false
set_option maxRecDepth 100000
set_option maxHeartbeats 4000000
namespace SM
open PySem PySem.Spec PyProof.Rows L2
section
variable [PW] {K : PySem.W.Frag} {mg : Str → Option Value} {base : Heap} {kt : Str}
/-- a value that may be read and written -/
def oddV (v : PyData) : Prop := (∀ z, v = .str z → z.length ≤ 99000) ∧ goodV v
theorem rep_ok (x : Str) (n : Nat) (h1 : 2 ≤ n) (h2 : n ≤ 200) (h3 : x.length ≤ 10) (h4 : x.length ≠ 0) : ∃ y, repSF (.str x) (.int (n : Nat)) = some (.str y) ∧ y.length = n * x.length := by
  refine ⟨strRep x n, ?_, strRep_len x n⟩
  show (if _ then _ else _) = _
  rw [Int.toNat_natCast, if_pos]
  rw [decide_eq_true (show (2 : Int) ≤ (n : Nat) by omega), decide_eq_true (show ((n : Nat) : Int) ≤ 1000 by omega), decide_eq_true (show x.length ≤ 1000 by omega), decide_eq_true h4] <;> rfl
theorem add_ok (x y : Str) (h : x.length + y.length ≤ 100000) : strAddF (.str x) (.str y) = some (.str (x ++ y)) := if_pos (by omega)
theorem odd_str (z : Str) (h : z.length ≤ 99000) : oddV (.str z) := ⟨fun w e => by cases e; exact h, good_not (fun _ e => nomatch e) rfl⟩
theorem odd_of {v : PyData} (h : ∀ z, v ≠ .str z) (g : goodV v) : oddV v := ⟨fun z e => absurd e (h z), g⟩
def oddsL (a b c d e f g : Str) : List PyData := ([.none, .int 0, .bool true, .tuple [], .list [], .dict [], .str "", .str "/", .str "p0", .tuple [.tuple [], .none], .tuple [.none, .tuple [.str "port", .int 0]], .str "0/", .tuple [.str "0/n0"], .tuple [.tuple []], .str "./n0"] ++
  [.str a, .str b, .str c, .str d, .str e, .str "/s0.0"]) ++ [.str f, .str g]
theorem odds_ok {a b c d e f g : Str} (ha : a.length ≤ 99000) (hb : b.length ≤ 99000) (hc : c.length ≤ 99000) (hd : d.length ≤ 99000) (he : e.length ≤ 99000) (hf : f.length ≤ 99000) (hg : g.length ≤ 99000) : ∀ v, v ∈ oddsL a b c d e f g → oddV v := fun v hv => by
  unfold oddsL at hv
  simp only [List.mem_append, List.mem_cons, List.not_mem_nil, or_false] at hv
  rcases hv with ((rfl | rfl | rfl | rfl | rfl | rfl | rfl | rfl | rfl | rfl | rfl | rfl | rfl | rfl | rfl) | rfl | rfl | rfl | rfl | rfl | rfl) | rfl | rfl
  all_goals first
    | exact odd_str _ (by assumption)
    | exact odd_str _ (by decide +kernel)
    | exact odd_of (fun z e => by cases e) (good_not (fun xs e => by first | (cases e; done) | (cases e; rfl)) rfl)
theorem odds_cat (a b c d e f g : Str) : catF (.list ([.none, .int 0, .bool true, .tuple [], .list [], .dict [], .str "", .str "/", .str "p0", .tuple [.tuple [], .none], .tuple [.none, .tuple [.str "port", .int 0]], .str "0/", .tuple [.str "0/n0"], .tuple [.tuple []], .str "./n0"] ++
  [.str a, .str b, .str c, .str d, .str e, .str "/s0.0"])) (.list [.str f, .str g]) = some (.list (oddsL a b c d e f g)) := cat_ll (by show 21 + 2 ≤ 100000; decide)
theorem law_rest (T : Txt K mg) (ET : OopsT K mg) (O1 : O_law_pick K mg base kt) (O2 : O_law_draw K mg base kt) (O3 : O_law_place_text K mg base kt) (O4 : O_changed_text K mg base kt) (O5 : O_read_right K mg base kt) (O6 : O_written_right K mg base kt) (O7 : O_changed_place K mg base kt) (O8 : O_format_atlas K mg base kt)
    (hsy : ∃ o, base.get? sysModules = some o) (f : Addr) (cdv : Value) (A : Around) (outer : List Env) (s : Shared) (H : Hp) (E : XK) (hr : Room 19 (A.deeper (envOfC "law" (defScope s_law) s.heap.objs.size f cdv))) (hq : NoRepr (A.deeper (envOfC "law" (defScope s_law) s.heap.objs.size f cdv))) :
    ∃ t g, PSs (cxOf CX0 PW.prog PW.world K mg base NL "law" (defScope s_law) f cdv A outer s H E).nox ((defBody s_law).drop 1) t ∧ AbsS XNo K kt t g ∧
      ∀ (s0 : Sl) (k : Nat) (R : PyData → Nat → Prop), 100000 ≤ k → k ≤ 1000000000 → (∀ k', R (.bool true) k') →
        g (bodyB R) [s0, .pen, .no, .no, .no, .no, .no, .no, .no, .no, .no] k := by
  obtain ⟨t_oops, hm_oops, ha_oops⟩ := oops (kt := kt) T ET O8 f cdv A outer s H E hr hq
  obtain ⟨f_pick, fd_pick, G_pick, g_pick, k_pick, b_pick⟩ := O1
  obtain ⟨f_draw, fd_draw, G_draw, g_draw, k_draw, b_draw⟩ := O2
  obtain ⟨f_place_text1, fd_place_text1, G_place_text1, g_place_text1, k_place_text1, b_place_text1⟩ := O3
  obtain ⟨f_changed_text, fd_changed_text, G_changed_text, g_changed_text, k_changed_text, b_changed_text⟩ := O4
  obtain ⟨f_read_right, fd_read_right, G_read_right, g_read_right, k_read_right, b_read_right⟩ := O5
  obtain ⟨f_written_right, fd_written_right, G_written_right, g_written_right, k_written_right, b_written_right⟩ := O6
  obtain ⟨f_changed_place, fd_changed_place, G_changed_place, g_changed_place, k_changed_place, b_changed_place⟩ := O7
  refine ⟨_, _, (pss_cons (ps_set (i := 2) sc_law.nd rfl (Or.inl rfl) (pe_lst (pa_cons pe_non (pa_cons pe_int (pa_cons pe_bl (pa_cons (pe_tup pa_nil) (pa_cons (pe_lst pa_nil) (pa_cons pe_dnewK (pa_cons pe_str (pa_cons pe_str (pa_cons pe_str (pa_cons (pe_tup (pa_cons (pe_tup pa_nil) (pa_cons pe_non pa_nil))) (pa_cons (pe_tup (pa_cons pe_non (pa_cons (pe_tup (pa_cons pe_str (pa_cons pe_int pa_nil))) pa_nil))) (pa_cons pe_str (pa_cons (pe_tup (pa_cons pe_str pa_nil)) (pa_cons (pe_tup (pa_cons (pe_tup pa_nil) pa_nil)) (pa_cons pe_str pa_nil)))))))))))))))))
      (pss_cons (ps_set (i := 2) sc_law.nd rfl (Or.inl rfl) (pe_op op_cat (pv 2) (pe_lst (pa_cons (pe_op op_add_str (pe_op op_mul_str pe_str pe_int) pe_str) (pa_cons (pe_op op_add_str (pe_op op_mul_str pe_str pe_int) pe_str) (pa_cons (pe_op op_add_str pe_str (pe_op op_mul_str pe_str pe_int)) (pa_cons (pe_op op_add_str pe_str (pe_op op_mul_str pe_str pe_int)) (pa_cons (pe_op op_add_str (pe_op op_mul_str pe_str pe_int) pe_str) (pa_cons pe_str pa_nil)))))))))
      (pss_cons (ps_set (i := 2) sc_law.nd rfl (Or.inl rfl) (pe_op op_cat (pv 2) (pe_lst (pa_cons (pe_op op_add_str (pe_op op_mul_str pe_str pe_int) pe_str) (pa_cons (pe_op op_add_str (pe_op op_add_str pe_str (pe_op op_mul_str pe_str pe_int)) pe_str) pa_nil)))))
      (pss_cons (ps_for PassesOwn.never rfl (pi_range1 (by rfl) T.b_range (pa_cons pe_int pa_nil)) (pg_name (i := 3) sc_law.nd rfl (Or.inl rfl))
        (pss_cons (ps_set (i := 4) sc_law.nd rfl (Or.inl rfl) (pe_callTy call_tuple_of (by rfl) T.b_tuple (by decide +kernel) (pa_cons (pe_lc (own := [("k", 10)]) (g := gName 10) (by rfl) sc_law.nd (pi_range1 (by rfl) T.b_range (pa_cons (pe_callG G_draw (hr.mono (by omega)) hq (by rfl) g_draw k_draw b_draw pass0 (pa_cons (pv 1) (pa_cons pe_int pa_nil))) pa_nil)) (blkOk_by (own := [("k", 10)]) (N := ["script", "pen", "odd", "again", "address", "place", "text", "one", "caught", "e", "k"]) (sc := defScope s_law) (by decide +kernel)) (fun _ _ _ _ _ => (pg_name (i := 10) sc_law.nd rfl (Or.inl rfl))) (fun _ _ _ _ _ => pts_nil) (fun _ _ _ _ _ => (pe_callG G_draw (hr.mono (by omega)) hq (by rfl) g_draw k_draw b_draw pass0 (pa_cons (pv 1) (pa_cons (pe_callG G_pick (hr.mono (by omega)) hq (by rfl) g_pick k_pick b_pick pass0 (pa_cons (pv 1) (pa_cons (pe_lst (pa_cons pe_int (pa_cons pe_int pa_nil))) pa_nil))) pa_nil))))) pa_nil)))
          (pss_cons (ps_set (i := 5) sc_law.nd rfl (Or.inl rfl) (pe_tup (pa_cons (pv 4) (pa_cons (pe_tup (pa_cons (pe_callG G_pick (hr.mono (by omega)) hq (by rfl) g_pick k_pick b_pick pass0 (pa_cons (pv 1) (pa_cons (pe_lst (pa_cons pe_str (pa_cons pe_str pa_nil))) pa_nil))) (pa_cons (pe_callG G_draw (hr.mono (by omega)) hq (by rfl) g_draw k_draw b_draw pass0 (pa_cons (pv 1) (pa_cons pe_int pa_nil))) pa_nil))) pa_nil))))
          (pss_cons (ps_set (i := 6) sc_law.nd rfl (Or.inl rfl) (pe_callG G_changed_text (hr.mono (by omega)) hq (by rfl) g_changed_text k_changed_text b_changed_text pass0 (pa_cons (pv 1) (pa_cons (pe_callG G_place_text1 (hr.mono (by omega)) hq (by rfl) g_place_text1 k_place_text1 b_place_text1 pass0 (pa_cons (pv 5) pa_nil)) pa_nil))))
          (C8.pss_cut (ps_if (pt_cmpR (op_eqP hr.units) (pe_callG G_draw (hr.mono (by omega)) hq (by rfl) g_draw k_draw b_draw pass0 (pa_cons (pv 1) (pa_cons pe_int pa_nil))) pe_int (nomark _)) (pss_one (ps_set (i := 6) sc_law.nd rfl (Or.inl rfl) (pe_callG G_changed_text (hr.mono (by omega)) hq (by rfl) g_changed_text k_changed_text b_changed_text pass0 (pa_cons (pv 1) (pa_cons (pv 6) pa_nil))))) pss_nil)
          (pss_cons (ps_for PassesOwn.never rfl (pi_tup (pe_tup (pa_cons (pv 6) (pa_cons (pe_callG G_pick (hr.mono (by omega)) hq (by rfl) g_pick k_pick b_pick pass0 (pa_cons (pv 1) (pa_cons (pv 2) pa_nil))) (pa_cons (pe_callG G_place_text1 (hr.mono (by omega)) hq (by rfl) g_place_text1 k_place_text1 b_place_text1 pass0 (pa_cons (pv 5) pa_nil)) pa_nil))))) (pg_name (i := 7) sc_law.nd rfl (Or.inl rfl))
            (pss_one (ps_if (pt_not (pt_val (pe_callG G_read_right (hr.mono (by omega)) hq (by rfl) g_read_right k_read_right b_read_right pass0 (pa_cons (pv 7) pa_nil)))) (pss_one (ps_ret pe_bl)) pss_nil)))
          (pss_one (ps_for PassesOwn.never rfl (pi_tup (pe_tup (pa_cons (pv 5) (pa_cons (pe_callG G_changed_place (hr.mono (by omega)) hq (by rfl) g_changed_place k_changed_place b_changed_place pass0 (pa_cons (pv 1) (pa_cons (pv 5) pa_nil))) (pa_cons (pe_callG G_pick (hr.mono (by omega)) hq (by rfl) g_pick k_pick b_pick pass0 (pa_cons (pv 1) (pa_cons (pv 2) pa_nil))) pa_nil))))) (pg_name (i := 7) sc_law.nd rfl (Or.inl rfl))
            (pss_one (ps_if (pt_not (pt_val (pe_callG G_written_right (hr.mono (by omega)) hq (by rfl) g_written_right k_written_right b_written_right pass0 (pa_cons (pv 7) pa_nil)))) (pss_one (ps_ret pe_bl)) pss_nil))))))))))
      (pss_cons (ps_for PassesOwn.never rfl (pi_tup (pe_tup (pa_cons pe_non (pa_cons (pe_tup pa_nil) (pa_cons pe_str (pa_cons (pe_lst (pa_cons (pe_tup (pa_cons pe_str (pa_cons pe_int (pa_cons (pe_tup pa_nil) (pa_cons (pe_tup pa_nil) (pa_cons (pe_tup pa_nil) pa_nil)))))) pa_nil)) (pa_cons (pe_tup (pa_cons (pe_tup pa_nil) (pa_cons (pe_tup (pa_cons pe_str (pa_cons pe_int pa_nil))) pa_nil))) pa_nil))))))) (pg_name (i := 7) sc_law.nd rfl (Or.inl rfl))
        hm_oops)
      (pss_one (ps_ret pe_bl))))))), (as_seq (as_set 2 (af_lst (ab_acons ab_non (ab_acons (ab_int _) (ab_acons (ab_bl _) (ab_acons (ab_tup ab_anil) (ab_acons (af_lst ab_anil).ab (ab_acons (af_dnewK).ab (ab_acons (ab_str _ (by decide +kernel)) (ab_acons (ab_str _ (by decide +kernel)) (ab_acons (ab_str _ (by decide +kernel)) (ab_acons (ab_tup (ab_acons (ab_tup ab_anil) (ab_acons ab_non ab_anil))) (ab_acons (ab_tup (ab_acons ab_non (ab_acons (ab_tup (ab_acons (ab_str _ (by decide +kernel)) (ab_acons (ab_int _) ab_anil))) ab_anil))) (ab_acons (ab_str _ (by decide +kernel)) (ab_acons (ab_tup (ab_acons (ab_str _ (by decide +kernel)) ab_anil)) (ab_acons (ab_tup (ab_acons (ab_tup ab_anil) ab_anil)) (ab_acons (ab_str _ (by decide +kernel)) ab_anil)))))))))))))))).ab)
      (as_seq (as_set 2 (af_op of_cat (ab_var 2) (af_lst (ab_acons (ab_op oa_strAdd (ab_op oa_repS (ab_str _ (by decide +kernel)) (ab_int _)) (ab_str _ (by decide +kernel))) (ab_acons (ab_op oa_strAdd (ab_op oa_repS (ab_str _ (by decide +kernel)) (ab_int _)) (ab_str _ (by decide +kernel))) (ab_acons (ab_op oa_strAdd (ab_str _ (by decide +kernel)) (ab_op oa_repS (ab_str _ (by decide +kernel)) (ab_int _))) (ab_acons (ab_op oa_strAdd (ab_str _ (by decide +kernel)) (ab_op oa_repS (ab_str _ (by decide +kernel)) (ab_int _))) (ab_acons (ab_op oa_strAdd (ab_op oa_repS (ab_str _ (by decide +kernel)) (ab_int _)) (ab_str _ (by decide +kernel))) (ab_acons (ab_str _ (by decide +kernel)) ab_anil))))))).ab).ab)
      (as_seq (as_set 2 (af_op of_cat (ab_var 2) (af_lst (ab_acons (ab_op oa_strAdd (ab_op oa_repS (ab_str _ (by decide +kernel)) (ab_int _)) (ab_str _ (by decide +kernel))) (ab_acons (ab_op oa_strAdd (ab_op oa_strAdd (ab_str _ (by decide +kernel)) (ab_op oa_repS (ab_str _ (by decide +kernel)) (ab_int _))) (ab_str _ (by decide +kernel))) ab_anil))).ab).ab)
      (as_seq (as_for (ws := [3]) (ai_range1 (ab_acons (ab_int _) ab_anil)) (ag_name 3 (by decide))
        (as_seq (as_set 4 (ab_callB ca_tuple (ab_acons ((af_lc (ai_range1 (ab_acons (ab_call (ap_pen 1 (ap_cons (ab_int _) ap_nil))) ab_anil)) (ag_name 10 (by decide)) at_yes (ab_call (ap_pen 1 (ap_cons (ab_call (ap_pen 1 (ap_cons (af_lst (ab_acons (ab_int _) (ab_acons (ab_int _) ab_anil))).ab ap_nil))) ap_nil))))).ab ab_anil)))
          (as_seq (as_set 5 (ab_tup (ab_acons (ab_var 4) (ab_acons (ab_tup (ab_acons (ab_call (ap_pen 1 (ap_cons (af_lst (ab_acons (ab_str _ (by decide +kernel)) (ab_acons (ab_str _ (by decide +kernel)) ab_anil))).ab ap_nil))) (ab_acons (ab_call (ap_pen 1 (ap_cons (ab_int _) ap_nil))) ab_anil))) ab_anil))))
          (as_seq (as_set 6 (ab_call (ap_pen 1 (ap_cons (ab_call (ap_cons (ab_var 5) ap_nil)) ap_nil))))
          (as_cut (as_if (at_test (ab_op oa_eqP (ab_call (ap_pen 1 (ap_cons (ab_int _) ap_nil))) (ab_int _))) (as_set 6 (ab_call (ap_pen 1 (ap_cons (ab_var 6) ap_nil)))) as_nil)
          (as_seq (as_for (ws := [7]) (ai_tup (ab_tup (ab_acons (ab_var 6) (ab_acons (ab_call (ap_pen 1 (ap_cons (ab_var 2) ap_nil))) (ab_acons (ab_call (ap_cons (ab_var 5) ap_nil)) ab_anil))))) (ag_name 7 (by decide))
            (as_if (at_not (at_B (ab_call (ap_cons (ab_var 7) ap_nil)))) (as_ret (ab_bl _)) as_nil))
          (as_for (ws := [7]) (ai_tup (ab_tup (ab_acons (ab_var 5) (ab_acons (ab_call (ap_pen 1 (ap_cons (ab_var 5) ap_nil))) (ab_acons (ab_call (ap_pen 1 (ap_cons (ab_var 2) ap_nil))) ab_anil))))) (ag_name 7 (by decide))
            (as_if (at_not (at_B (ab_call (ap_cons (ab_var 7) ap_nil)))) (as_ret (ab_bl _)) as_nil))))))))
      (as_seq (as_for (ws := [7]) (ai_tup (ab_tup (ab_acons ab_non (ab_acons (ab_tup ab_anil) (ab_acons (ab_str _ (by decide +kernel)) (ab_acons (af_lst (ab_acons (ab_tup (ab_acons (ab_str _ (by decide +kernel)) (ab_acons (ab_int _) (ab_acons (ab_tup ab_anil) (ab_acons (ab_tup ab_anil) (ab_acons (ab_tup ab_anil) ab_anil)))))) ab_anil)).ab (ab_acons (ab_tup (ab_acons (ab_tup ab_anil) (ab_acons (ab_tup (ab_acons (ab_str _ (by decide +kernel)) (ab_acons (ab_int _) ab_anil))) ab_anil))) ab_anil))))))) (ag_name 7 (by decide))
        ha_oops)
      (as_ret (ab_bl _))))))), fun s0 k R k1 k2 h => ?_⟩
  obtain ⟨y1, r1, n1⟩ := rep_ok "0." 199 (by decide) (by decide) (by decide +kernel) (by decide +kernel)
  obtain ⟨y2, r2, n2⟩ := rep_ok "0." 200 (by decide) (by decide) (by decide +kernel) (by decide +kernel)
  obtain ⟨y3, r3, n3⟩ := rep_ok "9" 60 (by decide) (by decide) (by decide +kernel) (by decide +kernel)
  obtain ⟨y4, r4, n4⟩ := rep_ok "9" 61 (by decide) (by decide) (by decide +kernel) (by decide +kernel)
  have l0 : (Str.ofString "0.").length = 2 := by decide +kernel
  have l9 : (Str.ofString "9").length = 1 := by decide +kernel
  rw [l0] at n1 n2
  rw [l9] at n3 n4
  simp only [bodyB, env0, slA, List.map_cons, List.map_nil, List.cons_append, List.nil_append, List.length_cons, List.length_nil, List.replicate, List.getElem?_cons_zero, List.getElem?_cons_succ, List.set_cons_zero, List.set_cons_succ, Option.some.injEq, Sl.dat.injEq, Sl.own.injEq, PyData.bool.injEq, PyData.int.injEq, PyData.str.injEq, PyData.tuple.injEq, PyData.list.injEq, PyData.dict.injEq, Sl.tab.injEq, List.cons.injEq, exists_eq_left', exists_eq_left, eq_self, decide_true, if_true, reduceIte, Int.reduceLE, pure1, pure2, pure3, pure4, leiF_int, liF_int, giF_int, geiF_int, addF_int, subF_int, eqEF_nil, neF_int, eqF_int, lenF_str, lenF_list, lenF_tup, wipe0, wipe1, true_and, and_true, frz_list, frz_dict, frz_tup, frz_dat, frz_no, frz_pen, tab_list, tab_dict, Nat.reduceAdd, Nat.reduceSub, pick_list, draw_iff]
  refine ⟨by decide, by decide, by decide, by decide, by decide, by decide, by decide, by decide, by decide, by decide, _, r1, _, add_ok _ _ (by rw [n1, show (Str.ofString "0/p0").length = 4 by decide +kernel]; decide), _, r2, _, add_ok _ _ (by rw [n2, show (Str.ofString "0/p0").length = 4 by decide +kernel]; decide),
    _, r3, _, add_ok _ _ (by rw [n3, show (Str.ofString "/n").length = 2 by decide +kernel]; decide), _, r4, _, add_ok _ _ (by rw [n4, show (Str.ofString "/n").length = 2 by decide +kernel]; decide), _, r4, _, add_ok _ _ (by rw [n4, show (Str.ofString "/n0").length = 3 by decide +kernel]; decide), by decide, _, cat_ll (by show 15 + 6 ≤ 100000; decide),
    _, r3, _, add_ok _ _ (by rw [n3, show (Str.ofString "/n0").length = 3 by decide +kernel]; decide), ?_⟩
  have a1 : (Str.ofString "0/p0").length = 4 := by decide +kernel
  have a2 : (Str.ofString "/n").length = 2 := by decide +kernel
  have a3 : (Str.ofString "/n0").length = 3 := by decide +kernel
  have a4 : (Str.ofString "/p1").length = 3 := by decide +kernel
  have len_add : ∀ x y : Str, (x ++ y).length = x.length + y.length := fun x y => by
    show (x ++ y).cps.size = _
    rw [Str.cps_append, Array.size_append] <;> rfl
  refine ⟨_, r3, _, add_ok _ _ (by rw [n3, l0]; decide), _, add_ok _ _ (by rw [len_add, n3, l0, a4]; decide), by decide, _, odds_cat _ _ _ _ _ _ _, by decide, by decide, ?_⟩
  have ho := odds_ok (a := y1 ++ "0/p0") (b := y2 ++ "0/p0") (c := Str.ofString "/n" ++ y3) (d := Str.ofString "/n" ++ y4) (e := y4 ++ "/n0") (f := y3 ++ "/n0") (g := Str.ofString "0." ++ y3 ++ "/p1") (by rw [len_add, n1, a1]; decide) (by rw [len_add, n2, a1]; decide) (by rw [len_add, n3, a2]; decide) (by rw [len_add, n4, a2]; decide) (by rw [len_add, n4, a3]; decide) (by rw [len_add, n3, a3]; decide) (by rw [len_add, len_add, n3, l0, a4]; decide)
  have lo : (oddsL (y1 ++ "0/p0") (y2 ++ "0/p0") (Str.ofString "/n" ++ y3) (Str.ofString "/n" ++ y4) (y4 ++ "/n0") (y3 ++ "/n0") (Str.ofString "0." ++ y3 ++ "/p1")).length = 23 := rfl
  generalize oddsL (y1 ++ "0/p0") (y2 ++ "0/p0") (Str.ofString "/n" ++ y3) (Str.ofString "/n" ++ y4) (y4 ++ "/n0") (y3 ++ "/n0") (Str.ofString "0." ++ y3 ++ "/p1") = odd at ho lo ⊢
  have rl : ∀ n : Nat, ((List.range n).map fun i => PyData.int (i : Nat)).length = n := fun n => by rw [List.length_map, List.length_range]
  refine for_rec (fun rest env k' => ∃ x3 x4 x5 x6 x7 x8 x9 x10, k' ≤ 1000000000 ∧ 1000 * rest.length ≤ k' ∧ env = [s0, .pen, .dat (.list odd), x3, x4, x5, x6, x7, x8, x9, x10]) ?_ ?_ ⟨.no, .no, .no, .no, .no, .no, .no, .no, k2, (show 1000 * 20 ≤ k by omega), rfl⟩
  · rintro env k' ⟨x3, x4, x5, x6, x7, x8, x9, x10, b1, b2, rfl⟩
    simp only [bodyB, env0, slA, List.map_cons, List.map_nil, List.cons_append, List.nil_append, List.length_cons, List.length_nil, List.replicate, List.getElem?_cons_zero, List.getElem?_cons_succ, List.set_cons_zero, List.set_cons_succ, Option.some.injEq, Sl.dat.injEq, Sl.own.injEq, PyData.bool.injEq, PyData.int.injEq, PyData.str.injEq, PyData.tuple.injEq, PyData.list.injEq, PyData.dict.injEq, Sl.tab.injEq, List.cons.injEq, exists_eq_left', exists_eq_left, eq_self, decide_true, if_true, reduceIte, Int.reduceLE, pure1, pure2, pure3, pure4, leiF_int, liF_int, giF_int, geiF_int, addF_int, subF_int, eqEF_nil, neF_int, eqF_int, lenF_str, lenF_list, lenF_tup, wipe0, wipe1, true_and, and_true, frz_list, frz_dict, frz_tup, frz_dat, frz_no, frz_pen, tab_list, tab_dict, Nat.reduceAdd, Nat.reduceSub]
    refine ⟨by decide, by decide, by decide, by decide, by decide, by decide, by decide, by decide, by decide, by decide, for_rec (fun rest env _ => ∃ x3 x4 x5 x6 x7 x8 x9 x10, (∀ v, v ∈ rest → isNone (errorD v) = false) ∧ env = [s0, .pen, .dat (.list odd), x3, x4, x5, x6, x7, x8, x9, x10]) ?_ ?_ ⟨x3, x4, x5, x6, x7, x8, x9, x10, fun v hv => ?_, rfl⟩⟩
    · rintro env k2 _
      exact ⟨k2, Nat.le_refl _, h _⟩
    · rintro v r env k2 ⟨x3, x4, x5, x6, x7, x8, x9, x10, hn, rfl⟩ N hN
      refine ⟨v, _, rfl, rfl, rfl, hn v List.mem_cons_self, hN _ _ ⟨x3, x4, x5, x6, .dat v, .no, .no, x10, fun u hu => hn u (List.mem_cons_of_mem _ hu), rfl⟩⟩
    · simp only [List.mem_cons, List.not_mem_nil, or_false] at hv
      rcases hv with rfl | rfl | rfl | rfl | rfl <;> rfl
  rintro c r env k' ⟨x3, x4, x5, x6, x7, x8, x9, x10, b1, b2, rfl⟩ N hN
  rw [List.length_cons] at b2
  simp only [bodyB, env0, slA, List.map_cons, List.map_nil, List.cons_append, List.nil_append, List.length_cons, List.length_nil, List.replicate, List.getElem?_cons_zero, List.getElem?_cons_succ, List.set_cons_zero, List.set_cons_succ, Option.some.injEq, Sl.dat.injEq, Sl.own.injEq, PyData.bool.injEq, PyData.int.injEq, PyData.str.injEq, PyData.tuple.injEq, PyData.list.injEq, PyData.dict.injEq, Sl.tab.injEq, List.cons.injEq, exists_eq_left', exists_eq_left, eq_self, decide_true, if_true, reduceIte, Int.reduceLE, pure1, pure2, pure3, pure4, leiF_int, liF_int, giF_int, geiF_int, addF_int, subF_int, eqEF_nil, neF_int, eqF_int, lenF_str, lenF_list, lenF_tup, wipe0, wipe1, true_and, and_true, frz_list, frz_dict, frz_tup, frz_dat, frz_no, frz_pen, tab_list, tab_dict, Nat.reduceAdd, Nat.reduceSub]
  refine ⟨by decide, line_le (by decide), by omega, b1, fun i i0 i1 => ?_⟩
  obtain ⟨m, rfl⟩ := Int.eq_ofNat_of_zero_le i0
  refine ⟨by omega, by omega, by rw [Int.toNat_natCast, rl]; omega, lc_rec (fun rest acc k2 => ∃ as : List Nat, acc = intsD as ∧ (∀ n, n ∈ as → n < 12) ∧ as.length + rest.length = m ∧ k2 ≤ 1000000000 ∧ k' ≤ k2 + 1 + 2 * as.length) ?_ ?_ ⟨[], rfl, fun n hn => (nomatch hn), by rw [Int.toNat_natCast, rl, List.length_nil, Nat.zero_add], by omega, by rw [List.length_nil]; omega⟩⟩
  rotate_left
  · rintro e rest acc k2 ⟨as, rfl, ha, hl, c1, c2⟩ N2 hN2
    rw [List.length_cons] at hl
    simp only [bodyB, env0, slA, List.map_cons, List.map_nil, List.cons_append, List.nil_append, List.length_cons, List.length_nil, List.replicate, List.getElem?_cons_zero, List.getElem?_cons_succ, List.set_cons_zero, List.set_cons_succ, Option.some.injEq, Sl.dat.injEq, Sl.own.injEq, PyData.bool.injEq, PyData.int.injEq, PyData.str.injEq, PyData.tuple.injEq, PyData.list.injEq, PyData.dict.injEq, Sl.tab.injEq, List.cons.injEq, exists_eq_left', exists_eq_left, eq_self, decide_true, if_true, reduceIte, Int.reduceLE, pure1, pure2, pure3, pure4, leiF_int, liF_int, giF_int, geiF_int, addF_int, subF_int, eqEF_nil, neF_int, eqF_int, lenF_str, lenF_list, lenF_tup, wipe0, wipe1, true_and, and_true, frz_list, frz_dict, frz_tup, frz_dat, frz_no, frz_pen, tab_list, tab_dict, Nat.reduceAdd, Nat.reduceSub]
    refine ⟨fun _ => ⟨by decide, by decide, by decide, by omega, c1, fun d hd => ?_⟩, fun q => nomatch q⟩
    obtain ⟨w, rfl, w0, w1⟩ : ∃ w : Int, d = .int w ∧ 0 < w ∧ w ≤ 12 := by
      simp only [List.mem_cons, List.not_mem_nil, or_false] at hd
      rcases hd with rfl | rfl
      all_goals exact ⟨_, rfl, by decide, by decide⟩
    refine draw_iff.mpr ⟨w0, line_le (by omega), by omega, by omega, fun j j0 j1 => hN2 _ _ ⟨as ++ [j.toNat], ?_, fun n hn => ?_, by rw [List.length_append, List.length_singleton]; omega, by omega, by rw [List.length_append, List.length_singleton]; omega⟩⟩
    · unfold intsD
      rw [List.map_append, List.map_cons, List.map_nil, Int.toNat_of_nonneg j0]
    · rcases List.mem_append.mp hn with q | q
      · exact ha n q
      · rw [List.mem_singleton.mp q]
        omega
  rintro acc k2 ⟨as, rfl, ha, hl, c1, c2⟩
  rw [List.length_nil, Nat.add_zero] at hl
  refine ⟨_, rfl, by decide, by decide, by decide, by omega, c1, fun d hd => ?_⟩
  refine ⟨by decide, line_le (by decide), by omega, by omega, fun j j0 j1 => ?_⟩
  obtain ⟨n, rfl⟩ := Int.eq_ofNat_of_zero_le j0
  have hn : n < 12 := by omega
  have big : (1000 : Nat) ≤ lineN := by decide +kernel
  have hk : ∃ w : Str, d = .str w ∧ (w = "node" ∨ w = "port") := by
    simp only [List.mem_cons, List.not_mem_nil, or_false] at hd
    rcases hd with rfl | rfl
    · exact ⟨_, rfl, .inl rfl⟩
    · exact ⟨_, rfl, .inr rfl⟩
  obtain ⟨w, rfl, hw⟩ := hk
  have hQ : plQ (.tuple [.tuple (intsD as), .tuple [.str w, .int (n : Nat)]]) := ⟨as, w, n, rfl, hw, by omega, fun x hx => Nat.lt_trans (ha x hx) (by decide), by omega⟩
  have hT : plT (.tuple [.tuple (intsD as), .tuple [.str w, .int (n : Nat)]]) := by
    refine ⟨as, _, rfl, by omega, fun x hx => Nat.lt_of_lt_of_le (ha x hx) (by omega), n, by omega, ?_⟩
    rcases hw with rfl | rfl
    · exact .inl rfl
    · exact .inr rfl
  have hP := place_good hT
  have hA : ascP7 (placeL (.tuple [.tuple (intsD as), .tuple [.str w, .int (n : Nat)]])) := fun x hx => by
    have q : ((Sx (placeL (.tuple [.tuple (intsD as), .tuple [.str w, .int (n : Nat)]]))).cps.toList.all fun c => decide (c < 128)) = true := hP.2.1
    rw [sx_cps] at q
    exact of_decide_eq_true (List.all_eq_true.mp q x hx)
  have hlen : (placeL (.tuple [.tuple (intsD as), .tuple [.str w, .int (n : Nat)]])).length ≤ 14000 := by
    rw [place_eq, List.length_append, List.length_append]
    have q1 := addr_len (as := as) (by omega) fun x hx => Nat.lt_of_lt_of_le (ha x hx) (by omega)
    have q2 := point_len (p := .tuple [.str w, .int (n : Nat)]) (by
      rcases hw with rfl | rfl
      · exact .inl ⟨n, by omega, .inl rfl⟩
      · exact .inl ⟨n, by omega, .inr rfl⟩)
    show _ + 1 + _ ≤ _
    omega
  have hG : goodV (.tuple [.tuple (intsD as), .tuple [.str w, .int (n : Nat)]]) := good_place (fun x hx => by
    obtain ⟨q, hq, rfl⟩ := num_mem hx
    exact small_nat (Nat.lt_of_lt_of_le (ha q hq) (by omega))) (small_nat (by omega)) rfl
  generalize PyData.tuple [.tuple (intsD as), .tuple [.str w, .int (n : Nat)]] = p at hQ hT hP hA hlen hG ⊢
  refine ⟨by decide, by decide, p, rfl, hT, placeL p, rfl, by omega, hA, by omega, by omega, fun l1 h1 h2 => ?_⟩
  refine ⟨fun env k3 => ∃ l x7 x8 x9 x10, env = [s0, .pen, .dat (.list odd), .dat c, .dat (.tuple (intsD as)), .dat p, .dat (.str (Sx l)), x7, x8, x9, x10] ∧ l.length ≤ 99000 ∧ k3 ≤ 1000000000 ∧ k' ≤ k3 + 100, ⟨by decide, line_le (by decide), by omega, by omega, fun t t0 t1 => ⟨fun _ => ?_, fun _ => ?_⟩⟩, ?_⟩
  · exact ⟨l1, rfl, by omega, h2, by omega, by omega, fun l2 h3 h4 => ⟨l2, x7, x8, x9, _, rfl, by omega, by omega, by omega⟩⟩
  · exact ⟨l1, x7, x8, x9, _, rfl, by omega, by omega, by omega⟩
  rintro env k3 ⟨l, y7, y8, y9, y10, rfl, ll, d1, d2⟩
  simp only [bodyB, env0, slA, List.map_cons, List.map_nil, List.cons_append, List.nil_append, List.length_cons, List.length_nil, List.replicate, List.getElem?_cons_zero, List.getElem?_cons_succ, List.set_cons_zero, List.set_cons_succ, Option.some.injEq, Sl.dat.injEq, Sl.own.injEq, PyData.bool.injEq, PyData.int.injEq, PyData.str.injEq, PyData.tuple.injEq, PyData.list.injEq, PyData.dict.injEq, Sl.tab.injEq, List.cons.injEq, exists_eq_left', exists_eq_left, eq_self, decide_true, if_true, reduceIte, Int.reduceLE, pure1, pure2, pure3, pure4, leiF_int, liF_int, giF_int, geiF_int, addF_int, subF_int, eqEF_nil, neF_int, eqF_int, lenF_str, lenF_list, lenF_tup, wipe0, wipe1, true_and, and_true, frz_list, frz_dict, frz_tup, frz_dat, frz_no, frz_pen, tab_list, tab_dict, Nat.reduceAdd, Nat.reduceSub, pick_list]
  refine ⟨by omega, by omega, by omega, d1, fun v hv => ?_⟩
  have hv2 := ho v hv
  refine ⟨p, rfl, hT, by decide, for_rec (fun rest env k4 => ∃ z7, env = [s0, .pen, .dat (.list odd), .dat c, .dat (.tuple (intsD as)), .dat p, .dat (.str (Sx l)), z7, y8, y9, y10] ∧ (∀ u, u ∈ rest → ∀ z, u = .str z → z.length ≤ 99000) ∧ k4 = k3 - 1) ?_ ?_ ⟨y7, rfl, fun u hu => ?_, rfl⟩⟩
  · rintro env k4 ⟨z7, rfl, _, rfl⟩
    simp only [bodyB, env0, slA, List.map_cons, List.map_nil, List.cons_append, List.nil_append, List.length_cons, List.length_nil, List.replicate, List.getElem?_cons_zero, List.getElem?_cons_succ, List.set_cons_zero, List.set_cons_succ, Option.some.injEq, Sl.dat.injEq, Sl.own.injEq, PyData.bool.injEq, PyData.int.injEq, PyData.str.injEq, PyData.tuple.injEq, PyData.list.injEq, PyData.dict.injEq, Sl.tab.injEq, List.cons.injEq, exists_eq_left', exists_eq_left, eq_self, decide_true, if_true, reduceIte, Int.reduceLE, pure1, pure2, pure3, pure4, leiF_int, liF_int, giF_int, geiF_int, addF_int, subF_int, eqEF_nil, neF_int, eqF_int, lenF_str, lenF_list, lenF_tup, wipe0, wipe1, true_and, and_true, frz_list, frz_dict, frz_tup, frz_dat, frz_no, frz_pen, tab_list, tab_dict, Nat.reduceAdd, Nat.reduceSub]
    refine ⟨p, rfl, hQ, by omega, by omega, fun g hg => ?_⟩
    refine pick_list.mpr ⟨by omega, by omega, by omega, by omega, fun o hO => ?_⟩
    refine ⟨by decide, for_rec (fun rest env k4 => ∃ z7, env = [s0, .pen, .dat (.list odd), .dat c, .dat (.tuple (intsD as)), .dat p, .dat (.str (Sx l)), z7, y8, y9, y10] ∧ (∀ u, u ∈ rest → goodV u) ∧ k4 = k3 - 1 - 10 - 1) ?_ ?_ ⟨z7, rfl, fun u hu => ?_, rfl⟩⟩
    · rintro env k4 ⟨z7, rfl, _, rfl⟩
      exact hN _ _ ⟨_, _, _, _, _, _, _, _, by omega, by omega, rfl⟩
    · rintro u rest env k4 ⟨z7, rfl, hu, rfl⟩ N2 hN2
      simp only [bodyB, env0, slA, List.map_cons, List.map_nil, List.cons_append, List.nil_append, List.length_cons, List.length_nil, List.replicate, List.getElem?_cons_zero, List.getElem?_cons_succ, List.set_cons_zero, List.set_cons_succ, Option.some.injEq, Sl.dat.injEq, Sl.own.injEq, PyData.bool.injEq, PyData.int.injEq, PyData.str.injEq, PyData.tuple.injEq, PyData.list.injEq, PyData.dict.injEq, Sl.tab.injEq, List.cons.injEq, exists_eq_left', exists_eq_left, eq_self, decide_true, if_true, reduceIte, Int.reduceLE, pure1, pure2, pure3, pure4, leiF_int, liF_int, giF_int, geiF_int, addF_int, subF_int, eqEF_nil, neF_int, eqF_int, lenF_str, lenF_list, lenF_tup, wipe0, wipe1, true_and, and_true, frz_list, frz_dict, frz_tup, frz_dat, frz_no, frz_pen, tab_list, tab_dict, Nat.reduceAdd, Nat.reduceSub]
      have q := hu u List.mem_cons_self
      exact ⟨u, rfl, q.1, q.2, _, rfl, fun z => (nomatch z), fun _ => hN2 _ _ ⟨_, rfl, fun x hx => hu x (List.mem_cons_of_mem _ hx), rfl⟩⟩
    · simp only [List.mem_cons, List.not_mem_nil, or_false] at hu
      rcases hu with rfl | rfl | rfl
      · exact hG
      · exact hg
      · exact (ho _ hO).2
  · rintro u rest env k4 ⟨z7, rfl, hu, rfl⟩ N2 hN2
    simp only [bodyB, env0, slA, List.map_cons, List.map_nil, List.cons_append, List.nil_append, List.length_cons, List.length_nil, List.replicate, List.getElem?_cons_zero, List.getElem?_cons_succ, List.set_cons_zero, List.set_cons_succ, Option.some.injEq, Sl.dat.injEq, Sl.own.injEq, PyData.bool.injEq, PyData.int.injEq, PyData.str.injEq, PyData.tuple.injEq, PyData.list.injEq, PyData.dict.injEq, Sl.tab.injEq, List.cons.injEq, exists_eq_left', exists_eq_left, eq_self, decide_true, if_true, reduceIte, Int.reduceLE, pure1, pure2, pure3, pure4, leiF_int, liF_int, giF_int, geiF_int, addF_int, subF_int, eqEF_nil, neF_int, eqF_int, lenF_str, lenF_list, lenF_tup, wipe0, wipe1, true_and, and_true, frz_list, frz_dict, frz_tup, frz_dat, frz_no, frz_pen, tab_list, tab_dict, Nat.reduceAdd, Nat.reduceSub]
    exact ⟨u, rfl, hu u List.mem_cons_self, _, rfl, fun z => (nomatch z), fun _ => hN2 _ _ ⟨_, rfl, fun x hx => hu x (List.mem_cons_of_mem _ hx), rfl⟩⟩
  · simp only [List.mem_cons, List.not_mem_nil, or_false] at hu
    intro z e
    rcases hu with rfl | rfl | rfl
    · cases e
      rw [sx_len]
      exact ll
    · exact hv2.1 z e
    · cases e
      rw [sx_len]
      omega
end
end SM

set_option Elab.async false
set_option linter.all false
set_option maxRecDepth 100000
set_option maxHeartbeats 4000000
namespace SM
open PySem PySem.Spec PyProof.Rows L2
section
variable [PW] {K : PySem.W.Frag} {mg : Str → Option Value} {base : Heap} {kt : Str}
abbrev s_pen : Stmt := topS 46
theorem sc_pen : FnScope ["script"] ["script"] (defScope s_pen) := ⟨rfl, rfl, rfl, by decide +kernel, rfl, by decide +kernel, by decide +kernel⟩

def kT : Key := Sum.inr "at"
theorem three_keys (x y z : V) : mergeK [] [(kC, x), (kT, y), (kR, z)] = [(kC, x), (kT, y), (kR, z)] := by
  have h1 : kC ≠ kT := fun e => absurd (Sum.inr.inj e) (by decide)
  have h2 : kC ≠ kR := fun e => absurd (Sum.inr.inj e) (by decide)
  have h3 : kT ≠ kR := fun e => absurd (Sum.inr.inj e) (by decide)
  simp [mergeK, putK, h1, h2, h3]
theorem cut_nums (ns : List Int) (hl : ns.length ≤ 63) (lo hi : Option Int) : ∃ ms : List Int, ms.length ≤ 63 ∧ cutV (ns.map V.int) lo hi = ms.map V.int := by
  unfold cutV
  rw [← List.map_drop, ← List.map_take]
  exact ⟨_, by rw [List.length_take, List.length_drop]; omega, rfl⟩
def spStream (K : PySem.W.Frag) : Sp := fun vs H Q _ => ∃ (a : Addr) (ns : List Int), vs = [.ref a] ∧ SqL K H a (ns.map V.int) ∧ ns.length ≤ 63 ∧
  ∀ (p l : Addr) (ms : List Int) (H2 : Hp), ms.length ≤ 63 → H2 p = some (.dK [(kC, .ref l), (kT, .int 0), (kR, .int 0)]) → H2 l = some (.lst (ms.map V.int)) → Same H H2 → Q (.ref p) H2
abbrev O_pen (K : PySem.W.Frag) (mg : Str → Option Value) (base : Heap) (kt : Str) : Prop := Ok PW.prog PW.world K mg base CX0 "_law_pen" ["script"] 1 (spStream K)
theorem ok_pen (T : Txt K mg) (D : Def K mg "_law_pen" s_pen ["script"]) : O_pen K mg base kt := by
  refine D.ok sc_pen (fun vs H Q E h => ?_) (fun f cdv A outer s H vs Q E hr hq h => ?_)
  · obtain ⟨a, ns, rfl, _⟩ := h
    rfl
  · obtain ⟨a, ns, rfl, hS, hl, q⟩ := h
    refine ⟨_, (pss_one (ps_ret (pe_disp (pps_cons pe_str (pe_callTy call_list_of (by rfl) T.b_list (by decide +kernel) (pa_cons (pe_slice sl_list (pv 0) po_none (po_some pe_int)) pa_nil)) (pps_cons pe_str pe_int (pps_cons pe_str pe_int pps_nil))) rfl rfl (fun z => nomatch z) (by decide)))), ?_⟩
    refine fun p hp => ?_
    have s1 : Same H (upd H p (.dK [])) := same_upd hp
    refine ⟨.ref a, rfl, 63, rfl, a, ns.map V.int, rfl, s1.seq hS, fun c nc => ?_⟩
    obtain ⟨ms, hm, em⟩ := cut_nums ns hl none (some 63)
    rw [em]
    have hpc : p ≠ c := ne_of_none upd_same nc
    have d1 : (upd (upd H p (.dK [])) c (.lst (ms.map V.int))) p = some (.dK []) := by rw [upd_ne hpc, upd_same]
    have c1 : (upd (upd H p (.dK [])) c (.lst (ms.map V.int))) c = some (.lst (ms.map V.int)) := upd_same
    have s2 : Same H (upd (upd H p (.dK [])) c (.lst (ms.map V.int))) := s1.trans (same_upd nc)
    generalize upd (upd H p (.dK [])) c (.lst (ms.map V.int)) = H2 at d1 c1 s2
    refine ⟨c, _, rfl, .inl (SqL.of c1), fun l nl => ?_⟩
    have hpl : p ≠ l := ne_of_none d1 nl
    refine ⟨by rw [upd_ne hpl]; exact d1, [(kC, .ref l), (kT, .int 0), (kR, .int 0)], rfl, by show 3 ≤ 15; decide, ?_⟩
    rw [three_keys]
    refine q p l ms _ hm upd_same (by rw [upd_ne hpl.symm, upd_same]) fun b o e => ?_
    have e2 := s2 b o e
    rw [upd_ne (ne_of_none e hp), upd_ne (ne_of_none e2 nl)]
    exact e2
theorem Dat.slot0 {F : Fr} {M : Mu} {σ σ' : L2.St} {H : Hp} {env : List Sl} {k : Nat} (D : Dat K kt F M σ H env k) (h : σ'.length = σ.length) (e : ∀ i, i ≠ 0 → σ'[i]? = σ[i]?) : Dat K kt F M σ' H (env.set 0 .no) k := by
  have key : ∀ {i : Nat} {s : Sl}, (env.set 0 .no)[i]? = some s → s ≠ .no → i ≠ 0 ∧ env[i]? = some s := fun {i s} q n => by
    by_cases z : i = 0
    · subst z
      cases env with
      | nil => cases q
      | cons x r =>
        rw [List.set_cons_zero, List.getElem?_cons_zero] at q
        exact absurd (Option.some.inj q).symm n
    · rw [List.getElem?_set_ne (fun w => z w.symm)] at q
      exact ⟨z, q⟩
  refine ⟨by rw [h, D.len, List.length_set], fun i d q => ?_, fun i q => ?_, fun i d q => ?_, fun i j d d' q q' hij => ?_, D.sub, D.tr, D.tx, D.ex, D.sx, D.pn, D.gr, fun i ds q => ?_⟩
  · obtain ⟨z, q2⟩ := key q (fun w => nomatch w)
    rw [e i z]
    exact D.sl i d q2
  · obtain ⟨z, q2⟩ := key q (fun w => nomatch w)
    rw [e i z]
    exact D.pi i q2
  · obtain ⟨z, q2⟩ := key q (fun w => nomatch w)
    rw [e i z]
    exact D.ow i d q2
  · obtain ⟨z, q2⟩ := key q (fun w => nomatch w)
    obtain ⟨z', q2'⟩ := key q' (fun w => nomatch w)
    rw [e i z, e j z']
    exact D.dj i j d d' q2 q2' hij
  · obtain ⟨z, q2⟩ := key q (fun w => nomatch w)
    have := D.tb i ds q2
    unfold TabR at this ⊢
    rw [e i z]
    exact this
theorem Dat.bare {F : Fr} {M : Mu} {σ σ' : L2.St} {H : Hp} {env : List Sl} {k : Nat} (D : Dat K kt F M σ H env k) (h : σ'.length = env.length) : Dat K kt F M σ' H (env.map fun _ => .no) k := by
  have key : ∀ {i : Nat} {s : Sl}, (env.map fun _ => Sl.no)[i]? = some s → s = .no := fun {i s} q => by
    rw [List.getElem?_map] at q
    obtain ⟨x, _, e⟩ := Option.map_eq_some_iff.mp q
    exact e.symm
  exact ⟨by rw [h, List.length_map], fun i d q => (by have z := key q; cases z), fun i q => (by have z := key q; cases z), fun i d q => (by have z := key q; cases z), fun i j d d' q q' hij => (by have z := key q; cases z), D.sub, D.tr, D.tx, D.ex, D.sx, D.pn, D.gr, fun i ds q => (by have z := key q; cases z)⟩
theorem ok_law (T : Txt K mg) (ET : OopsT K mg) {f : Addr} {fd : FuncData} (FL : Fun K "law" "law" s_law f fd) (O0 : Ok PW.prog PW.world K mg base CX0 "_law_pen" ["script"] 1 (spStream K)) (O1 : O_law_pick K mg base "at") (O2 : O_law_draw K mg base "at") (O3 : O_law_place_text K mg base "at") (O4 : O_changed_text K mg base "at") (O5 : O_read_right K mg base "at") (O6 : O_written_right K mg base "at") (O7 : O_changed_place K mg base "at") (O8 : O_format_atlas K mg base "at")
    (hsy : ∃ o, base.get? sysModules = some o) : FnG PW.prog PW.world K mg base CX0 20 f fd ["script"] (spLawT PW.tabs K) := by
  obtain ⟨f_pen, fd_pen, G_pen, g_pen, k_pen, b_pen⟩ := O0
  obtain ⟨oc, od, kV, doc, pm, an, cdv, ct, osl, rfl, lk, cd⟩ := FL.ex
  refine fng_of lk cd sc_law (fun vs H Q E h => ?_) fun A outer s H vs Q E hr hq h => ?_
  · obtain ⟨a, ns, rfl, _⟩ := h
    rfl
  refine Exists.elim (?_ : ∃ t, PSs (cxOf CX0 PW.prog PW.world K mg base NL "law" (defScope s_law) f cdv A outer s H E).nox (defBody s_law) t ∧ t { nx := fun _ h => Q .non h, rt := Q } (L2.start NL vs) H) fun t q => ⟨t, q.1.nox, q.2⟩
  obtain ⟨a, ns, rfl, hS, hl, hTab, q⟩ := h
  obtain ⟨t2, g2, hm2, ha2, hg2⟩ := law_rest T ET O1 O2 O3 O4 O5 O6 O7 O8 hsy f cdv A outer s H E hr hq
  refine ⟨_, pss_cons (ps_set (i := 1) sc_law.nd rfl (Or.inr rfl) (pe_callG G_pen (hr.mono (by omega)) hq (by rfl) g_pen k_pen b_pen pass0 (pa_cons (pv 0) pa_nil))) hm2, ?_⟩
  refine ⟨.ref a, rfl, a, ns, rfl, hS, hl, fun p l ms H1 hm e1 e2 sm => ?_⟩
  have hT1 : LamX.Tabs PW.tabs H1 := hTab.ext sm
  have tr : Tr (p :: l :: tbs) H1 := by
    refine ⟨fun b hb => ?_, fun b hb => List.mem_cons_of_mem _ (List.mem_cons_of_mem _ hb), hT1⟩
    rcases List.mem_cons.mp hb with rfl | hb
    · rw [e1]
      exact fun z => nomatch z
    rcases List.mem_cons.mp hb with rfl | hb
    · rw [e2]
      exact fun z => nomatch z
    · obtain ⟨ps, h⟩ := tab_at hb hT1
      rw [h]
      exact fun z => nomatch z
  have D0 := Dat.begin (K := K) (kt := "at") (N := NL) (pen := some (p, l)) (vs := [.non, .ref p]) (ps := [some .none, none]) (k := 100000) tr (.cons (.dat .non) (.cons (.pen (a := (p, l)) rfl) .nil)) (fun b e => by
    cases e
    exact ⟨List.mem_cons_self, List.mem_cons_of_mem _ List.mem_cons_self, 0, ⟨ms, 0, 0, e1, e2, hm, by decide, by decide, by decide⟩, by decide⟩)
  have D1 := D0.slot0 (σ' := (start NL [.ref a]).set 1 (some (.ref p))) rfl (fun i hi => by
    match i with
    | 0 => exact absurd rfl hi
    | i + 1 => rfl)
  refine ha2 _ _ _ H1 _ _ (bodyB fun d _ => d = .bool true) _ D1 (hg2 .no 100000 _ (Nat.le_refl _) (by decide) (fun _ => rfl)) ⟨fun _ _ _ _ _ _ ⟨_, _, z⟩ => (by cases z), fun v H' d k' dv _ _ ⟨_, _, z⟩ => ?_, fun _ _ _ _ _ _ h => h.elim, fun _ _ _ _ _ _ h => h.elim, fun _ _ _ _ _ _ _ _ _ _ _ _ h => h.elim, fun _ _ _ _ _ _ _ _ h => h.elim⟩
  cases z
  cases dv
  exact q H'
/-! ### the error of a text -/
abbrev inBT : Stmt := inClass (topS 13) 0
theorem sc_inBT : FnScope ["self", "line"] ["self", "line"] (defScope inBT) := ⟨rfl, rfl, rfl, by decide +kernel, rfl, by decide +kernel, by decide +kernel⟩
theorem ok_inBT {f : Addr} {fd : FuncData} (F : Fun K "__init__" "BadText.__init__" inBT f fd) {c : Addr} (o : OexC K c) (n : PySem.W.findIn K (.ref c) "line" = some none) : FnOk PW.prog PW.world K mg base CX0 1 f fd ["self", "line"] (spSet c "line") :=
  F.ok sc_inBT (fun vs H Q E ⟨_, _, e, _⟩ => by rw [e]; rfl) (fun cdv A outer s H vs Q E hr h => ⟨_, pss_one (ps_ost (pv 0) (pv 1)), init_read o n h rfl⟩)
abbrev inBA : Stmt := inClass (topS 10) 0
theorem sc_inBA : FnScope ["self", "reason"] ["self", "reason"] (defScope inBA) := ⟨rfl, rfl, rfl, by decide +kernel, rfl, by decide +kernel, by decide +kernel⟩
theorem ok_inBA {f : Addr} {fd : FuncData} (F : Fun K "__init__" "BadAtlas.__init__" inBA f fd) {c : Addr} (o : OexC K c) (n : PySem.W.findIn K (.ref c) "reason" = some none) : FnOk PW.prog PW.world K mg base CX0 1 f fd ["self", "reason"] (spSet c "reason") :=
  F.ok sc_inBA (fun vs H Q E ⟨_, _, e, _⟩ => by rw [e]; rfl) (fun cdv A outer s H vs Q E hr h => ⟨_, pss_one (ps_ost (pv 0) (pv 1)), init_read o n h rfl⟩)
end
end SM

set_option Elab.async false
set_option linter.all false
set_option maxRecDepth 100000
set_option maxHeartbeats 4000000
namespace SM
open PySem PySem.Spec PyProof.Rows L2
def excB (K : PySem.W.Frag) (D : Addr) : Bool :=
  decide (PySem.W.findIn K (.ref D) "__getattribute__" = some (some (.builtin "BaseException.__getattribute__"))) && (decide (PySem.W.findIn K (.ref D) "__getattr__" = some none) && (decide (PySem.W.subIn K (.ref D) (.type "BaseException") = some true) && (PySem.W.hasDictIn K D &&
    (decide (PySem.W.findIn K (.ref D) "__class__" = some (some (.builtin "object.__class__"))) && (decide (PySem.W.specialIn K (.builtin "object.__class__") "__get__" = some (some (.builtin "getset_descriptor.__get__"))) && (decide (PySem.W.takesIn K (.builtin "object.__class__") = some true) && decide (PySem.W.mroIn K D (.type "object") = some true)))))))
theorem excB_ok {K : PySem.W.Frag} {D : Addr} (h : excB K D = true) : ExcC K D := by
  simp only [excB, Bool.and_eq_true, decide_eq_true_eq] at h
  obtain ⟨h1, h2, h3, h4, h5, h6, h7, h8⟩ := h
  exact ⟨h1, h2, h3, h4, h5, h6, h7, h8⟩
theorem tab_in {K : PySem.W.Frag} {x : Str} {f c P : Addr} {oc oc2 : Value} {od od2 : Option Addr} {fd : FuncData} {sl sl2 : Array (Option Value)} {vs : Array Value} (d : PySem.W.nsIn K mainGlobals x = some (some (.ref f))) (l : K.lookup f = some ⟨oc, od, .func fd, sl⟩) (hc : fd.code = .ref c)
    (lc : K.lookup c = some ⟨oc2, od2, .fields vs, sl2⟩) (hp : (vs[11]? : Option Value) = some (.ref P)) : PySem.W.tabIn K x = some (c, P) := by
  unfold PySem.W.tabIn
  rw [d]
  simp only [l, hc, lc, hp]
theorem askT_of {K : PySem.W.Frag} {mg : Str → Option Value} {cT cS cP cA cU : Addr} (b : mg "isinstance" = none) (gT : mg "BadText" = some (.ref cT)) (gS : mg "SlotmapsError" = some (.ref cS)) (gP : mg "BadPlace" = some (.ref cP)) (gA : mg "BadAtlas" = some (.ref cA)) (gU : mg "UnknownMap" = some (.ref cU))
    (h1 : PySem.W.exmOne K (.ref cT) (.ref cT) = some true) (h2 : PySem.W.exmOne K (.ref cP) (.ref cT) = some false) (h3 : PySem.W.exmOne K (.ref cP) (.ref cS) = some true) (h4 : excB K cT = true) (h5 : excB K cP = true) (h6 : xfB K cT = true) (h7 : PySem.W.findIn K (.ref cT) "line" = some none)
    (h8 : PySem.W.kitAny K (.ref cT) [.ref cP, .ref cA, .ref cU] = some false) (h9 : PySem.W.kitOne K (.ref cP) (.ref cP) = some true) : AskT K mg := by
  have e1 := clsA_of gT
  have e2 := clsA_of gS
  have e3 := clsA_of gP
  have e4 := clsA_of gA
  have e5 := clsA_of gU
  subst e1 e2 e3 e4 e5
  exact ⟨b, gT, gS, gP, gA, gU, h1, h2, h3, excB_ok h4, excB_ok h5, xfB_ok h6, h7, h8, h9⟩
theorem oopsT_of {K : PySem.W.Frag} {mg : Str → Option Value} {cT cP cA cU : Addr} (b : mg "ValueError" = none) (gT : mg "BadText" = some (.ref cT)) (gP : mg "BadPlace" = some (.ref cP)) (gA : mg "BadAtlas" = some (.ref cA)) (gU : mg "UnknownMap" = some (.ref cU))
    (h1 : PySem.W.exmOne K (.ref cA) (.ref cA) = some true) (h2 : excB K cA = true) (h3 : PySem.W.kitAny K (.ref cA) [.ref cT, .ref cP, .ref cU] = some false) (h4 : PySem.W.kitOne K (.ref cA) (.type "ValueError") = some true) : OopsT K mg := by
  have e1 := clsA_of gT
  have e3 := clsA_of gP
  have e4 := clsA_of gA
  have e5 := clsA_of gU
  subst e1 e3 e4 e5
  exact ⟨gA, gT, gP, gU, b, h1, excB_ok h2, h3, h4⟩
end SM

set_option Elab.async false
open PySem PySem.W PyProof.Rows
set_option maxRecDepth 100000 in
set_option maxHeartbeats 0 in
open_top hd52 for PySem.Challenge.rw_slotmaps_k52_places_as_texts

set_option Elab.async false
set_option linter.all false
set_option maxRecDepth 100000
set_option maxHeartbeats 4000000
namespace SM
open PySem PySem.Spec PyProof.Rows L2
theorem def_of {K : PySem.W.Frag} {h : Heap} {mg : Str → Option Value} {x : Str} {st : Stmt} {ps : List Str} {f : Addr} {oc : Value} {od an : Option Addr} {osl : Array (Option Value)} {kV doc pm cdv ct : Value} (X : K.In h) (G : h.Ns mainGlobals mg)
    (a : PySem.W.nsIn K mainGlobals x = some (some (.ref f))) (l : K.lookup f = some ⟨oc, od, .func (PySem.W.fnOf x x (defArgs st) (defBody st) (defScope st) .none kV doc pm an cdv ct), osl⟩) (c : PySem.W.codeIn K cdv x = true) (k : PySem.W.keepIn K (.ref f) = true)
    (hb : ∀ (kV doc pm : Value) (an : Option Addr) (cdv ct : Value) (us : List Value), us.length = ps.length → bindArgs (PySem.W.fnOf x x (defArgs st) (defBody st) (defScope st) .none kV doc pm an cdv ct) ⟨us, []⟩ = pure (ps.zip us)) : Def K mg x st ps :=
  ⟨f, _, fun_mk l c k, PySem.W.mg_of X G a, (fun_mk l c k).binds hb⟩
theorem allK52 {P q : Program} {w : World} {K : PySem.W.Frag} {h : Heap} {mg : Str → Option Value} {fa : Addr} (X : K.In h) (G : h.Ns mainGlobals mg) (hfa : mg "law" = some (.ref fa))
    {f_is_integer f_is_integer_in f_is_tuple f_is_index f_is_name f_is_names f_has_map_form f_map_fault f_edges_fault f_slot_fault f_maps_by_name f_is_point f_is_edge f_edge_fault f_atlas_error f_draw f_pick f_point_text f_map_lines f_point_text1 f_place_text f_is_count f_place_text1 f_is_number f_parsed_point f_parsed_place f_parse_place f_number_in f_point_in f_place_in f_is_place_form f_format_place f_is_index1 f_is_place f_read_right f_changed_text f_written_right f_changed_place f_checked_atlas f_format_atlas f_pen f_error f_law e_SlotmapsError e_BadText e_BadAtlas e_UnknownMap e_BadPlace : Addr} {od_is_integer an_is_integer od_is_integer_in an_is_integer_in od_is_tuple an_is_tuple od_is_index an_is_index od_is_name an_is_name od_is_names an_is_names od_has_map_form an_has_map_form od_map_fault an_map_fault od_edges_fault an_edges_fault od_slot_fault an_slot_fault od_maps_by_name an_maps_by_name od_is_point an_is_point od_is_edge an_is_edge od_edge_fault an_edge_fault od_atlas_error an_atlas_error od_draw an_draw od_pick an_pick od_point_text an_point_text od_map_lines an_map_lines od_point_text1 an_point_text1 od_place_text an_place_text od_is_count an_is_count od_place_text1 an_place_text1 od_is_number an_is_number od_parsed_point an_parsed_point od_parsed_place an_parsed_place od_parse_place an_parse_place od_number_in an_number_in od_point_in an_point_in od_place_in an_place_in od_is_place_form an_is_place_form od_format_place an_format_place od_is_index1 an_is_index1 od_is_place an_is_place od_read_right an_read_right od_changed_text an_changed_text od_written_right an_written_right od_changed_place an_changed_place od_checked_atlas an_checked_atlas od_format_atlas an_format_atlas od_pen an_pen od_error an_error od_law an_law : Option Addr} {oc_is_integer kV_is_integer dc_is_integer pm_is_integer cd_is_integer ct_is_integer oc_is_integer_in kV_is_integer_in dc_is_integer_in pm_is_integer_in cd_is_integer_in ct_is_integer_in oc_is_tuple kV_is_tuple dc_is_tuple pm_is_tuple cd_is_tuple ct_is_tuple oc_is_index kV_is_index dc_is_index pm_is_index cd_is_index ct_is_index oc_is_name kV_is_name dc_is_name pm_is_name cd_is_name ct_is_name oc_is_names kV_is_names dc_is_names pm_is_names cd_is_names ct_is_names oc_has_map_form kV_has_map_form dc_has_map_form pm_has_map_form cd_has_map_form ct_has_map_form oc_map_fault kV_map_fault dc_map_fault pm_map_fault cd_map_fault ct_map_fault oc_edges_fault kV_edges_fault dc_edges_fault pm_edges_fault cd_edges_fault ct_edges_fault oc_slot_fault kV_slot_fault dc_slot_fault pm_slot_fault cd_slot_fault ct_slot_fault oc_maps_by_name kV_maps_by_name dc_maps_by_name pm_maps_by_name cd_maps_by_name ct_maps_by_name oc_is_point kV_is_point dc_is_point pm_is_point cd_is_point ct_is_point oc_is_edge kV_is_edge dc_is_edge pm_is_edge cd_is_edge ct_is_edge oc_edge_fault kV_edge_fault dc_edge_fault pm_edge_fault cd_edge_fault ct_edge_fault oc_atlas_error kV_atlas_error dc_atlas_error pm_atlas_error cd_atlas_error ct_atlas_error oc_draw kV_draw dc_draw pm_draw cd_draw ct_draw oc_pick kV_pick dc_pick pm_pick cd_pick ct_pick oc_point_text kV_point_text dc_point_text pm_point_text cd_point_text ct_point_text oc_map_lines kV_map_lines dc_map_lines pm_map_lines cd_map_lines ct_map_lines oc_point_text1 kV_point_text1 dc_point_text1 pm_point_text1 cd_point_text1 ct_point_text1 oc_place_text kV_place_text dc_place_text pm_place_text cd_place_text ct_place_text oc_is_count kV_is_count dc_is_count pm_is_count cd_is_count ct_is_count oc_place_text1 kV_place_text1 dc_place_text1 pm_place_text1 cd_place_text1 ct_place_text1 oc_is_number kV_is_number dc_is_number pm_is_number cd_is_number ct_is_number oc_parsed_point kV_parsed_point dc_parsed_point pm_parsed_point cd_parsed_point ct_parsed_point oc_parsed_place kV_parsed_place dc_parsed_place pm_parsed_place cd_parsed_place ct_parsed_place oc_parse_place kV_parse_place dc_parse_place pm_parse_place cd_parse_place ct_parse_place oc_number_in kV_number_in dc_number_in pm_number_in cd_number_in ct_number_in oc_point_in kV_point_in dc_point_in pm_point_in cd_point_in ct_point_in oc_place_in kV_place_in dc_place_in pm_place_in cd_place_in ct_place_in oc_is_place_form kV_is_place_form dc_is_place_form pm_is_place_form cd_is_place_form ct_is_place_form oc_format_place kV_format_place dc_format_place pm_format_place cd_format_place ct_format_place oc_is_index1 kV_is_index1 dc_is_index1 pm_is_index1 cd_is_index1 ct_is_index1 oc_is_place kV_is_place dc_is_place pm_is_place cd_is_place ct_is_place oc_read_right kV_read_right dc_read_right pm_read_right cd_read_right ct_read_right oc_changed_text kV_changed_text dc_changed_text pm_changed_text cd_changed_text ct_changed_text oc_written_right kV_written_right dc_written_right pm_written_right cd_written_right ct_written_right oc_changed_place kV_changed_place dc_changed_place pm_changed_place cd_changed_place ct_changed_place oc_checked_atlas kV_checked_atlas dc_checked_atlas pm_checked_atlas cd_checked_atlas ct_checked_atlas oc_format_atlas kV_format_atlas dc_format_atlas pm_format_atlas cd_format_atlas ct_format_atlas oc_pen kV_pen dc_pen pm_pen cd_pen ct_pen oc_error kV_error dc_error pm_error cd_error ct_error oc_law kV_law dc_law pm_law cd_law ct_law : Value} {sl_is_integer sl_is_integer_in sl_is_tuple sl_is_index sl_is_name sl_is_names sl_has_map_form sl_map_fault sl_edges_fault sl_slot_fault sl_maps_by_name sl_is_point sl_is_edge sl_edge_fault sl_atlas_error sl_draw sl_pick sl_point_text sl_map_lines sl_point_text1 sl_place_text sl_is_count sl_place_text1 sl_is_number sl_parsed_point sl_parsed_place sl_parse_place sl_number_in sl_point_in sl_place_in sl_is_place_form sl_format_place sl_is_index1 sl_is_place sl_read_right sl_changed_text sl_written_right sl_changed_place sl_checked_atlas sl_format_atlas sl_pen sl_error sl_law : Array (Option Value)} {t_MOST_MAPS t_MOST_PORTS t_MOST_LABELS t_MOST_SLOTS t_MOST_EDGES t_MOST_COST t_MOST_INDEXES t_MOST_DIGITS : Tok}
    {e_LETTERS : Addr} {es_LETTERS : Array DictEntry} {n_LETTERS : _} {t_LETTERS_node t_LETTERS_port t_LETTERS_slot : Tok}
    {ca_read_right pt_read_right ca_written_right pt_written_right : Addr} {oo_read_right oo_written_right : Value} {oe_read_right oe_written_right : Option Addr} {vv_read_right vv_written_right : Array Value} {se_read_right se_written_right : Array (Option Value)}
    {g_BadText nn_BadText : Addr} {ogc_BadText gk_BadText gd_BadText gp_BadText gc_BadText gt_BadText : Value} {god_BadText ga_BadText dd_BadText : Option Addr} {gs_BadText : Array (Option Value)} {nm_BadText : _} {qq_BadText : _} {bs_BadText : _} {sn_BadText : _} {sub_BadText : _} {ab_BadText : _} {col_BadText : _} {m0_BadText : _} {m1_BadText : _} {m2_BadText : _} {m3_BadText : _} {m5_BadText : _}
    {g_BadAtlas nn_BadAtlas : Addr} {ogc_BadAtlas gk_BadAtlas gd_BadAtlas gp_BadAtlas gc_BadAtlas gt_BadAtlas : Value} {god_BadAtlas ga_BadAtlas dd_BadAtlas : Option Addr} {gs_BadAtlas : Array (Option Value)} {nm_BadAtlas : _} {qq_BadAtlas : _} {bs_BadAtlas : _} {sn_BadAtlas : _} {sub_BadAtlas : _} {ab_BadAtlas : _} {col_BadAtlas : _} {m0_BadAtlas : _} {m1_BadAtlas : _} {m2_BadAtlas : _} {m3_BadAtlas : _} {m5_BadAtlas : _}
    (z_len : PySem.W.nsIn K mainGlobals "len" = some none)
    (z_int : PySem.W.nsIn K mainGlobals "int" = some none)
    (z_bool : PySem.W.nsIn K mainGlobals "bool" = some none)
    (z_str : PySem.W.nsIn K mainGlobals "str" = some none)
    (z_tuple : PySem.W.nsIn K mainGlobals "tuple" = some none)
    (z_list : PySem.W.nsIn K mainGlobals "list" = some none)
    (z_isinstance : PySem.W.nsIn K mainGlobals "isinstance" = some none)
    (z_range : PySem.W.nsIn K mainGlobals "range" = some none)
    (z_enumerate : PySem.W.nsIn K mainGlobals "enumerate" = some none)
    (z_all : PySem.W.nsIn K mainGlobals "all" = some none)
    (z_abs : PySem.W.nsIn K mainGlobals "abs" = some none)
    (z_sorted : PySem.W.nsIn K mainGlobals "sorted" = some none)
    (z_repr : PySem.W.nsIn K mainGlobals "repr" = some none)
    (z_min : PySem.W.nsIn K mainGlobals "min" = some none)
    (z_dict : PySem.W.nsIn K mainGlobals "dict" = some none)
    (z_ValueError : PySem.W.nsIn K mainGlobals "ValueError" = some none)
    (c_MOST_MAPS : PySem.W.nsIn K mainGlobals "MOST_MAPS" = some (some (.int 8 t_MOST_MAPS)))
    (c_MOST_PORTS : PySem.W.nsIn K mainGlobals "MOST_PORTS" = some (some (.int 4 t_MOST_PORTS)))
    (c_MOST_LABELS : PySem.W.nsIn K mainGlobals "MOST_LABELS" = some (some (.int 8 t_MOST_LABELS)))
    (c_MOST_SLOTS : PySem.W.nsIn K mainGlobals "MOST_SLOTS" = some (some (.int 4 t_MOST_SLOTS)))
    (c_MOST_EDGES : PySem.W.nsIn K mainGlobals "MOST_EDGES" = some (some (.int 40 t_MOST_EDGES)))
    (c_MOST_COST : PySem.W.nsIn K mainGlobals "MOST_COST" = some (some (.int 1000000 t_MOST_COST)))
    (c_MOST_INDEXES : PySem.W.nsIn K mainGlobals "MOST_INDEXES" = some (some (.int 200 t_MOST_INDEXES)))
    (c_MOST_DIGITS : PySem.W.nsIn K mainGlobals "MOST_DIGITS" = some (some (.int 60 t_MOST_DIGITS)))
    (d_is_integer : PySem.W.nsIn K mainGlobals "is_integer" = some (some (.ref f_is_integer)))
    (l_is_integer : K.lookup f_is_integer = some ⟨oc_is_integer, od_is_integer, .func (PySem.W.fnOf "is_integer" "is_integer" (defArgs s_is_integer) (defBody s_is_integer) (defScope s_is_integer) .none kV_is_integer dc_is_integer pm_is_integer an_is_integer cd_is_integer ct_is_integer), sl_is_integer⟩)
    (c_is_integer : PySem.W.codeIn K cd_is_integer "is_integer" = true)
    (k_is_integer : PySem.W.keepIn K (.ref f_is_integer) = true)
    (d_is_integer_in : PySem.W.nsIn K mainGlobals "is_integer_in" = some (some (.ref f_is_integer_in)))
    (l_is_integer_in : K.lookup f_is_integer_in = some ⟨oc_is_integer_in, od_is_integer_in, .func (PySem.W.fnOf "is_integer_in" "is_integer_in" (defArgs s_is_integer_in) (defBody s_is_integer_in) (defScope s_is_integer_in) .none kV_is_integer_in dc_is_integer_in pm_is_integer_in an_is_integer_in cd_is_integer_in ct_is_integer_in), sl_is_integer_in⟩)
    (c_is_integer_in : PySem.W.codeIn K cd_is_integer_in "is_integer_in" = true)
    (k_is_integer_in : PySem.W.keepIn K (.ref f_is_integer_in) = true)
    (d_is_tuple : PySem.W.nsIn K mainGlobals "is_tuple" = some (some (.ref f_is_tuple)))
    (l_is_tuple : K.lookup f_is_tuple = some ⟨oc_is_tuple, od_is_tuple, .func (PySem.W.fnOf "is_tuple" "is_tuple" (defArgs s_is_tuple) (defBody s_is_tuple) (defScope s_is_tuple) .none kV_is_tuple dc_is_tuple pm_is_tuple an_is_tuple cd_is_tuple ct_is_tuple), sl_is_tuple⟩)
    (c_is_tuple : PySem.W.codeIn K cd_is_tuple "is_tuple" = true)
    (k_is_tuple : PySem.W.keepIn K (.ref f_is_tuple) = true)
    (d_is_index : PySem.W.nsIn K mainGlobals "is_index" = some (some (.ref f_is_index)))
    (l_is_index : K.lookup f_is_index = some ⟨oc_is_index, od_is_index, .func (PySem.W.fnOf "is_index" "is_index" (defArgs s_is_index) (defBody s_is_index) (defScope s_is_index) .none kV_is_index dc_is_index pm_is_index an_is_index cd_is_index ct_is_index), sl_is_index⟩)
    (c_is_index : PySem.W.codeIn K cd_is_index "is_index" = true)
    (k_is_index : PySem.W.keepIn K (.ref f_is_index) = true)
    (d_is_name : PySem.W.nsIn K mainGlobals "is_name" = some (some (.ref f_is_name)))
    (l_is_name : K.lookup f_is_name = some ⟨oc_is_name, od_is_name, .func (PySem.W.fnOf "is_name" "is_name" (defArgs s_is_name) (defBody s_is_name) (defScope s_is_name) .none kV_is_name dc_is_name pm_is_name an_is_name cd_is_name ct_is_name), sl_is_name⟩)
    (c_is_name : PySem.W.codeIn K cd_is_name "is_name" = true)
    (k_is_name : PySem.W.keepIn K (.ref f_is_name) = true)
    (d_is_names : PySem.W.nsIn K mainGlobals "is_names" = some (some (.ref f_is_names)))
    (l_is_names : K.lookup f_is_names = some ⟨oc_is_names, od_is_names, .func (PySem.W.fnOf "is_names" "is_names" (defArgs s_is_names) (defBody s_is_names) (defScope s_is_names) .none kV_is_names dc_is_names pm_is_names an_is_names cd_is_names ct_is_names), sl_is_names⟩)
    (c_is_names : PySem.W.codeIn K cd_is_names "is_names" = true)
    (k_is_names : PySem.W.keepIn K (.ref f_is_names) = true)
    (d_has_map_form : PySem.W.nsIn K mainGlobals "has_map_form" = some (some (.ref f_has_map_form)))
    (l_has_map_form : K.lookup f_has_map_form = some ⟨oc_has_map_form, od_has_map_form, .func (PySem.W.fnOf "has_map_form" "has_map_form" (defArgs s_has_map_form) (defBody s_has_map_form) (defScope s_has_map_form) .none kV_has_map_form dc_has_map_form pm_has_map_form an_has_map_form cd_has_map_form ct_has_map_form), sl_has_map_form⟩)
    (c_has_map_form : PySem.W.codeIn K cd_has_map_form "has_map_form" = true)
    (k_has_map_form : PySem.W.keepIn K (.ref f_has_map_form) = true)
    (d_map_fault : PySem.W.nsIn K mainGlobals "map_fault" = some (some (.ref f_map_fault)))
    (l_map_fault : K.lookup f_map_fault = some ⟨oc_map_fault, od_map_fault, .func (PySem.W.fnOf "map_fault" "map_fault" (defArgs s_map_fault) (defBody s_map_fault) (defScope s_map_fault) .none kV_map_fault dc_map_fault pm_map_fault an_map_fault cd_map_fault ct_map_fault), sl_map_fault⟩)
    (c_map_fault : PySem.W.codeIn K cd_map_fault "map_fault" = true)
    (k_map_fault : PySem.W.keepIn K (.ref f_map_fault) = true)
    (d_edges_fault : PySem.W.nsIn K mainGlobals "edges_fault" = some (some (.ref f_edges_fault)))
    (l_edges_fault : K.lookup f_edges_fault = some ⟨oc_edges_fault, od_edges_fault, .func (PySem.W.fnOf "edges_fault" "edges_fault" (defArgs s_edges_fault) (defBody s_edges_fault) (defScope s_edges_fault) .none kV_edges_fault dc_edges_fault pm_edges_fault an_edges_fault cd_edges_fault ct_edges_fault), sl_edges_fault⟩)
    (c_edges_fault : PySem.W.codeIn K cd_edges_fault "edges_fault" = true)
    (k_edges_fault : PySem.W.keepIn K (.ref f_edges_fault) = true)
    (d_slot_fault : PySem.W.nsIn K mainGlobals "slot_fault" = some (some (.ref f_slot_fault)))
    (l_slot_fault : K.lookup f_slot_fault = some ⟨oc_slot_fault, od_slot_fault, .func (PySem.W.fnOf "slot_fault" "slot_fault" (defArgs s_slot_fault) (defBody s_slot_fault) (defScope s_slot_fault) .none kV_slot_fault dc_slot_fault pm_slot_fault an_slot_fault cd_slot_fault ct_slot_fault), sl_slot_fault⟩)
    (c_slot_fault : PySem.W.codeIn K cd_slot_fault "slot_fault" = true)
    (k_slot_fault : PySem.W.keepIn K (.ref f_slot_fault) = true)
    (d_maps_by_name : PySem.W.nsIn K mainGlobals "maps_by_name" = some (some (.ref f_maps_by_name)))
    (l_maps_by_name : K.lookup f_maps_by_name = some ⟨oc_maps_by_name, od_maps_by_name, .func (PySem.W.fnOf "maps_by_name" "maps_by_name" (defArgs s_maps_by_name) (defBody s_maps_by_name) (defScope s_maps_by_name) .none kV_maps_by_name dc_maps_by_name pm_maps_by_name an_maps_by_name cd_maps_by_name ct_maps_by_name), sl_maps_by_name⟩)
    (c_maps_by_name : PySem.W.codeIn K cd_maps_by_name "maps_by_name" = true)
    (k_maps_by_name : PySem.W.keepIn K (.ref f_maps_by_name) = true)
    (d_is_point : PySem.W.nsIn K mainGlobals "is_point" = some (some (.ref f_is_point)))
    (l_is_point : K.lookup f_is_point = some ⟨oc_is_point, od_is_point, .func (PySem.W.fnOf "is_point" "is_point" (defArgs s_is_point) (defBody s_is_point) (defScope s_is_point) .none kV_is_point dc_is_point pm_is_point an_is_point cd_is_point ct_is_point), sl_is_point⟩)
    (c_is_point : PySem.W.codeIn K cd_is_point "is_point" = true)
    (k_is_point : PySem.W.keepIn K (.ref f_is_point) = true)
    (d_is_edge : PySem.W.nsIn K mainGlobals "is_edge" = some (some (.ref f_is_edge)))
    (l_is_edge : K.lookup f_is_edge = some ⟨oc_is_edge, od_is_edge, .func (PySem.W.fnOf "is_edge" "is_edge" (defArgs s_is_edge) (defBody s_is_edge) (defScope s_is_edge) .none kV_is_edge dc_is_edge pm_is_edge an_is_edge cd_is_edge ct_is_edge), sl_is_edge⟩)
    (c_is_edge : PySem.W.codeIn K cd_is_edge "is_edge" = true)
    (k_is_edge : PySem.W.keepIn K (.ref f_is_edge) = true)
    (d_edge_fault : PySem.W.nsIn K mainGlobals "edge_fault" = some (some (.ref f_edge_fault)))
    (l_edge_fault : K.lookup f_edge_fault = some ⟨oc_edge_fault, od_edge_fault, .func (PySem.W.fnOf "edge_fault" "edge_fault" (defArgs s_edge_fault) (defBody s_edge_fault) (defScope s_edge_fault) .none kV_edge_fault dc_edge_fault pm_edge_fault an_edge_fault cd_edge_fault ct_edge_fault), sl_edge_fault⟩)
    (c_edge_fault : PySem.W.codeIn K cd_edge_fault "edge_fault" = true)
    (k_edge_fault : PySem.W.keepIn K (.ref f_edge_fault) = true)
    (d_atlas_error : PySem.W.nsIn K mainGlobals "atlas_error" = some (some (.ref f_atlas_error)))
    (l_atlas_error : K.lookup f_atlas_error = some ⟨oc_atlas_error, od_atlas_error, .func (PySem.W.fnOf "atlas_error" "atlas_error" (defArgs s_atlas_error) (defBody s_atlas_error) (defScope s_atlas_error) .none kV_atlas_error dc_atlas_error pm_atlas_error an_atlas_error cd_atlas_error ct_atlas_error), sl_atlas_error⟩)
    (c_atlas_error : PySem.W.codeIn K cd_atlas_error "atlas_error" = true)
    (k_atlas_error : PySem.W.keepIn K (.ref f_atlas_error) = true)
    (d_draw : PySem.W.nsIn K mainGlobals "_law_draw" = some (some (.ref f_draw)))
    (l_draw : K.lookup f_draw = some ⟨oc_draw, od_draw, .func (PySem.W.fnOf "_law_draw" "_law_draw" (defArgs s_draw) (defBody s_draw) (defScope s_draw) .none kV_draw dc_draw pm_draw an_draw cd_draw ct_draw), sl_draw⟩)
    (c_draw : PySem.W.codeIn K cd_draw "_law_draw" = true)
    (k_draw : PySem.W.keepIn K (.ref f_draw) = true)
    (d_pick : PySem.W.nsIn K mainGlobals "_law_pick" = some (some (.ref f_pick)))
    (l_pick : K.lookup f_pick = some ⟨oc_pick, od_pick, .func (PySem.W.fnOf "_law_pick" "_law_pick" (defArgs s_pick) (defBody s_pick) (defScope s_pick) .none kV_pick dc_pick pm_pick an_pick cd_pick ct_pick), sl_pick⟩)
    (c_pick : PySem.W.codeIn K cd_pick "_law_pick" = true)
    (k_pick : PySem.W.keepIn K (.ref f_pick) = true)
    (d_point_text : PySem.W.nsIn K mainGlobals "point_text" = some (some (.ref f_point_text)))
    (l_point_text : K.lookup f_point_text = some ⟨oc_point_text, od_point_text, .func (PySem.W.fnOf "point_text" "point_text" (defArgs s_point_text) (defBody s_point_text) (defScope s_point_text) .none kV_point_text dc_point_text pm_point_text an_point_text cd_point_text ct_point_text), sl_point_text⟩)
    (c_point_text : PySem.W.codeIn K cd_point_text "point_text" = true)
    (k_point_text : PySem.W.keepIn K (.ref f_point_text) = true)
    (d_map_lines : PySem.W.nsIn K mainGlobals "map_lines" = some (some (.ref f_map_lines)))
    (l_map_lines : K.lookup f_map_lines = some ⟨oc_map_lines, od_map_lines, .func (PySem.W.fnOf "map_lines" "map_lines" (defArgs s_map_lines) (defBody s_map_lines) (defScope s_map_lines) .none kV_map_lines dc_map_lines pm_map_lines an_map_lines cd_map_lines ct_map_lines), sl_map_lines⟩)
    (c_map_lines : PySem.W.codeIn K cd_map_lines "map_lines" = true)
    (k_map_lines : PySem.W.keepIn K (.ref f_map_lines) = true)
    (d_point_text1 : PySem.W.nsIn K mainGlobals "_law_point_text" = some (some (.ref f_point_text1)))
    (l_point_text1 : K.lookup f_point_text1 = some ⟨oc_point_text1, od_point_text1, .func (PySem.W.fnOf "_law_point_text" "_law_point_text" (defArgs s_point_text1) (defBody s_point_text1) (defScope s_point_text1) .none kV_point_text1 dc_point_text1 pm_point_text1 an_point_text1 cd_point_text1 ct_point_text1), sl_point_text1⟩)
    (c_point_text1 : PySem.W.codeIn K cd_point_text1 "_law_point_text" = true)
    (k_point_text1 : PySem.W.keepIn K (.ref f_point_text1) = true)
    (d_place_text : PySem.W.nsIn K mainGlobals "place_text" = some (some (.ref f_place_text)))
    (l_place_text : K.lookup f_place_text = some ⟨oc_place_text, od_place_text, .func (PySem.W.fnOf "place_text" "place_text" (defArgs s_place_text) (defBody s_place_text) (defScope s_place_text) .none kV_place_text dc_place_text pm_place_text an_place_text cd_place_text ct_place_text), sl_place_text⟩)
    (c_place_text : PySem.W.codeIn K cd_place_text "place_text" = true)
    (k_place_text : PySem.W.keepIn K (.ref f_place_text) = true)
    (d_is_count : PySem.W.nsIn K mainGlobals "is_count" = some (some (.ref f_is_count)))
    (l_is_count : K.lookup f_is_count = some ⟨oc_is_count, od_is_count, .func (PySem.W.fnOf "is_count" "is_count" (defArgs s_is_count) (defBody s_is_count) (defScope s_is_count) .none kV_is_count dc_is_count pm_is_count an_is_count cd_is_count ct_is_count), sl_is_count⟩)
    (c_is_count : PySem.W.codeIn K cd_is_count "is_count" = true)
    (k_is_count : PySem.W.keepIn K (.ref f_is_count) = true)
    (d_place_text1 : PySem.W.nsIn K mainGlobals "_law_place_text" = some (some (.ref f_place_text1)))
    (l_place_text1 : K.lookup f_place_text1 = some ⟨oc_place_text1, od_place_text1, .func (PySem.W.fnOf "_law_place_text" "_law_place_text" (defArgs s_place_text1) (defBody s_place_text1) (defScope s_place_text1) .none kV_place_text1 dc_place_text1 pm_place_text1 an_place_text1 cd_place_text1 ct_place_text1), sl_place_text1⟩)
    (c_place_text1 : PySem.W.codeIn K cd_place_text1 "_law_place_text" = true)
    (k_place_text1 : PySem.W.keepIn K (.ref f_place_text1) = true)
    (d_is_number : PySem.W.nsIn K mainGlobals "is_number" = some (some (.ref f_is_number)))
    (l_is_number : K.lookup f_is_number = some ⟨oc_is_number, od_is_number, .func (PySem.W.fnOf "is_number" "is_number" (defArgs s_is_number) (defBody s_is_number) (defScope s_is_number) .none kV_is_number dc_is_number pm_is_number an_is_number cd_is_number ct_is_number), sl_is_number⟩)
    (c_is_number : PySem.W.codeIn K cd_is_number "is_number" = true)
    (k_is_number : PySem.W.keepIn K (.ref f_is_number) = true)
    (d_parsed_point : PySem.W.nsIn K mainGlobals "parsed_point" = some (some (.ref f_parsed_point)))
    (l_parsed_point : K.lookup f_parsed_point = some ⟨oc_parsed_point, od_parsed_point, .func (PySem.W.fnOf "parsed_point" "parsed_point" (defArgs s_parsed_point) (defBody s_parsed_point) (defScope s_parsed_point) .none kV_parsed_point dc_parsed_point pm_parsed_point an_parsed_point cd_parsed_point ct_parsed_point), sl_parsed_point⟩)
    (c_parsed_point : PySem.W.codeIn K cd_parsed_point "parsed_point" = true)
    (k_parsed_point : PySem.W.keepIn K (.ref f_parsed_point) = true)
    (d_parsed_place : PySem.W.nsIn K mainGlobals "parsed_place" = some (some (.ref f_parsed_place)))
    (l_parsed_place : K.lookup f_parsed_place = some ⟨oc_parsed_place, od_parsed_place, .func (PySem.W.fnOf "parsed_place" "parsed_place" (defArgs s_parsed_place) (defBody s_parsed_place) (defScope s_parsed_place) .none kV_parsed_place dc_parsed_place pm_parsed_place an_parsed_place cd_parsed_place ct_parsed_place), sl_parsed_place⟩)
    (c_parsed_place : PySem.W.codeIn K cd_parsed_place "parsed_place" = true)
    (k_parsed_place : PySem.W.keepIn K (.ref f_parsed_place) = true)
    (d_parse_place : PySem.W.nsIn K mainGlobals "parse_place" = some (some (.ref f_parse_place)))
    (l_parse_place : K.lookup f_parse_place = some ⟨oc_parse_place, od_parse_place, .func (PySem.W.fnOf "parse_place" "parse_place" (defArgs s_parse_place) (defBody s_parse_place) (defScope s_parse_place) .none kV_parse_place dc_parse_place pm_parse_place an_parse_place cd_parse_place ct_parse_place), sl_parse_place⟩)
    (c_parse_place : PySem.W.codeIn K cd_parse_place "parse_place" = true)
    (k_parse_place : PySem.W.keepIn K (.ref f_parse_place) = true)
    (d_number_in : PySem.W.nsIn K mainGlobals "_law_number_in" = some (some (.ref f_number_in)))
    (l_number_in : K.lookup f_number_in = some ⟨oc_number_in, od_number_in, .func (PySem.W.fnOf "_law_number_in" "_law_number_in" (defArgs s_number_in) (defBody s_number_in) (defScope s_number_in) .none kV_number_in dc_number_in pm_number_in an_number_in cd_number_in ct_number_in), sl_number_in⟩)
    (c_number_in : PySem.W.codeIn K cd_number_in "_law_number_in" = true)
    (k_number_in : PySem.W.keepIn K (.ref f_number_in) = true)
    (d_point_in : PySem.W.nsIn K mainGlobals "_law_point_in" = some (some (.ref f_point_in)))
    (l_point_in : K.lookup f_point_in = some ⟨oc_point_in, od_point_in, .func (PySem.W.fnOf "_law_point_in" "_law_point_in" (defArgs s_point_in) (defBody s_point_in) (defScope s_point_in) .none kV_point_in dc_point_in pm_point_in an_point_in cd_point_in ct_point_in), sl_point_in⟩)
    (c_point_in : PySem.W.codeIn K cd_point_in "_law_point_in" = true)
    (k_point_in : PySem.W.keepIn K (.ref f_point_in) = true)
    (d_place_in : PySem.W.nsIn K mainGlobals "_law_place_in" = some (some (.ref f_place_in)))
    (l_place_in : K.lookup f_place_in = some ⟨oc_place_in, od_place_in, .func (PySem.W.fnOf "_law_place_in" "_law_place_in" (defArgs s_place_in) (defBody s_place_in) (defScope s_place_in) .none kV_place_in dc_place_in pm_place_in an_place_in cd_place_in ct_place_in), sl_place_in⟩)
    (c_place_in : PySem.W.codeIn K cd_place_in "_law_place_in" = true)
    (k_place_in : PySem.W.keepIn K (.ref f_place_in) = true)
    (d_is_place_form : PySem.W.nsIn K mainGlobals "is_place_form" = some (some (.ref f_is_place_form)))
    (l_is_place_form : K.lookup f_is_place_form = some ⟨oc_is_place_form, od_is_place_form, .func (PySem.W.fnOf "is_place_form" "is_place_form" (defArgs s_is_place_form) (defBody s_is_place_form) (defScope s_is_place_form) .none kV_is_place_form dc_is_place_form pm_is_place_form an_is_place_form cd_is_place_form ct_is_place_form), sl_is_place_form⟩)
    (c_is_place_form : PySem.W.codeIn K cd_is_place_form "is_place_form" = true)
    (k_is_place_form : PySem.W.keepIn K (.ref f_is_place_form) = true)
    (d_format_place : PySem.W.nsIn K mainGlobals "format_place" = some (some (.ref f_format_place)))
    (l_format_place : K.lookup f_format_place = some ⟨oc_format_place, od_format_place, .func (PySem.W.fnOf "format_place" "format_place" (defArgs s_format_place) (defBody s_format_place) (defScope s_format_place) .none kV_format_place dc_format_place pm_format_place an_format_place cd_format_place ct_format_place), sl_format_place⟩)
    (c_format_place : PySem.W.codeIn K cd_format_place "format_place" = true)
    (k_format_place : PySem.W.keepIn K (.ref f_format_place) = true)
    (d_is_index1 : PySem.W.nsIn K mainGlobals "_law_is_index" = some (some (.ref f_is_index1)))
    (l_is_index1 : K.lookup f_is_index1 = some ⟨oc_is_index1, od_is_index1, .func (PySem.W.fnOf "_law_is_index" "_law_is_index" (defArgs s_is_index1) (defBody s_is_index1) (defScope s_is_index1) .none kV_is_index1 dc_is_index1 pm_is_index1 an_is_index1 cd_is_index1 ct_is_index1), sl_is_index1⟩)
    (c_is_index1 : PySem.W.codeIn K cd_is_index1 "_law_is_index" = true)
    (k_is_index1 : PySem.W.keepIn K (.ref f_is_index1) = true)
    (d_is_place : PySem.W.nsIn K mainGlobals "_law_is_place" = some (some (.ref f_is_place)))
    (l_is_place : K.lookup f_is_place = some ⟨oc_is_place, od_is_place, .func (PySem.W.fnOf "_law_is_place" "_law_is_place" (defArgs s_is_place) (defBody s_is_place) (defScope s_is_place) .none kV_is_place dc_is_place pm_is_place an_is_place cd_is_place ct_is_place), sl_is_place⟩)
    (c_is_place : PySem.W.codeIn K cd_is_place "_law_is_place" = true)
    (k_is_place : PySem.W.keepIn K (.ref f_is_place) = true)
    (d_read_right : PySem.W.nsIn K mainGlobals "_law_read_right" = some (some (.ref f_read_right)))
    (l_read_right : K.lookup f_read_right = some ⟨oc_read_right, od_read_right, .func (PySem.W.fnOf "_law_read_right" "_law_read_right" (defArgs s_read_right) (defBody s_read_right) (defScope s_read_right) .none kV_read_right dc_read_right pm_read_right an_read_right cd_read_right ct_read_right), sl_read_right⟩)
    (c_read_right : PySem.W.codeIn K cd_read_right "_law_read_right" = true)
    (k_read_right : PySem.W.keepIn K (.ref f_read_right) = true)
    (d_changed_text : PySem.W.nsIn K mainGlobals "_law_changed_text" = some (some (.ref f_changed_text)))
    (l_changed_text : K.lookup f_changed_text = some ⟨oc_changed_text, od_changed_text, .func (PySem.W.fnOf "_law_changed_text" "_law_changed_text" (defArgs s_changed_text) (defBody s_changed_text) (defScope s_changed_text) .none kV_changed_text dc_changed_text pm_changed_text an_changed_text cd_changed_text ct_changed_text), sl_changed_text⟩)
    (c_changed_text : PySem.W.codeIn K cd_changed_text "_law_changed_text" = true)
    (k_changed_text : PySem.W.keepIn K (.ref f_changed_text) = true)
    (d_written_right : PySem.W.nsIn K mainGlobals "_law_written_right" = some (some (.ref f_written_right)))
    (l_written_right : K.lookup f_written_right = some ⟨oc_written_right, od_written_right, .func (PySem.W.fnOf "_law_written_right" "_law_written_right" (defArgs s_written_right) (defBody s_written_right) (defScope s_written_right) .none kV_written_right dc_written_right pm_written_right an_written_right cd_written_right ct_written_right), sl_written_right⟩)
    (c_written_right : PySem.W.codeIn K cd_written_right "_law_written_right" = true)
    (k_written_right : PySem.W.keepIn K (.ref f_written_right) = true)
    (d_changed_place : PySem.W.nsIn K mainGlobals "_law_changed_place" = some (some (.ref f_changed_place)))
    (l_changed_place : K.lookup f_changed_place = some ⟨oc_changed_place, od_changed_place, .func (PySem.W.fnOf "_law_changed_place" "_law_changed_place" (defArgs s_changed_place) (defBody s_changed_place) (defScope s_changed_place) .none kV_changed_place dc_changed_place pm_changed_place an_changed_place cd_changed_place ct_changed_place), sl_changed_place⟩)
    (c_changed_place : PySem.W.codeIn K cd_changed_place "_law_changed_place" = true)
    (k_changed_place : PySem.W.keepIn K (.ref f_changed_place) = true)
    (d_checked_atlas : PySem.W.nsIn K mainGlobals "checked_atlas" = some (some (.ref f_checked_atlas)))
    (l_checked_atlas : K.lookup f_checked_atlas = some ⟨oc_checked_atlas, od_checked_atlas, .func (PySem.W.fnOf "checked_atlas" "checked_atlas" (defArgs s_checked_atlas) (defBody s_checked_atlas) (defScope s_checked_atlas) .none kV_checked_atlas dc_checked_atlas pm_checked_atlas an_checked_atlas cd_checked_atlas ct_checked_atlas), sl_checked_atlas⟩)
    (c_checked_atlas : PySem.W.codeIn K cd_checked_atlas "checked_atlas" = true)
    (k_checked_atlas : PySem.W.keepIn K (.ref f_checked_atlas) = true)
    (d_format_atlas : PySem.W.nsIn K mainGlobals "format_atlas" = some (some (.ref f_format_atlas)))
    (l_format_atlas : K.lookup f_format_atlas = some ⟨oc_format_atlas, od_format_atlas, .func (PySem.W.fnOf "format_atlas" "format_atlas" (defArgs s_format_atlas) (defBody s_format_atlas) (defScope s_format_atlas) .none kV_format_atlas dc_format_atlas pm_format_atlas an_format_atlas cd_format_atlas ct_format_atlas), sl_format_atlas⟩)
    (c_format_atlas : PySem.W.codeIn K cd_format_atlas "format_atlas" = true)
    (k_format_atlas : PySem.W.keepIn K (.ref f_format_atlas) = true)
    (d_pen : PySem.W.nsIn K mainGlobals "_law_pen" = some (some (.ref f_pen)))
    (l_pen : K.lookup f_pen = some ⟨oc_pen, od_pen, .func (PySem.W.fnOf "_law_pen" "_law_pen" (defArgs s_pen) (defBody s_pen) (defScope s_pen) .none kV_pen dc_pen pm_pen an_pen cd_pen ct_pen), sl_pen⟩)
    (c_pen : PySem.W.codeIn K cd_pen "_law_pen" = true)
    (k_pen : PySem.W.keepIn K (.ref f_pen) = true)
    (d_error : PySem.W.nsIn K mainGlobals "_law_error" = some (some (.ref f_error)))
    (l_error : K.lookup f_error = some ⟨oc_error, od_error, .func (PySem.W.fnOf "_law_error" "_law_error" (defArgs s_error) (defBody s_error) (defScope s_error) .none kV_error dc_error pm_error an_error cd_error ct_error), sl_error⟩)
    (c_error : PySem.W.codeIn K cd_error "_law_error" = true)
    (k_error : PySem.W.keepIn K (.ref f_error) = true)
    (d_law : PySem.W.nsIn K mainGlobals "law" = some (some (.ref f_law)))
    (l_law : K.lookup f_law = some ⟨oc_law, od_law, .func (PySem.W.fnOf "law" "law" (defArgs s_law) (defBody s_law) (defScope s_law) .none kV_law dc_law pm_law an_law cd_law ct_law), sl_law⟩)
    (c_law : PySem.W.codeIn K cd_law "law" = true)
    (k_law : PySem.W.keepIn K (.ref f_law) = true)
    (h1_read_right : cd_read_right = .ref ca_read_right)
    (h2_read_right : K.lookup ca_read_right = some ⟨oo_read_right, oe_read_right, .fields vv_read_right, se_read_right⟩)
    (h3_read_right : (vv_read_right[11]? : Option Value) = some (.ref pt_read_right))
    (h4_read_right : K.lookup pt_read_right = none)
    (h5_read_right : ((recsOf q).find? fun e => e.name == ("_law_read_right" : Str)).isSome = true)
    (h1_written_right : cd_written_right = .ref ca_written_right)
    (h2_written_right : K.lookup ca_written_right = some ⟨oo_written_right, oe_written_right, .fields vv_written_right, se_written_right⟩)
    (h3_written_right : (vv_written_right[11]? : Option Value) = some (.ref pt_written_right))
    (h4_written_right : K.lookup pt_written_right = none)
    (h5_written_right : ((recsOf q).find? fun e => e.name == ("_law_written_right" : Str)).isSome = true)
    (ne_read_right_written_right : pt_read_right ≠ pt_written_right)
    (a_SlotmapsError : PySem.W.nsIn K mainGlobals "SlotmapsError" = some (some (.ref e_SlotmapsError)))
    (a_BadText : PySem.W.nsIn K mainGlobals "BadText" = some (some (.ref e_BadText)))
    (a_BadAtlas : PySem.W.nsIn K mainGlobals "BadAtlas" = some (some (.ref e_BadAtlas)))
    (a_UnknownMap : PySem.W.nsIn K mainGlobals "UnknownMap" = some (some (.ref e_UnknownMap)))
    (a_BadPlace : PySem.W.nsIn K mainGlobals "BadPlace" = some (some (.ref e_BadPlace)))
    (xk_BadPlace : PySem.W.keepIn K (.ref e_BadPlace) = true)
    (xq_BadPlace : PySem.W.excIn K e_BadPlace VEs "ValueError.__new__" = true)
    (xs_BadPlace : PySem.W.subIn K (.ref e_BadPlace) (.type "BaseException") = some true)
    (xt_BadPlace : PySem.W.typeIn K (.ref e_BadPlace) = some (.type "type"))
    (xL_BadText : K.lookup e_BadText = some (excClassObj nm_BadText qq_BadText e_BadText nn_BadText bs_BadText [.ref e_SlotmapsError, .type "ValueError", .type "Exception", .type "BaseException", .type "object"] true sn_BadText sub_BadText ab_BadText col_BadText dd_BadText m0_BadText m1_BadText m2_BadText m3_BadText m5_BadText "ValueError.__new__"))
    (sa_BadText : PySem.W.findIn K (.ref e_BadText) "__setattr__" = some (some (.builtin "object.__setattr__")))
    (ex_BadText : PySem.W.subIn K (.ref e_BadText) (.type "BaseException") = some true)
    (ty_BadText : PySem.W.typeIn K (.ref e_BadText) = some (.type "type"))
    (kc_BadText : PySem.W.keepIn K (.ref e_BadText) = true)
    (ii_BadText : PySem.W.findIn K (.ref e_BadText) "__init__" = some (some (.ref g_BadText)))
    (it_BadText : PySem.W.typeIn K (.ref g_BadText) = some (.type "function"))
    (nf_BadText : PySem.W.findIn K (.ref e_BadText) "line" = some none)
    (xf_BadText : xfB K e_BadText = true)
    (lg_BadText : K.lookup g_BadText = some ⟨ogc_BadText, god_BadText, .func (PySem.W.fnOf "__init__" "BadText.__init__" (defArgs inBT) (defBody inBT) (defScope inBT) .none gk_BadText gd_BadText gp_BadText ga_BadText gc_BadText gt_BadText), gs_BadText⟩)
    (cg_BadText : PySem.W.codeIn K gc_BadText "BadText.__init__" = true)
    (kg_BadText : PySem.W.keepIn K (.ref g_BadText) = true)
    (xm_BadText : PySem.W.exmOne K (.ref e_BadText) (.ref e_BadText) = some true)
    (xL_BadAtlas : K.lookup e_BadAtlas = some (excClassObj nm_BadAtlas qq_BadAtlas e_BadAtlas nn_BadAtlas bs_BadAtlas [.ref e_SlotmapsError, .type "ValueError", .type "Exception", .type "BaseException", .type "object"] true sn_BadAtlas sub_BadAtlas ab_BadAtlas col_BadAtlas dd_BadAtlas m0_BadAtlas m1_BadAtlas m2_BadAtlas m3_BadAtlas m5_BadAtlas "ValueError.__new__"))
    (sa_BadAtlas : PySem.W.findIn K (.ref e_BadAtlas) "__setattr__" = some (some (.builtin "object.__setattr__")))
    (ex_BadAtlas : PySem.W.subIn K (.ref e_BadAtlas) (.type "BaseException") = some true)
    (ty_BadAtlas : PySem.W.typeIn K (.ref e_BadAtlas) = some (.type "type"))
    (kc_BadAtlas : PySem.W.keepIn K (.ref e_BadAtlas) = true)
    (ii_BadAtlas : PySem.W.findIn K (.ref e_BadAtlas) "__init__" = some (some (.ref g_BadAtlas)))
    (it_BadAtlas : PySem.W.typeIn K (.ref g_BadAtlas) = some (.type "function"))
    (nf_BadAtlas : PySem.W.findIn K (.ref e_BadAtlas) "reason" = some none)
    (xf_BadAtlas : xfB K e_BadAtlas = true)
    (lg_BadAtlas : K.lookup g_BadAtlas = some ⟨ogc_BadAtlas, god_BadAtlas, .func (PySem.W.fnOf "__init__" "BadAtlas.__init__" (defArgs inBA) (defBody inBA) (defScope inBA) .none gk_BadAtlas gd_BadAtlas gp_BadAtlas ga_BadAtlas gc_BadAtlas gt_BadAtlas), gs_BadAtlas⟩)
    (cg_BadAtlas : PySem.W.codeIn K gc_BadAtlas "BadAtlas.__init__" = true)
    (kg_BadAtlas : PySem.W.keepIn K (.ref g_BadAtlas) = true)
    (xm_BadAtlas : PySem.W.exmOne K (.ref e_BadAtlas) (.ref e_BadAtlas) = some true)
    (f2 : PySem.W.exmOne K (.ref e_BadPlace) (.ref e_BadText) = some false)
    (f3 : PySem.W.exmOne K (.ref e_BadPlace) (.ref e_SlotmapsError) = some true)
    (f4 : excB K e_BadText = true)
    (f5 : excB K e_BadPlace = true)
    (f8 : PySem.W.kitAny K (.ref e_BadText) [.ref e_BadPlace, .ref e_BadAtlas, .ref e_UnknownMap] = some false)
    (f9 : PySem.W.kitOne K (.ref e_BadPlace) (.ref e_BadPlace) = some true)
    (o2 : excB K e_BadAtlas = true)
    (o3 : PySem.W.kitAny K (.ref e_BadAtlas) [.ref e_BadText, .ref e_BadPlace, .ref e_UnknownMap] = some false)
    (o4 : PySem.W.kitOne K (.ref e_BadAtlas) (.type "ValueError") = some true)
    (a_LETTERS : PySem.W.nsIn K mainGlobals "LETTERS" = some (some (.ref e_LETTERS)))
    (y_LETTERS : K.lookup e_LETTERS = some ⟨.type "dict", none, .dict es_LETTERS n_LETTERS, #[]⟩)
    (q_LETTERS : PySem.W.KeysLit w.params es_LETTERS.toList)
    (v_LETTERS_node : PySem.W.nsIn K e_LETTERS "node" = some (some (.str "n" t_LETTERS_node)))
    (v_LETTERS_port : PySem.W.nsIn K e_LETTERS "port" = some (some (.str "p" t_LETTERS_port)))
    (v_LETTERS_slot : PySem.W.nsIn K e_LETTERS "slot" = some (some (.str "s" t_LETTERS_slot))) :
    ∃ (fd : FuncData) (cs : List (Str × Addr × Addr)), (∀ (s : Shared) (v : Value), BindsTo s fd ⟨[v], []⟩ [("script", v)]) ∧ (∀ p ∈ cs, ((recsOf q).find? fun e => e.name == p.1).isSome = true ∧ PySem.W.tabIn K p.1 = some p.2 ∧ K.lookup p.2.2 = none) ∧
      ∀ base : Heap, K.In base → base.Ns mainGlobals mg → (∃ o, base.get? sysModules = some o) → (∀ p ∈ cs, LamX.TabB base mg p.2.1 p.2.2) → FnG P w K mg base CX0 20 fa fd ["script"] (spLawT (cs.map fun p => (p.2.2, p.1 ++ ".<locals>." ++ "<lambda>")) K) := by
  let cs : List (Str × Addr × Addr) := [("_law_read_right", ca_read_right, pt_read_right), ("_law_written_right", ca_written_right, pt_written_right)]
  letI : PW := ⟨P, w, cs.map fun p => (p.2.2, p.1 ++ ".<locals>." ++ "<lambda>")⟩
  have e := hfa.symm.trans (PySem.W.mg_of X G d_law)
  cases e
  have w_LETTERS : ∀ z y, lettersW z = some y → KDct K w (clsA mg "LETTERS") z (.str y) ∧ y.length ≤ 16777216 := fun z y e => by
    rw [clsA_of (PySem.W.mg_of X G a_LETTERS)]
    unfold lettersW at e
    split at e
    · rename_i hz; cases e; rw [hz]; exact ⟨⟨_, _, _, y_LETTERS, q_LETTERS, v_LETTERS_node, _, rfl⟩, by decide⟩
    rename_i hz_node
    split at e
    · rename_i hz; cases e; rw [hz]; exact ⟨⟨_, _, _, y_LETTERS, q_LETTERS, v_LETTERS_port, _, rfl⟩, by decide⟩
    rename_i hz_port
    split at e
    · rename_i hz; cases e; rw [hz]; exact ⟨⟨_, _, _, y_LETTERS, q_LETTERS, v_LETTERS_slot, _, rfl⟩, by decide⟩
    rename_i hz_slot
    cases e
  have T : Txt K mg := { b_len := PySem.W.mg_none_of X G z_len, b_int := PySem.W.mg_none_of X G z_int, b_bool := PySem.W.mg_none_of X G z_bool, b_str := PySem.W.mg_none_of X G z_str, b_tuple := PySem.W.mg_none_of X G z_tuple, b_list := PySem.W.mg_none_of X G z_list, b_isinstance := PySem.W.mg_none_of X G z_isinstance, b_range := PySem.W.mg_none_of X G z_range, b_enumerate := PySem.W.mg_none_of X G z_enumerate, b_all := PySem.W.mg_none_of X G z_all, b_abs := PySem.W.mg_none_of X G z_abs, b_sorted := PySem.W.mg_none_of X G z_sorted, b_repr := PySem.W.mg_none_of X G z_repr, b_min := PySem.W.mg_none_of X G z_min, b_dict := PySem.W.mg_none_of X G z_dict, k_MOST_MAPS := ⟨_, PySem.W.mg_of X G c_MOST_MAPS⟩, k_MOST_PORTS := ⟨_, PySem.W.mg_of X G c_MOST_PORTS⟩, k_MOST_LABELS := ⟨_, PySem.W.mg_of X G c_MOST_LABELS⟩, k_MOST_SLOTS := ⟨_, PySem.W.mg_of X G c_MOST_SLOTS⟩, k_MOST_EDGES := ⟨_, PySem.W.mg_of X G c_MOST_EDGES⟩, k_MOST_COST := ⟨_, PySem.W.mg_of X G c_MOST_COST⟩, k_MOST_INDEXES := ⟨_, PySem.W.mg_of X G c_MOST_INDEXES⟩, k_MOST_DIGITS := ⟨_, PySem.W.mg_of X G c_MOST_DIGITS⟩, x_BadPlace := xcls_of (PySem.W.mg_of X G a_BadPlace) xk_BadPlace xq_BadPlace xs_BadPlace xt_BadPlace, d_LETTERS := cls_g (PySem.W.mg_of X G a_LETTERS), w_LETTERS := w_LETTERS }
  have oo_BadText : OexC K e_BadText := { cls := ⟨nm_BadText, qq_BadText, nn_BadText, bs_BadText, _, sn_BadText, sub_BadText, ab_BadText, col_BadText, dd_BadText, m0_BadText, m1_BadText, m2_BadText, m3_BadText, m5_BadText, xL_BadText, rfl⟩, sa := sa_BadText, exC := ex_BadText, tyC := ty_BadText, kC := kc_BadText }
  have GI_BadText := fun_mk (st := inBT) lg_BadText cg_BadText kg_BadText
  have BI_BadText := GI_BadText.binds (ps := ["self", "line"]) fun _ _ _ _ _ _ us hl => match us, hl with | [_, _], _ => rfl
  have EI_BadText : ErrI K mg "BadText" (clsA mg "BadText") g_BadText "line" := by
    rw [clsA_of (PySem.W.mg_of X G a_BadText)]
    exact ⟨PySem.W.mg_of X G a_BadText, oo_BadText, ii_BadText, it_BadText, nf_BadText, xfB_ok xf_BadText⟩
  have XM_BadText : PySem.W.exmOne K (.ref (clsA mg "BadText")) (.ref (clsA mg "BadText")) = some true := by
    rw [clsA_of (PySem.W.mg_of X G a_BadText)]
    exact xm_BadText
  have oo_BadAtlas : OexC K e_BadAtlas := { cls := ⟨nm_BadAtlas, qq_BadAtlas, nn_BadAtlas, bs_BadAtlas, _, sn_BadAtlas, sub_BadAtlas, ab_BadAtlas, col_BadAtlas, dd_BadAtlas, m0_BadAtlas, m1_BadAtlas, m2_BadAtlas, m3_BadAtlas, m5_BadAtlas, xL_BadAtlas, rfl⟩, sa := sa_BadAtlas, exC := ex_BadAtlas, tyC := ty_BadAtlas, kC := kc_BadAtlas }
  have GI_BadAtlas := fun_mk (st := inBA) lg_BadAtlas cg_BadAtlas kg_BadAtlas
  have BI_BadAtlas := GI_BadAtlas.binds (ps := ["self", "reason"]) fun _ _ _ _ _ _ us hl => match us, hl with | [_, _], _ => rfl
  have EI_BadAtlas : ErrI K mg "BadAtlas" (clsA mg "BadAtlas") g_BadAtlas "reason" := by
    rw [clsA_of (PySem.W.mg_of X G a_BadAtlas)]
    exact ⟨PySem.W.mg_of X G a_BadAtlas, oo_BadAtlas, ii_BadAtlas, it_BadAtlas, nf_BadAtlas, xfB_ok xf_BadAtlas⟩
  have XM_BadAtlas : PySem.W.exmOne K (.ref (clsA mg "BadAtlas")) (.ref (clsA mg "BadAtlas")) = some true := by
    rw [clsA_of (PySem.W.mg_of X G a_BadAtlas)]
    exact xm_BadAtlas
  have AT : AskT K mg := askT_of (PySem.W.mg_none_of X G z_isinstance) (PySem.W.mg_of X G a_BadText) (PySem.W.mg_of X G a_SlotmapsError) (PySem.W.mg_of X G a_BadPlace) (PySem.W.mg_of X G a_BadAtlas) (PySem.W.mg_of X G a_UnknownMap) xm_BadText f2 f3 f4 f5 xf_BadText nf_BadText f8 f9
  have ET : OopsT K mg := oopsT_of (PySem.W.mg_none_of X G z_ValueError) (PySem.W.mg_of X G a_BadText) (PySem.W.mg_of X G a_BadPlace) (PySem.W.mg_of X G a_BadAtlas) (PySem.W.mg_of X G a_UnknownMap) xm_BadAtlas o2 o3 o4
  have D_is_integer : Def K mg "is_integer" s_is_integer ["value"] := def_of X G d_is_integer l_is_integer c_is_integer k_is_integer fun _ _ _ _ _ _ us hl => match us, hl with | [_], _ => rfl
  have D_is_integer_in : Def K mg "is_integer_in" s_is_integer_in ["value", "low", "high"] := def_of X G d_is_integer_in l_is_integer_in c_is_integer_in k_is_integer_in fun _ _ _ _ _ _ us hl => match us, hl with | [_, _, _], _ => rfl
  have D_is_tuple : Def K mg "is_tuple" s_is_tuple ["value", "low", "high"] := def_of X G d_is_tuple l_is_tuple c_is_tuple k_is_tuple fun _ _ _ _ _ _ us hl => match us, hl with | [_, _, _], _ => rfl
  have D_is_index : Def K mg "is_index" s_is_index ["value", "many"] := def_of X G d_is_index l_is_index c_is_index k_is_index fun _ _ _ _ _ _ us hl => match us, hl with | [_, _], _ => rfl
  have D_is_name : Def K mg "is_name" s_is_name ["value"] := def_of X G d_is_name l_is_name c_is_name k_is_name fun _ _ _ _ _ _ us hl => match us, hl with | [_], _ => rfl
  have D_is_names : Def K mg "is_names" s_is_names ["value", "most"] := def_of X G d_is_names l_is_names c_is_names k_is_names fun _ _ _ _ _ _ us hl => match us, hl with | [_, _], _ => rfl
  have D_has_map_form : Def K mg "has_map_form" s_has_map_form ["value"] := def_of X G d_has_map_form l_has_map_form c_has_map_form k_has_map_form fun _ _ _ _ _ _ us hl => match us, hl with | [_], _ => rfl
  have D_map_fault : Def K mg "map_fault" s_map_fault ["items"] := def_of X G d_map_fault l_map_fault c_map_fault k_map_fault fun _ _ _ _ _ _ us hl => match us, hl with | [_], _ => rfl
  have D_edges_fault : Def K mg "edges_fault" s_edges_fault ["atlas"] := def_of X G d_edges_fault l_edges_fault c_edges_fault k_edges_fault fun _ _ _ _ _ _ us hl => match us, hl with | [_], _ => rfl
  have D_slot_fault : Def K mg "slot_fault" s_slot_fault ["atlas"] := def_of X G d_slot_fault l_slot_fault c_slot_fault k_slot_fault fun _ _ _ _ _ _ us hl => match us, hl with | [_], _ => rfl
  have D_maps_by_name : Def K mg "maps_by_name" s_maps_by_name ["atlas"] := def_of X G d_maps_by_name l_maps_by_name c_maps_by_name k_maps_by_name fun _ _ _ _ _ _ us hl => match us, hl with | [_], _ => rfl
  have D_is_point : Def K mg "is_point" s_is_point ["maps", "chart", "value"] := def_of X G d_is_point l_is_point c_is_point k_is_point fun _ _ _ _ _ _ us hl => match us, hl with | [_, _, _], _ => rfl
  have D_is_edge : Def K mg "is_edge" s_is_edge ["maps", "chart", "value"] := def_of X G d_is_edge l_is_edge c_is_edge k_is_edge fun _ _ _ _ _ _ us hl => match us, hl with | [_, _, _], _ => rfl
  have D_edge_fault : Def K mg "edge_fault" s_edge_fault ["atlas"] := def_of X G d_edge_fault l_edge_fault c_edge_fault k_edge_fault fun _ _ _ _ _ _ us hl => match us, hl with | [_], _ => rfl
  have D_atlas_error : Def K mg "atlas_error" s_atlas_error ["value"] := def_of X G d_atlas_error l_atlas_error c_atlas_error k_atlas_error fun _ _ _ _ _ _ us hl => match us, hl with | [_], _ => rfl
  have D_draw : Def K mg "_law_draw" s_draw ["pen", "many"] := def_of X G d_draw l_draw c_draw k_draw fun _ _ _ _ _ _ us hl => match us, hl with | [_, _], _ => rfl
  have D_pick : Def K mg "_law_pick" s_pick ["pen", "items"] := def_of X G d_pick l_pick c_pick k_pick fun _ _ _ _ _ _ us hl => match us, hl with | [_, _], _ => rfl
  have D_point_text : Def K mg "point_text" s_point_text ["point"] := def_of X G d_point_text l_point_text c_point_text k_point_text fun _ _ _ _ _ _ us hl => match us, hl with | [_], _ => rfl
  have D_map_lines : Def K mg "map_lines" s_map_lines ["chart"] := def_of X G d_map_lines l_map_lines c_map_lines k_map_lines fun _ _ _ _ _ _ us hl => match us, hl with | [_], _ => rfl
  have D_point_text1 : Def K mg "_law_point_text" s_point_text1 ["point"] := def_of X G d_point_text1 l_point_text1 c_point_text1 k_point_text1 fun _ _ _ _ _ _ us hl => match us, hl with | [_], _ => rfl
  have D_place_text : Def K mg "place_text" s_place_text ["place"] := def_of X G d_place_text l_place_text c_place_text k_place_text fun _ _ _ _ _ _ us hl => match us, hl with | [_], _ => rfl
  have D_is_count : Def K mg "is_count" s_is_count ["value"] := def_of X G d_is_count l_is_count c_is_count k_is_count fun _ _ _ _ _ _ us hl => match us, hl with | [_], _ => rfl
  have D_place_text1 : Def K mg "_law_place_text" s_place_text1 ["place"] := def_of X G d_place_text1 l_place_text1 c_place_text1 k_place_text1 fun _ _ _ _ _ _ us hl => match us, hl with | [_], _ => rfl
  have D_is_number : Def K mg "is_number" s_is_number ["word"] := def_of X G d_is_number l_is_number c_is_number k_is_number fun _ _ _ _ _ _ us hl => match us, hl with | [_], _ => rfl
  have D_parsed_point : Def K mg "parsed_point" s_parsed_point ["word"] := def_of X G d_parsed_point l_parsed_point c_parsed_point k_parsed_point fun _ _ _ _ _ _ us hl => match us, hl with | [_], _ => rfl
  have D_parsed_place : Def K mg "parsed_place" s_parsed_place ["text"] := def_of X G d_parsed_place l_parsed_place c_parsed_place k_parsed_place fun _ _ _ _ _ _ us hl => match us, hl with | [_], _ => rfl
  have D_parse_place : Def K mg "parse_place" s_parse_place ["text"] := def_of X G d_parse_place l_parse_place c_parse_place k_parse_place fun _ _ _ _ _ _ us hl => match us, hl with | [_], _ => rfl
  have D_number_in : Def K mg "_law_number_in" s_number_in ["word"] := def_of X G d_number_in l_number_in c_number_in k_number_in fun _ _ _ _ _ _ us hl => match us, hl with | [_], _ => rfl
  have D_point_in : Def K mg "_law_point_in" s_point_in ["word"] := def_of X G d_point_in l_point_in c_point_in k_point_in fun _ _ _ _ _ _ us hl => match us, hl with | [_], _ => rfl
  have D_place_in : Def K mg "_law_place_in" s_place_in ["text"] := def_of X G d_place_in l_place_in c_place_in k_place_in fun _ _ _ _ _ _ us hl => match us, hl with | [_], _ => rfl
  have D_is_place_form : Def K mg "is_place_form" s_is_place_form ["value"] := def_of X G d_is_place_form l_is_place_form c_is_place_form k_is_place_form fun _ _ _ _ _ _ us hl => match us, hl with | [_], _ => rfl
  have D_format_place : Def K mg "format_place" s_format_place ["place"] := def_of X G d_format_place l_format_place c_format_place k_format_place fun _ _ _ _ _ _ us hl => match us, hl with | [_], _ => rfl
  have D_is_index1 : Def K mg "_law_is_index" s_is_index1 ["value"] := def_of X G d_is_index1 l_is_index1 c_is_index1 k_is_index1 fun _ _ _ _ _ _ us hl => match us, hl with | [_], _ => rfl
  have D_is_place : Def K mg "_law_is_place" s_is_place ["value"] := def_of X G d_is_place l_is_place c_is_place k_is_place fun _ _ _ _ _ _ us hl => match us, hl with | [_], _ => rfl
  have D_read_right : Def K mg "_law_read_right" s_read_right ["text"] := def_of X G d_read_right l_read_right c_read_right k_read_right fun _ _ _ _ _ _ us hl => match us, hl with | [_], _ => rfl
  have C_read_right : DefC K mg "_law_read_right" s_read_right ["text"] ca_read_right := ⟨f_read_right, _, fun_mk l_read_right c_read_right k_read_right, PySem.W.mg_of X G d_read_right, (fun_mk l_read_right c_read_right k_read_right).binds fun _ _ _ _ _ _ us hl => match us, hl with | [_], _ => rfl, h1_read_right⟩
  have D_changed_text : Def K mg "_law_changed_text" s_changed_text ["pen", "text"] := def_of X G d_changed_text l_changed_text c_changed_text k_changed_text fun _ _ _ _ _ _ us hl => match us, hl with | [_, _], _ => rfl
  have D_written_right : Def K mg "_law_written_right" s_written_right ["value"] := def_of X G d_written_right l_written_right c_written_right k_written_right fun _ _ _ _ _ _ us hl => match us, hl with | [_], _ => rfl
  have C_written_right : DefC K mg "_law_written_right" s_written_right ["value"] ca_written_right := ⟨f_written_right, _, fun_mk l_written_right c_written_right k_written_right, PySem.W.mg_of X G d_written_right, (fun_mk l_written_right c_written_right k_written_right).binds fun _ _ _ _ _ _ us hl => match us, hl with | [_], _ => rfl, h1_written_right⟩
  have D_changed_place : Def K mg "_law_changed_place" s_changed_place ["pen", "place"] := def_of X G d_changed_place l_changed_place c_changed_place k_changed_place fun _ _ _ _ _ _ us hl => match us, hl with | [_, _], _ => rfl
  have D_checked_atlas : Def K mg "checked_atlas" s_checked_atlas ["atlas"] := def_of X G d_checked_atlas l_checked_atlas c_checked_atlas k_checked_atlas fun _ _ _ _ _ _ us hl => match us, hl with | [_], _ => rfl
  have D_format_atlas : Def K mg "format_atlas" s_format_atlas ["atlas"] := def_of X G d_format_atlas l_format_atlas c_format_atlas k_format_atlas fun _ _ _ _ _ _ us hl => match us, hl with | [_], _ => rfl
  have D_pen : Def K mg "_law_pen" s_pen ["script"] := def_of X G d_pen l_pen c_pen k_pen fun _ _ _ _ _ _ us hl => match us, hl with | [_], _ => rfl
  have D_error : Def K mg "_law_error" s_error ["asks"] := def_of X G d_error l_error c_error k_error fun _ _ _ _ _ _ us hl => match us, hl with | [_], _ => rfl
  have FL := fun_mk (st := s_law) l_law c_law k_law
  refine ⟨PySem.W.fnOf "law" "law" (defArgs s_law) (defBody s_law) (defScope s_law) .none kV_law dc_law pm_law an_law cd_law ct_law, cs, fun s v => .of_eq rfl, ?_, fun base hin _ hsy hTB => ?_⟩
  · intro p hp
    simp only [cs, List.mem_cons, List.not_mem_nil, or_false] at hp
    rcases hp with rfl | rfl
    · exact ⟨h5_read_right, tab_in d_read_right l_read_right h1_read_right h2_read_right h3_read_right, h4_read_right⟩
    · exact ⟨h5_written_right, tab_in d_written_right l_written_right h1_written_right h2_written_right h3_written_right, h4_written_right⟩
  have LM_read_right : LamD mg base "_law_read_right" ca_read_right pt_read_right := by
    refine ⟨hTB ("_law_read_right", ca_read_right, pt_read_right) (by simp [cs]), List.mem_map.mpr ⟨("_law_read_right", ca_read_right, pt_read_right), by simp [cs], rfl⟩, fun p hp e => ?_⟩
    obtain ⟨r, hr, rfl⟩ := List.mem_map.mp hp
    simp only [cs, List.mem_cons, List.not_mem_nil, or_false] at hr
    rcases hr with rfl | rfl
    · rfl
    · exact absurd e (fun z => ne_read_right_written_right z.symm)
  have LM_written_right : LamD mg base "_law_written_right" ca_written_right pt_written_right := by
    refine ⟨hTB ("_law_written_right", ca_written_right, pt_written_right) (by simp [cs]), List.mem_map.mpr ⟨("_law_written_right", ca_written_right, pt_written_right), by simp [cs], rfl⟩, fun p hp e => ?_⟩
    obtain ⟨r, hr, rfl⟩ := List.mem_map.mp hp
    simp only [cs, List.mem_cons, List.not_mem_nil, or_false] at hr
    rcases hr with rfl | rfl
    · exact absurd e ne_read_right_written_right
    · rfl
  have RB_BadText : RaisesI P w K mg base "BadText" (clsA mg "BadText") "line" := ⟨g_BadText, _, _, EI_BadText, ok_inBT GI_BadText EI_BadText.o EI_BadText.n, BI_BadText⟩
  have RB_BadAtlas : RaisesI P w K mg base "BadAtlas" (clsA mg "BadAtlas") "reason" := ⟨g_BadAtlas, _, _, EI_BadAtlas, ok_inBA GI_BadAtlas EI_BadAtlas.o EI_BadAtlas.n, BI_BadAtlas⟩
  have O_is_integer_ : O_is_integer K mg base "at" := ok_is_integer T D_is_integer 
  have O_is_integer_in_ : O_is_integer_in K mg base "at" := ok_is_integer_in T D_is_integer_in O_is_integer_
  have O_is_tuple_ : O_is_tuple K mg base "at" := ok_is_tuple T D_is_tuple 
  have O_is_index_ : O_is_index K mg base "at" := ok_is_index T D_is_index 
  have O_is_name_ : O_is_name K mg base "at" := ok_is_name T D_is_name 
  have O_is_names_ : O_is_names K mg base "at" := ok_is_names T D_is_names O_is_tuple_ O_is_name_
  have O_has_map_form_ : O_has_map_form K mg base "at" := ok_has_map_form T D_has_map_form O_is_tuple_ O_is_name_ O_is_names_ O_is_integer_in_
  have O_map_fault_ : O_map_fault K mg base "at" := ok_map_fault T D_map_fault O_has_map_form_
  have O_edges_fault_ : O_edges_fault K mg base "at" := ok_edges_fault T D_edges_fault O_is_tuple_
  have O_slot_fault_ : O_slot_fault K mg base "at" := ok_slot_fault T D_slot_fault 
  have O_maps_by_name_ : O_maps_by_name K mg base "at" := ok_maps_by_name T D_maps_by_name 
  have O_is_point_ : O_is_point K mg base "at" := ok_is_point T D_is_point O_is_tuple_ O_is_index_
  have O_is_edge_ : O_is_edge K mg base "at" := ok_is_edge T D_is_edge O_is_tuple_ O_is_point_ O_is_integer_in_
  have O_edge_fault_ : O_edge_fault K mg base "at" := ok_edge_fault T D_edge_fault O_maps_by_name_ O_is_edge_
  have O_atlas_error_ : O_atlas_error K mg base "at" := ok_atlas_error T D_atlas_error O_is_tuple_ O_map_fault_ O_slot_fault_ O_edges_fault_ O_edge_fault_
  have O_law_draw_ : O_law_draw K mg base "at" := ok_draw T D_draw 
  have O_law_pick_ : O_law_pick K mg base "at" := ok_pick T D_pick O_law_draw_
  have O_point_text_ : O_point_text K mg base "at" := ok_point_text T D_point_text 
  have O_map_lines_ : O_map_lines K mg base "at" := ok_map_lines T D_map_lines O_point_text_
  have O_law_point_text_ : O_law_point_text K mg base "at" := ok_law_point_text T D_point_text1 
  have O_place_text_ : O_place_text K mg base "at" := ok_place_text T D_place_text O_point_text_
  have O_is_count_ : O_is_count K mg base "at" := ok_is_count T D_is_count O_is_integer_
  have O_law_place_text_ : O_law_place_text K mg base "at" := ok_law_place_text T D_place_text1 O_law_point_text_
  have O_is_number_ : O_is_number K mg base "at" := ok_is_number T D_is_number 
  have O_parsed_point_ : O_parsed_point K mg base "at" := ok_parsed_point T D_parsed_point O_is_number_
  have O_parsed_place_ : O_parsed_place K mg base "at" := ok_parsed_place T D_parsed_place O_parsed_point_ O_is_number_
  have O_parse_place_ : O_parse_place K mg base "at" := ok_parse_place T RB_BadText D_parse_place O_parsed_place_
  have O_number_in_ : O_number_in K mg base "at" := ok_number_in T D_number_in 
  have O_point_in_ : O_point_in K mg base "at" := ok_point_in T D_point_in O_number_in_
  have O_place_in_ : O_place_in K mg base "at" := ok_place_in T D_place_in O_number_in_ O_point_in_
  have O_is_place_form_ : O_is_place_form K mg base "at" := ok_is_place_form T D_is_place_form O_is_tuple_ O_is_count_
  have O_format_place_ : O_format_place K mg base "at" := ok_format_place T D_format_place O_is_place_form_ O_place_text_
  have O_is_index1_ : O_is_index1 K mg base "at" := ok_is_index1 T D_is_index1 
  have O_is_place1_ : O_is_place1 K mg base "at" := ok_is_place1 T D_is_place O_is_index1_
  have O_read_right_ : O_read_right K mg base "at" := ok_read_right T AT hsy LM_read_right D_error C_read_right O_place_in_ O_parse_place_
  have O_changed_text_ : O_changed_text K mg base "at" := ok_changed_text T D_changed_text O_law_draw_
  have O_written_right_ : O_written_right K mg base "at" := ok_written_right T AT hsy LM_written_right D_error C_written_right O_format_place_ O_is_place1_ O_law_place_text_
  have O_changed_place_ : O_changed_place K mg base "at" := ok_changed_place T D_changed_place O_law_draw_ O_law_pick_
  have O_checked_atlas_ : O_checked_atlas K mg base "at" := ok_checked_atlas T RB_BadAtlas D_checked_atlas O_atlas_error_ O_maps_by_name_
  have O_format_atlas_ : O_format_atlas K mg base "at" := ok_format_atlas T D_format_atlas O_checked_atlas_ O_map_lines_
  have O_pen_ : O_pen K mg base "at" := ok_pen T D_pen 
  exact ok_law T ET FL O_pen_ O_law_pick_ O_law_draw_ O_law_place_text_ O_changed_text_ O_read_right_ O_written_right_ O_changed_place_ O_format_atlas_ hsy
end SM

set_option Elab.async false
open PySem PySem.W PyProof.Rows
set_option maxRecDepth 100000 in
set_option maxHeartbeats 0 in
theorem PySem.Challenge.cw_slotmaps_k52_places_as_texts_holds : PySem.Challenge.rw_slotmaps_k52_places_as_texts.Holds :=
  hd52 (by
    k_fill
    refine SM.walk_t (l := PySem.Challenge.rw_slotmaps_k52_places_as_texts) (k := 20) (x := "script") (CX := fun _ => L2.CX0) (by kernel_rfl) rfl rfl ⟨rfl, by decide, by decide⟩ (fun w h Y => PySem.W.km_in_of Y) ?F (fun _ _ _ _ _ h => h)
    case F =>
      intro w mg fa h KX G hmg
      refine' SM.allK52 KX G hmg ?z_len ?z_int ?z_bool ?z_str ?z_tuple ?z_list ?z_isinstance ?z_range ?z_enumerate ?z_all ?z_abs ?z_sorted ?z_repr ?z_min ?z_dict ?z_ValueError ?c_MOST_MAPS ?c_MOST_PORTS ?c_MOST_LABELS ?c_MOST_SLOTS ?c_MOST_EDGES ?c_MOST_COST ?c_MOST_INDEXES ?c_MOST_DIGITS ?d_is_integer ?l_is_integer ?c_is_integer ?k_is_integer ?d_is_integer_in ?l_is_integer_in ?c_is_integer_in ?k_is_integer_in ?d_is_tuple ?l_is_tuple ?c_is_tuple ?k_is_tuple ?d_is_index ?l_is_index ?c_is_index ?k_is_index ?d_is_name ?l_is_name ?c_is_name ?k_is_name ?d_is_names ?l_is_names ?c_is_names ?k_is_names ?d_has_map_form ?l_has_map_form ?c_has_map_form ?k_has_map_form ?d_map_fault ?l_map_fault ?c_map_fault ?k_map_fault ?d_edges_fault ?l_edges_fault ?c_edges_fault ?k_edges_fault ?d_slot_fault ?l_slot_fault ?c_slot_fault ?k_slot_fault ?d_maps_by_name ?l_maps_by_name ?c_maps_by_name ?k_maps_by_name ?d_is_point ?l_is_point ?c_is_point ?k_is_point ?d_is_edge ?l_is_edge ?c_is_edge ?k_is_edge ?d_edge_fault ?l_edge_fault ?c_edge_fault ?k_edge_fault ?d_atlas_error ?l_atlas_error ?c_atlas_error ?k_atlas_error ?d_draw ?l_draw ?c_draw ?k_draw ?d_pick ?l_pick ?c_pick ?k_pick ?d_point_text ?l_point_text ?c_point_text ?k_point_text ?d_map_lines ?l_map_lines ?c_map_lines ?k_map_lines ?d_point_text1 ?l_point_text1 ?c_point_text1 ?k_point_text1 ?d_place_text ?l_place_text ?c_place_text ?k_place_text ?d_is_count ?l_is_count ?c_is_count ?k_is_count ?d_place_text1 ?l_place_text1 ?c_place_text1 ?k_place_text1 ?d_is_number ?l_is_number ?c_is_number ?k_is_number ?d_parsed_point ?l_parsed_point ?c_parsed_point ?k_parsed_point ?d_parsed_place ?l_parsed_place ?c_parsed_place ?k_parsed_place ?d_parse_place ?l_parse_place ?c_parse_place ?k_parse_place ?d_number_in ?l_number_in ?c_number_in ?k_number_in ?d_point_in ?l_point_in ?c_point_in ?k_point_in ?d_place_in ?l_place_in ?c_place_in ?k_place_in ?d_is_place_form ?l_is_place_form ?c_is_place_form ?k_is_place_form ?d_format_place ?l_format_place ?c_format_place ?k_format_place ?d_is_index1 ?l_is_index1 ?c_is_index1 ?k_is_index1 ?d_is_place ?l_is_place ?c_is_place ?k_is_place ?d_read_right ?l_read_right ?c_read_right ?k_read_right ?d_changed_text ?l_changed_text ?c_changed_text ?k_changed_text ?d_written_right ?l_written_right ?c_written_right ?k_written_right ?d_changed_place ?l_changed_place ?c_changed_place ?k_changed_place ?d_checked_atlas ?l_checked_atlas ?c_checked_atlas ?k_checked_atlas ?d_format_atlas ?l_format_atlas ?c_format_atlas ?k_format_atlas ?d_pen ?l_pen ?c_pen ?k_pen ?d_error ?l_error ?c_error ?k_error ?d_law ?l_law ?c_law ?k_law ?h1_read_right ?h2_read_right ?h3_read_right ?h4_read_right ?h5_read_right ?h1_written_right ?h2_written_right ?h3_written_right ?h4_written_right ?h5_written_right ?ne_read_right_written_right ?a_SlotmapsError ?a_BadText ?a_BadAtlas ?a_UnknownMap ?a_BadPlace ?xk_BadPlace ?xq_BadPlace ?xs_BadPlace ?xt_BadPlace ?xL_BadText ?sa_BadText ?ex_BadText ?ty_BadText ?kc_BadText ?ii_BadText ?it_BadText ?nf_BadText ?xf_BadText ?lg_BadText ?cg_BadText ?kg_BadText ?xm_BadText ?xL_BadAtlas ?sa_BadAtlas ?ex_BadAtlas ?ty_BadAtlas ?kc_BadAtlas ?ii_BadAtlas ?it_BadAtlas ?nf_BadAtlas ?xf_BadAtlas ?lg_BadAtlas ?cg_BadAtlas ?kg_BadAtlas ?xm_BadAtlas ?f2 ?f3 ?f4 ?f5 ?f8 ?f9 ?o2 ?o3 ?o4 ?a_LETTERS ?y_LETTERS ?q_LETTERS ?v_LETTERS_node ?v_LETTERS_port ?v_LETTERS_slot
      (case z_len => k_is)
      (case z_int => k_is)
      (case z_bool => k_is)
      (case z_str => k_is)
      (case z_tuple => k_is)
      (case z_list => k_is)
      (case z_isinstance => k_is)
      (case z_range => k_is)
      (case z_enumerate => k_is)
      (case z_all => k_is)
      (case z_abs => k_is)
      (case z_sorted => k_is)
      (case z_repr => k_is)
      (case z_min => k_is)
      (case z_dict => k_is)
      (case z_ValueError => k_is)
      (case c_MOST_MAPS => k_is)
      (case c_MOST_PORTS => k_is)
      (case c_MOST_LABELS => k_is)
      (case c_MOST_SLOTS => k_is)
      (case c_MOST_EDGES => k_is)
      (case c_MOST_COST => k_is)
      (case c_MOST_INDEXES => k_is)
      (case c_MOST_DIGITS => k_is)
      (case d_is_integer => k_is)
      (case l_is_integer => k_is)
      (case c_is_integer => k_is)
      (case k_is_integer => k_is)
      (case d_is_integer_in => k_is)
      (case l_is_integer_in => k_is)
      (case c_is_integer_in => k_is)
      (case k_is_integer_in => k_is)
      (case d_is_tuple => k_is)
      (case l_is_tuple => k_is)
      (case c_is_tuple => k_is)
      (case k_is_tuple => k_is)
      (case d_is_index => k_is)
      (case l_is_index => k_is)
      (case c_is_index => k_is)
      (case k_is_index => k_is)
      (case d_is_name => k_is)
      (case l_is_name => k_is)
      (case c_is_name => k_is)
      (case k_is_name => k_is)
      (case d_is_names => k_is)
      (case l_is_names => k_is)
      (case c_is_names => k_is)
      (case k_is_names => k_is)
      (case d_has_map_form => k_is)
      (case l_has_map_form => k_is)
      (case c_has_map_form => k_is)
      (case k_has_map_form => k_is)
      (case d_map_fault => k_is)
      (case l_map_fault => k_is)
      (case c_map_fault => k_is)
      (case k_map_fault => k_is)
      (case d_edges_fault => k_is)
      (case l_edges_fault => k_is)
      (case c_edges_fault => k_is)
      (case k_edges_fault => k_is)
      (case d_slot_fault => k_is)
      (case l_slot_fault => k_is)
      (case c_slot_fault => k_is)
      (case k_slot_fault => k_is)
      (case d_maps_by_name => k_is)
      (case l_maps_by_name => k_is)
      (case c_maps_by_name => k_is)
      (case k_maps_by_name => k_is)
      (case d_is_point => k_is)
      (case l_is_point => k_is)
      (case c_is_point => k_is)
      (case k_is_point => k_is)
      (case d_is_edge => k_is)
      (case l_is_edge => k_is)
      (case c_is_edge => k_is)
      (case k_is_edge => k_is)
      (case d_edge_fault => k_is)
      (case l_edge_fault => k_is)
      (case c_edge_fault => k_is)
      (case k_edge_fault => k_is)
      (case d_atlas_error => k_is)
      (case l_atlas_error => k_is)
      (case c_atlas_error => k_is)
      (case k_atlas_error => k_is)
      (case d_draw => k_is)
      (case l_draw => k_is)
      (case c_draw => k_is)
      (case k_draw => k_is)
      (case d_pick => k_is)
      (case l_pick => k_is)
      (case c_pick => k_is)
      (case k_pick => k_is)
      (case d_point_text => k_is)
      (case l_point_text => k_is)
      (case c_point_text => k_is)
      (case k_point_text => k_is)
      (case d_map_lines => k_is)
      (case l_map_lines => k_is)
      (case c_map_lines => k_is)
      (case k_map_lines => k_is)
      (case d_point_text1 => k_is)
      (case l_point_text1 => k_is)
      (case c_point_text1 => k_is)
      (case k_point_text1 => k_is)
      (case d_place_text => k_is)
      (case l_place_text => k_is)
      (case c_place_text => k_is)
      (case k_place_text => k_is)
      (case d_is_count => k_is)
      (case l_is_count => k_is)
      (case c_is_count => k_is)
      (case k_is_count => k_is)
      (case d_place_text1 => k_is)
      (case l_place_text1 => k_is)
      (case c_place_text1 => k_is)
      (case k_place_text1 => k_is)
      (case d_is_number => k_is)
      (case l_is_number => k_is)
      (case c_is_number => k_is)
      (case k_is_number => k_is)
      (case d_parsed_point => k_is)
      (case l_parsed_point => k_is)
      (case c_parsed_point => k_is)
      (case k_parsed_point => k_is)
      (case d_parsed_place => k_is)
      (case l_parsed_place => k_is)
      (case c_parsed_place => k_is)
      (case k_parsed_place => k_is)
      (case d_parse_place => k_is)
      (case l_parse_place => k_is)
      (case c_parse_place => k_is)
      (case k_parse_place => k_is)
      (case d_number_in => k_is)
      (case l_number_in => k_is)
      (case c_number_in => k_is)
      (case k_number_in => k_is)
      (case d_point_in => k_is)
      (case l_point_in => k_is)
      (case c_point_in => k_is)
      (case k_point_in => k_is)
      (case d_place_in => k_is)
      (case l_place_in => k_is)
      (case c_place_in => k_is)
      (case k_place_in => k_is)
      (case d_is_place_form => k_is)
      (case l_is_place_form => k_is)
      (case c_is_place_form => k_is)
      (case k_is_place_form => k_is)
      (case d_format_place => k_is)
      (case l_format_place => k_is)
      (case c_format_place => k_is)
      (case k_format_place => k_is)
      (case d_is_index1 => k_is)
      (case l_is_index1 => k_is)
      (case c_is_index1 => k_is)
      (case k_is_index1 => k_is)
      (case d_is_place => k_is)
      (case l_is_place => k_is)
      (case c_is_place => k_is)
      (case k_is_place => k_is)
      (case d_read_right => k_is)
      (case l_read_right => k_is)
      (case c_read_right => k_is)
      (case k_read_right => k_is)
      (case d_changed_text => k_is)
      (case l_changed_text => k_is)
      (case c_changed_text => k_is)
      (case k_changed_text => k_is)
      (case d_written_right => k_is)
      (case l_written_right => k_is)
      (case c_written_right => k_is)
      (case k_written_right => k_is)
      (case d_changed_place => k_is)
      (case l_changed_place => k_is)
      (case c_changed_place => k_is)
      (case k_changed_place => k_is)
      (case d_checked_atlas => k_is)
      (case l_checked_atlas => k_is)
      (case c_checked_atlas => k_is)
      (case k_checked_atlas => k_is)
      (case d_format_atlas => k_is)
      (case l_format_atlas => k_is)
      (case c_format_atlas => k_is)
      (case k_format_atlas => k_is)
      (case d_pen => k_is)
      (case l_pen => k_is)
      (case c_pen => k_is)
      (case k_pen => k_is)
      (case d_error => k_is)
      (case l_error => k_is)
      (case c_error => k_is)
      (case k_error => k_is)
      (case d_law => k_is)
      (case l_law => k_is)
      (case c_law => k_is)
      (case k_law => k_is)
      (case h1_read_right => rfl)
      (case h2_read_right => k_is)
      (case h3_read_right => rfl)
      (case h4_read_right => kernel_rfl)
      (case h5_read_right => kernel_rfl)
      (case h1_written_right => rfl)
      (case h2_written_right => k_is)
      (case h3_written_right => rfl)
      (case h4_written_right => kernel_rfl)
      (case h5_written_right => kernel_rfl)
      (case ne_read_right_written_right => decide)
      (case a_SlotmapsError => k_is)
      (case a_BadText => k_is)
      (case a_BadAtlas => k_is)
      (case a_UnknownMap => k_is)
      (case a_BadPlace => k_is)
      (case xk_BadPlace => k_is)
      (case xq_BadPlace => kernel_rfl)
      (case xs_BadPlace => kernel_rfl)
      (case xt_BadPlace => kernel_rfl)
      (case xL_BadText => k_is)
      (case sa_BadText => k_is)
      (case ex_BadText => k_is)
      (case ty_BadText => k_is)
      (case kc_BadText => k_is)
      (case ii_BadText => k_is)
      (case it_BadText => k_is)
      (case nf_BadText => k_is)
      (case xf_BadText => kernel_rfl)
      (case lg_BadText => k_is)
      (case cg_BadText => k_is)
      (case kg_BadText => k_is)
      (case xm_BadText => kernel_rfl)
      (case xL_BadAtlas => k_is)
      (case sa_BadAtlas => k_is)
      (case ex_BadAtlas => k_is)
      (case ty_BadAtlas => k_is)
      (case kc_BadAtlas => k_is)
      (case ii_BadAtlas => k_is)
      (case it_BadAtlas => k_is)
      (case nf_BadAtlas => k_is)
      (case xf_BadAtlas => kernel_rfl)
      (case lg_BadAtlas => k_is)
      (case cg_BadAtlas => k_is)
      (case kg_BadAtlas => k_is)
      (case xm_BadAtlas => kernel_rfl)
      (case f2 => kernel_rfl)
      (case f3 => kernel_rfl)
      (case f4 => kernel_rfl)
      (case f5 => kernel_rfl)
      (case f8 => kernel_rfl)
      (case f9 => kernel_rfl)
      (case o2 => kernel_rfl)
      (case o3 => kernel_rfl)
      (case o4 => kernel_rfl)
      (case a_LETTERS => k_is)
      (case y_LETTERS => k_is)
      (case q_LETTERS => exact ⟨⟨_, _, rfl, rfl⟩, ⟨_, _, rfl, rfl⟩, ⟨_, _, rfl, rfl⟩, trivial⟩)
      (case v_LETTERS_node => k_is)
      (case v_LETTERS_port => k_is)
      (case v_LETTERS_slot => k_is))
