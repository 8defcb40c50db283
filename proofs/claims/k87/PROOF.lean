import PyProof.Rows.All
import Wide.All
import OpenK.AllK
import Wide.FinOn
import PySem.Challenge.RW_slotmaps_k87_error_classes
import HandS.ForMost
import HandS.Codes
import HandS.ExcInit
import HandS.ExcValue
import HandS.ExcField
import HandS.ExcIs
import HandS.IsInst
set_option Elab.async false
set_option linter.all false
set_option maxRecDepth 100000
set_option maxHeartbeats 4000000
namespace SM
open PySem PySem.Spec PyProof.Rows L2
def topS (i : Nat) : Stmt := PySem.Challenge.pw_slotmaps_k87_error_classes.main.body.getD i (.Pass ⟨0, 0, 0, 0⟩)

/-- a def of the text that keeps a promise, as a caller meets it -/
def Ok (P : Program) (w : World) (K : PySem.W.Frag) (mg : Str → Option Value) (base : Heap) (CX : CXT) (x : Str) (ps : List Str) (k : Nat) (sp : Sp) : Prop :=
  ∃ (f : Addr) (fd : FuncData), FnOk P w K mg base CX k f fd ps sp ∧ mg x = some (.ref f) ∧ PySem.W.keepIn K (.ref f) = true ∧ Binds K fd ps []
/-- a def of the text, where the top has left it -/
def Def (K : PySem.W.Frag) (mg : Str → Option Value) (x : Str) (st : Stmt) (ps : List Str) : Prop :=
  ∃ (f : Addr) (fd : FuncData), Fun K x x st f fd ∧ mg x = some (.ref f) ∧ Binds K fd ps []
theorem Def.ok {P : Program} {w : World} {K : PySem.W.Frag} {mg : Str → Option Value} {base : Heap} {x : Str} {st : Stmt} {ps N : List Str} {k : Nat} {sp : Sp} (D : Def K mg x st ps) (S : FnScope N ps (defScope st))
    (len : ∀ vs H Q E, sp vs H Q E → vs.length = ps.length)
    (hbody : ∀ (f : Addr) (cdv : Value) (A : Around) (outer : List Env) (s : Shared) (H : Hp) (vs : List V) (Q : VK) (E : XK), Room k (A.deeper (envOfC x (defScope st) s.heap.objs.size f cdv)) → sp vs H Q E →
      ∃ t, PSs (cxOf CX0 P w K mg base N x (defScope st) f cdv A outer s H E).nox (defBody st) t ∧ t { nx := fun _ H' => Q .non H', rt := Q } (start N vs) H) : Ok P w K mg base CX0 x ps (k + 1) sp := by
  obtain ⟨f, fd, F, g, b⟩ := D
  exact ⟨f, fd, F.ok S len (hbody f), g, F.kp, b⟩

/-! ### the drawing of numbers -/
/-- all that was tracked at other places than a is as it was -/
def But (a : Addr) (H H' : Hp) : Prop := ∀ b o, b ≠ a → H b = some o → H' b = some o
theorem But.refl (a : Addr) (H : Hp) : But a H H := fun _ _ _ h => h
theorem But.trans {a : Addr} {H H1 H2 : Hp} (x : But a H H1) (y : But a H1 H2) : But a H H2 := fun b o n h => y b o n (x b o n h)
theorem But.upd {a : Addr} {H : Hp} {o : HO} : But a H (upd H a o) := fun b u n h => by rw [upd_ne n]; exact h
theorem But.new {a p : Addr} {H : Hp} {o : HO} (h : H p = none) : But a H (L2.upd H p o) := fun b u _ e => by rw [upd_ne (ne_of_none e h)]; exact e
def kC : Key := Sum.inr "cells"
def kA : Key := Sum.inr "at"
def kR : Key := Sum.inr "rest"
/-- the dict that numbers are drawn from: its list of cells, how many were drawn (at most n), what is left of a great one -/
def Pen (H : Hp) (a : Addr) (n : Nat) : Prop := ∃ (c : Addr) (ns : List Int) (t r : Int), H a = some (.dK [(kC, .ref c), (kA, .int t), (kR, .int r)]) ∧ H c = some (.lst (ns.map V.int)) ∧ ns.length ≤ 63 ∧ 0 ≤ t ∧ t ≤ n ∧ 0 ≤ r
def spDraw : Sp := fun vs H Q _ => ∃ (a : Addr) (m : Int) (n : Nat), vs = [.ref a, .int m] ∧ Pen H a n ∧ n < 1000000 ∧ 0 < m ∧ m < 1073741824 ∧
  ∀ (v : Int) (H' : Hp), 0 ≤ v → v < m → Pen H' a (n + 1) → But a H H' → Q (.int v) H'

theorem kCA : kC ≠ kA := fun z => by cases z
theorem kCR : kC ≠ kR := fun z => by cases z
theorem kAR : kA ≠ kR := fun z => by cases z
section
variable {H : Hp} {a : Addr} {x y z v : V}
theorem pen_c (h : H a = some (.dK [(kC, x), (kA, y), (kR, z)])) : DGet H a (.str "cells") (some x) := by
  have e := DGet.k (k := kC) h
  rw [valV_pos (k := kC) rfl] at e
  exact e
theorem pen_a (h : H a = some (.dK [(kC, x), (kA, y), (kR, z)])) : DGet H a (.str "at") (some y) := by
  have e := DGet.k (k := kA) h
  rw [valV_neg (k := kA) kCA, valV_pos (k := kA) rfl] at e
  exact e
theorem pen_r (h : H a = some (.dK [(kC, x), (kA, y), (kR, z)])) : DGet H a (.str "rest") (some z) := by
  have e := DGet.k (k := kR) h
  rw [valV_neg (k := kR) kCR, valV_neg (k := kR) kAR, valV_pos (k := kR) rfl] at e
  exact e
theorem pen_pa (h : H a = some (.dK [(kC, x), (kA, y), (kR, z)])) : DPut H a (.str "at") v (upd H a (.dK [(kC, x), (kA, v), (kR, z)])) := by
  have e := DPut.k (k := kA) (v := v) h (small1000 (by show 3 ≤ 1000; decide))
  rw [show putK [(kC, x), (kA, y), (kR, z)] kA v = [(kC, x), (kA, v), (kR, z)] by simp [putK, kCA, kAR.symm]] at e
  exact e
theorem pen_pr (h : H a = some (.dK [(kC, x), (kA, y), (kR, z)])) : DPut H a (.str "rest") v (upd H a (.dK [(kC, x), (kA, y), (kR, v)])) := by
  have e := DPut.k (k := kR) (v := v) h (small1000 (by show 3 ≤ 1000; decide))
  rw [show putK [(kC, x), (kA, y), (kR, z)] kR v = [(kC, x), (kA, y), (kR, v)] by simp [putK, kCR, kAR]] at e
  exact e
end
/-- the last reckoning of a drawn number -/
theorem drawn_last {x m : Int} (hm : 0 < m) : 0 ≤ x % m ∧ x % m < m := ⟨Int.emod_nonneg _ (Int.ne_of_gt hm), Int.emod_lt_of_pos _ hm⟩
theorem abs_nn (i : Int) : 0 ≤ (if i < 0 then -i else i) := by split <;> omega
theorem big18 : (0 : Int) < 10 ^ (18 : Int).toNat := by decide
/-- a factor that is small -/
theorem mulL {i j : Int} (h : 0 ≤ i) (h2 : i < 1000000000000000000) : CMul i j := .inl ⟨by omega, by omega⟩
theorem dp_ints {K : PySem.W.Frag} {H : Hp} : ∀ ns : List Int, DpAll K H (ns.map V.int) (ns.map PyData.int)
  | [] => .nil
  | _ :: r => .cons (.int _) (dp_ints r)
structure Txt (K : PySem.W.Frag) (mg : Str → Option Value) : Prop where
  b_len : mg "len" = none
  b_abs : mg "abs" = none
abbrev s_draw : Stmt := topS 28
theorem sc_draw : FnScope ["pen", "many", "digit", "at", "cell", "mixed"] ["pen", "many"] (defScope s_draw) := ⟨rfl, rfl, rfl, by decide +kernel, rfl, by decide +kernel, by decide +kernel⟩

/-- the last two statements of a draw -/
def t_tail2 : TS := tSeq
            (tAsg
              (tOp (rI (fun x j => 0 < j) fun i j => V.int (i % j))
                (tOp (rI CMul fun i j => V.int (i * j))
                  (tOp (rI0 fun i j => V.int (i + j))
                    (tOp (rI (fun x j => 0 < j) fun i j => V.int (i % j))
                      (tOp (rI CMul fun i j => V.int (i * j)) (tVar 5) (tVar 5)) (tC (V.int 2147483629)))
                    (tOp (rI CMul fun i j => V.int (i * j)) (tC (V.int 50021)) (tVar 3)))
                  (tC (V.int 16807)))
                (tC (V.int 2147483579)))
              (gName 5))
            (tRet
              (tOp (rI (fun x j => 0 < j) fun i j => V.int (i % j))
                (tOp (rI CDiv fun i j => V.int (i / j)) (tVar 5) (tC (V.int 32))) (tVar 1)))
theorem pI {x j : Int} (h : 0 < j) : (fun x j : Int => 0 < j) x j := h
theorem draw_tail2 {H H2 : Hp} {a c : Addr} {ns : List Int} {n : Nat} {m t r x y : Int} {Q : VK} {D : Ends} (q : ∀ (v : Int) (H' : Hp), 0 ≤ v → v < m → Pen H' a (n + 1) → But a H H' → Q (.int v) H') (hm : 0 < m) (ht : 0 ≤ t) (htn : t ≤ n) (hn : n < 1000000) (y1 : 0 ≤ y) (y2 : y < 2147483647)
    (h2 : H2 a = some (.dK [(kC, .ref c), (kA, .int (t + 1)), (kR, .int r)])) (c2 : H2 c = some (.lst (ns.map V.int))) (b2 : But a H H2) (hl : ns.length ≤ 63) (hr0 : 0 ≤ r) :
    t_tail2 { nx := D.nx, rt := Q } [some (.ref a), some (.int m), none, some (.int t), some (.int x), some (.int y)] H2 := by
  have d1 := Int.emod_nonneg (y * y) (show (2147483629 : Int) ≠ 0 by decide)
  have d2 := Int.emod_lt_of_pos (y * y) (show (0 : Int) < 2147483629 by decide)
  obtain ⟨l1, l2⟩ := drawn_last (x := (y * y % 2147483629 + 50021 * t) * 16807 % 2147483579 / 32) hm
  exact ⟨.int y, rfl, .int y, rfl, y, y, rfl, rfl, mulL y1 (by omega), _, _, rfl, rfl, (show (0 : Int) < 2147483629 by decide), .int t, rfl, 50021, t, rfl, rfl, mulL (by decide) (by decide), _, _, rfl, rfl, _, _, rfl, rfl, mulL (by omega) (by omega), _, _, rfl, rfl, (show (0 : Int) < 2147483579 by decide),
    _, rfl, _, 32, rfl, rfl, ⟨by decide, by decide⟩, .int m, rfl, _, m, rfl, rfl, hm, q _ _ l1 l2 ⟨c, ns, t + 1, r, h2, c2, hl, by omega, by omega, hr0⟩ b2⟩
/-- the last three -/
def t_tail : TS := tSeq
          (tAsg
            (tOp (rI (fun x j => 0 < j) fun i j => V.int (i % j))
              (tOp (rI CMul fun i j => V.int (i * j))
                (tOp (rI0 fun i j => V.int (i + j))
                  (tOp (rI (fun x j => 0 < j) fun i j => V.int (i % j)) (tVar 4) (tC (V.int 2147483587)))
                  (tC (V.int 17)))
                (tOp (rI0 fun i j => V.int (i + j))
                  (tOp (rI0 fun i j => V.int (i + j)) (tOp (rI CMul fun i j => V.int (i * j)) (tVar 3) (tVar 3))
                    (tOp (rI CMul fun i j => V.int (i * j)) (tC (V.int 9)) (tVar 3)))
                  (tC (V.int 23))))
              (tC (V.int 2147483647)))
            (gName 5)) t_tail2
theorem draw_tail {H H2 : Hp} {a c : Addr} {ns : List Int} {n : Nat} {m t r x : Int} {Q : VK} (D : Ends) (q : ∀ (v : Int) (H' : Hp), 0 ≤ v → v < m → Pen H' a (n + 1) → But a H H' → Q (.int v) H') (hm : 0 < m) (ht : 0 ≤ t) (htn : t ≤ n) (hn : n < 1000000) (hx : 0 ≤ x)
    (h2 : H2 a = some (.dK [(kC, .ref c), (kA, .int (t + 1)), (kR, .int r)])) (c2 : H2 c = some (.lst (ns.map V.int))) (b2 : But a H H2) (hl : ns.length ≤ 63) (hr0 : 0 ≤ r) :
    t_tail { nx := D.nx, rt := Q } [some (.ref a), some (.int m), none, some (.int t), some (.int x), none] H2 := by
  have a1 := Int.emod_nonneg x (show (2147483587 : Int) ≠ 0 by decide)
  have a2 := Int.emod_lt_of_pos x (show (0 : Int) < 2147483587 by decide)
  refine ⟨.int x, rfl, x, _, rfl, rfl, (show (0 : Int) < 2147483587 by decide), _, 17, rfl, rfl, .int t, rfl, .int t, rfl, t, t, rfl, rfl, mulL ht (by omega), .int t, rfl, 9, t, rfl, rfl, mulL (by decide) (by decide), _, _, rfl, rfl, _, 23, rfl, rfl, _, _, rfl, rfl, mulL (by omega) (by omega), _, _, rfl, rfl, (show (0 : Int) < 2147483647 by decide), ?_⟩
  exact draw_tail2 (D := D) q hm ht htn hn (Int.emod_nonneg _ (by decide)) (Int.emod_lt_of_pos _ (by decide)) h2 c2 b2 hl hr0
section
variable {P : Program} {w : World} {K : PySem.W.Frag} {mg : Str → Option Value} {base : Heap}
theorem ok_draw (T : Txt K mg) (D : Def K mg "_law_draw" s_draw ["pen", "many"]) : Ok P w K mg base CX0 "_law_draw" ["pen", "many"] 1 spDraw := by
  refine D.ok sc_draw (fun vs H Q E h => ?_) (fun f cdv A outer s H vs Q E hr h => ?_)
  · obtain ⟨a, m, n, rfl, _⟩ := h
    rfl
  · obtain ⟨a, m, n, rfl, ⟨c, ns, t, r, ha, hc, hl, ht, htn, hr0⟩, hn, hm, hm2, q⟩ := h
    refine ⟨_, (pss_cons (ps_if (pt_cmpR op_gt (pe_dget (hu_of hr) (pv 0) pe_str (fun _ _ => rfl)) pe_int (nomark _)) (pss_cons (ps_set (i := 2) sc_draw.nd rfl (Or.inl rfl) (pe_op op_mod (pe_dget (hu_of hr) (pv 0) pe_str (fun _ _ => rfl)) (pv 1)))
        (pss_cons (ps_dput (hu_of hr) (pv 0) pe_str (pe_op op_fdiv (pe_dget (hu_of hr) (pv 0) pe_str (fun _ _ => rfl)) (pv 1)) (by rfl))
        (pss_one (ps_ret (pv 2))))) pss_nil)
      (pss_cons (ps_set (i := 3) sc_draw.nd rfl (Or.inl rfl) (pe_dget (hu_of hr) (pv 0) pe_str (fun _ _ => rfl)))
      (pss_cons (ps_dput (hu_of hr) (pv 0) pe_str (pe_op op_add (pv 3) pe_int) (by rfl))
      (pss_cons (ps_set (i := 4) sc_draw.nd rfl (Or.inl rfl) pe_int)
      (C8.pss_cut (ps_if (pt_cmpR (op_neD hr.units) (pe_dget (hu_of hr) (pv 0) pe_str (fun _ _ => rfl)) (pe_lst pa_nil) (nomark _)) (pss_one (ps_set (i := 4) sc_draw.nd rfl (Or.inl rfl) (pe_callB call_abs (by rfl) T.b_abs (by decide +kernel) (pa_cons (pe_ix ix_list (pe_dget (hu_of hr) (pv 0) pe_str (fun _ _ => rfl)) (pe_op op_mod (pv 3) (pe_callB call_len (by rfl) T.b_len (by decide +kernel) (pa_cons (pe_dget (hu_of hr) (pv 0) pe_str (fun _ _ => rfl)) pa_nil))) (fun _ _ => rfl)) pa_nil)))) pss_nil)
      (pss_cons (ps_if (PW.pt (pw_and (pt_cmpR op_lt (pv 3) (pe_callB call_len (by rfl) T.b_len (by decide +kernel) (pa_cons (pe_dget (hu_of hr) (pv 0) pe_str (fun _ _ => rfl)) pa_nil)) (nomark _)) (pw_and1 (pt_cmpR op_ge (pv 4) (pe_op op_pow pe_int pe_int) (nomark _))))) (pss_cons (ps_dput (hu_of hr) (pv 0) pe_str (pe_op op_fdiv (pe_op op_sub (pv 4) (pe_op op_pow pe_int pe_int)) (pv 1)) (by rfl))
        (pss_one (ps_ret (pe_op op_mod (pe_op op_sub (pv 4) (pe_op op_pow pe_int pe_int)) (pv 1))))) pss_nil)
      (pss_cons (ps_set (i := 5) sc_draw.nd rfl (Or.inl rfl) (pe_op op_mod (pe_op op_mul (pe_op op_add (pe_op op_mod (pv 4) pe_int) pe_int) (pe_op op_add (pe_op op_add (pe_op op_mul (pv 3) (pv 3)) (pe_op op_mul pe_int (pv 3))) pe_int)) pe_int))
      (pss_cons (ps_set (i := 5) sc_draw.nd rfl (Or.inl rfl) (pe_op op_mod (pe_op op_mul (pe_op op_add (pe_op op_mod (pe_op op_mul (pv 5) (pv 5)) pe_int) (pe_op op_mul pe_int (pv 3))) pe_int) pe_int))
      (pss_one (ps_ret (pe_op op_mod (pe_op op_fdiv (pv 5) pe_int) (pv 1)))))))))))), ?_⟩
    have d1 : But a H (upd H a (.dK [(kC, .ref c), (kA, .int t), (kR, .int (r / m))])) := But.upd
    have hca : c ≠ a := fun z => by
      rw [z, ha] at hc
      cases hc
    refine ⟨.ref a, rfl, a, .int r, rfl, pen_r ha, r, 0, rfl, rfl, _, rfl, ite2 (fun e => ?_) (fun e => ?_)⟩
    · have hr1 : 0 < r := of_decide_eq_true e
      obtain ⟨l1, l2⟩ := drawn_last (x := r) hm
      refine ⟨.ref a, rfl, a, .int r, rfl, pen_r ha, .int m, rfl, r, m, rfl, rfl, hm, .ref a, rfl, a, .int r, rfl, pen_r ha, .int m, rfl, r, m, rfl, rfl, ⟨hm, hm2⟩, .ref a, rfl, a, _, rfl, pen_pr ha, .int (r % m), rfl, ?_⟩
      exact q _ _ l1 l2 ⟨c, ns, t, r / m, upd_same, by rw [upd_ne hca]; exact hc, hl, ht, by omega, Int.ediv_nonneg hr0 (Int.le_of_lt hm)⟩ But.upd
    · have hr1 : ¬ 0 < r := fun z => e (decide_eq_true z)
      have nw : ∀ {H' : Hp} {p : Addr} {xs : List V}, But a H H' → H' p = none → But a H (upd H' p (.lst xs)) := fun b n => b.trans (But.new n)
      refine ⟨.ref a, rfl, a, .int t, rfl, pen_a ha, .int t, rfl, t, 1, rfl, rfl, .ref a, rfl, a, _, rfl, pen_pa ha, ?_⟩
      have h1 : (upd H a (.dK [(kC, .ref c), (kA, .int (t + 1)), (kR, .int r)])) a = some (.dK [(kC, .ref c), (kA, .int (t + 1)), (kR, .int r)]) := upd_same
      have c1 : (upd H a (.dK [(kC, .ref c), (kA, .int (t + 1)), (kR, .int r)])) c = some (.lst (ns.map V.int)) := by rw [upd_ne hca]; exact hc
      have b1 : But a H (upd H a (.dK [(kC, .ref c), (kA, .int (t + 1)), (kR, .int r)])) := But.upd
      generalize upd H a (.dK [(kC, .ref c), (kA, .int (t + 1)), (kR, .int r)]) = H1 at h1 c1 b1
      refine ⟨fun σ H2 => ∃ x : Int, 0 ≤ x ∧ σ = [some (.ref a), some (.int m), none, some (.int t), some (.int x), none] ∧ H2 a = some (.dK [(kC, .ref c), (kA, .int (t + 1)), (kR, .int r)]) ∧ H2 c = some (.lst (ns.map V.int)) ∧ But a H H2, ?_, ?_⟩
      · refine ⟨.ref a, rfl, a, .ref c, rfl, pen_c h1, Nat.zero_le _, fun p hp => ?_⟩
        have hpa : a ≠ p := ne_of_none h1 hp
        have hpc : c ≠ p := ne_of_none c1 hp
        have h2 : (upd H1 p (.lst [])) a = some (.dK [(kC, .ref c), (kA, .int (t + 1)), (kR, .int r)]) := by rw [upd_ne hpa]; exact h1
        have c2 : (upd H1 p (.lst [])) c = some (.lst (ns.map V.int)) := by rw [upd_ne hpc]; exact c1
        have b2 : But a H (upd H1 p (.lst [])) := nw b1 hp
        have e2 : (upd H1 p (.lst [])) p = some (.lst []) := upd_same
        generalize upd H1 p (.lst []) = H2 at h2 c2 b2 e2
        refine ⟨.list (ns.map PyData.int), .list [], .lst (SqL.of c2) (dp_ints ns), .lst (SqL.of e2) .nil, PySem.W.ke_shaped_ints ns, rfl, _, rfl, ite2 (fun z => ?_) (fun z => ⟨41, by decide, rfl, h2, c2, b2⟩)⟩
        have hne : ns ≠ [] := fun y => by
          rw [y] at z
          exact absurd z (by decide)
        have hlen : 0 < ns.length := List.length_pos_iff.mpr hne
        have hix : (t % (ns.length : Int)).toNat < ns.length := by
          have := Int.emod_lt_of_pos t (show (0 : Int) < ns.length by omega)
          have := Int.emod_nonneg t (show (ns.length : Int) ≠ 0 by omega)
          omega
        have hget : (ns.map V.int)[(t % (ns.length : Int)).toNat]? = some (.int (ns[(t % (ns.length : Int)).toNat])) := by
          rw [List.getElem?_map, List.getElem?_eq_getElem hix]
          rfl
        refine ⟨.ref a, rfl, a, .ref c, rfl, pen_c h2, .int t, rfl, .ref a, rfl, a, .ref c, rfl, pen_c h2, .ref c, ns.length, rfl, .inl ⟨_, SqL.of c2, by rw [List.length_map]⟩, t, ns.length, rfl, rfl, (by show (0 : Int) < ns.length; omega), c, _, _, _, rfl, rfl, SqL.of c2, at_of (j := (t % (ns.length : Int)).toNat) (by have := Int.emod_nonneg t (show (ns.length : Int) ≠ 0 by omega); omega) hget, _, rfl, ?_⟩
        exact ⟨_, abs_nn _, rfl, h2, c2, b2⟩
      · rintro σ H2 ⟨x, hx, rfl, h2, c2, b2⟩
        have ha2 : ∀ {v : V}, But a H (upd H2 a (.dK [(kC, .ref c), (kA, .int (t + 1)), (kR, v)])) := b2.trans But.upd
        refine ⟨.int t, rfl, .ref a, rfl, a, .ref c, rfl, pen_c h2, .ref c, ns.length, rfl, .inl ⟨_, SqL.of c2, by rw [List.length_map]⟩, t, ns.length, rfl, rfl, _, rfl, ?_⟩
        refine ite2 (fun z1 => ?A) (fun z1 => ?B)
        case A =>
          refine ⟨.int x, rfl, 10, 18, rfl, rfl, ⟨by decide, by decide, by decide⟩, x, _, rfl, rfl, _, rfl, ite2 (fun z2 => ?C) (fun z2 => ?D)⟩
          case C =>
            have z3 : (10 : Int) ^ (18 : Int).toNat ≤ x := of_decide_eq_true z2
            obtain ⟨l1, l2⟩ := drawn_last (x := x - 10 ^ (18 : Int).toNat) hm
            refine ⟨.int x, rfl, 10, 18, rfl, rfl, ⟨by decide, by decide, by decide⟩, x, _, rfl, rfl, .int m, rfl, _, m, rfl, rfl, ⟨hm, hm2⟩, .ref a, rfl, a, _, rfl, pen_pr h2, ?_⟩
            refine ⟨.int x, rfl, 10, 18, rfl, rfl, ⟨by decide, by decide, by decide⟩, x, _, rfl, rfl, .int m, rfl, _, m, rfl, rfl, hm, ?_⟩
            exact q _ _ l1 l2 ⟨c, ns, t + 1, _, upd_same, by rw [upd_ne hca]; exact c2, hl, by omega, by omega, Int.ediv_nonneg (by omega) (Int.le_of_lt hm)⟩ ha2
          case D => exact draw_tail { nx := fun _ H' => Q .non H', rt := Q } q hm ht htn hn hx h2 c2 b2 hl hr0
        case B => exact draw_tail { nx := fun _ H' => Q .non H', rt := Q } q hm ht htn hn hx h2 c2 b2 hl hr0
end
end SM

set_option Elab.async false
set_option linter.all false
set_option maxRecDepth 100000
set_option maxHeartbeats 4000000
namespace SM
open PySem PySem.Spec PyProof.Rows L2

/-! ### errors of the program's own classes, as values that stand -/
section
open PySem.W PySem.Calls
variable {prog : Program} {w : World} {A : Around} {E : Value → Shared → Prop} {s : Shared} {K : Frag} {x D : Addr} {ox : Obj} {od : Option Obj}
/-- the kind of such an error, asked by its name, with or without a dict of its own -/
theorem kind_asked {Q : Option Value → Shared → Prop} (C : ExcC K D) (X : K.In s.heap) (I : InstAt s.heap x ox D od) (h : Q (some (.ref D)) { s with toks := s.toks + 1 }) :
    wpAny (model prog w) A (getAttr? (.ref x) "__class__") Q E s := by
  have hf : findObj K D od "__class__" = some (.bind (.builtin "getset_descriptor.__get__") (.builtin "object.__class__")) := by
    obtain ⟨cd, hc, _⟩ := any_some C.hd
    unfold findObj
    rw [hc, Option.bind_some, C.ha, Option.bind_some]
    simp [C.hn, C.ht]
  obtain ⟨hp, g, d, t, os⟩ := s
  have z0 := I.type (M := model prog w)
  have z1 := looks_findIn (M := model prog w) X C.hg
  have z2 := looks_findIn (M := model prog w) X C.hk
  have z3 := looks_find (M := model prog w) X I hf
  have below : Looks (model prog w) hp (isInstance (.ref x) (.type "BaseException")) true := z0.andThen (looks_subIn X C.hs)
  have o1 : (Value.builtin "BaseException.__getattribute__" == Value.builtin "object.__getattribute__") = false := by decide +kernel
  have o2 : (onTheHeap (Value.ref D) && Value.builtin "BaseException.__getattribute__" == Value.builtin "object.__getattribute__") = false := by rw [o1]; rfl
  have o3 : (false && onTheHeap (Value.builtin "BaseException.__getattribute__")) = false := rfl
  unfold getAttr? getAttrBy? getAttrBy
  refine wpAny_bind (wpAny_mkText (wpAny_bind (wpAny_attempt (wpAny_holding (wpAny_bind (z0.at (wpAny_bind (z1.at ?_))))))))
  show wpAny _ _ (if (onTheHeap (Value.ref D) && Value.builtin "BaseException.__getattribute__" == Value.builtin "object.__getattribute__") = true then _ else _) _ _ _
  rw [o2, if_neg Bool.false_ne_true]
  unfold getAttrByItsOwn hookBefore
  refine wpAny_bind ?_
  rw [if_pos (show onTheHeap (Value.ref D) = true from rfl)]
  refine z2.at (wpAny_bind (wpAny_attempt (wpAny_holding ?_)))
  unfold callGetattribute
  rw [o3, if_neg Bool.false_ne_true]
  unfold boundAndCalled
  rw [PySem.F.excAttr_ValueError.ga.bind (.ref x)]
  refine wpAny_bind (wpAny_pure ?_)
  show wpAny _ _ (call (.builtin "BaseException.__getattribute__") [.ref x, .str "__class__" t]) _ _ _
  refine wpAny_call (codeAny_call_builtin PySem.F.excAttr_ValueError.ga.plain PySem.F.entry_bexc_ga ?_)
  refine @check_slot (model prog w) _ _ ⟨hp, g, d, t + 1, os⟩ "BaseException.__getattribute__" "BaseException" "__getattribute__" (.ref x) [.str "__class__" t] [] _ (by decide +kernel) (by decide +kernel) below (PySem.F.args_bexc_ga (.ref x) (.str "__class__" t)) ?_
  unfold Builtin.«object.__getattribute__»
  refine wpAny_bind (wpAny_of_eq (a := ((Value.ref x : Value), [Value.str "__class__" t])) (by first | rfl | (simp only [slotArgs]; rfl)) ?_)
  refine wpAny_bind (wpAny_pure (wpAny_bind (z0.at (wpAny_bind (z3.at ?_)))))
  show wpAny _ _ (holding [Value.builtin "object.__class__"] (call (.builtin "getset_descriptor.__get__") [.builtin "object.__class__", .ref x, .ref D]) >>= ret) _ _ _
  refine wpAny_bind (wpAny_holding (wpAny_call (class_get (s := ⟨hp, g, d, t + 1, os⟩) (ox := ox) (od := od) X I C.hm ?_)))
  refine wpAny_pure ?_
  show wpAny _ _ (handedOut (.ref D)) _ _ _
  rw [handedOut_of (v := .ref D) rfl]
  first
    | exact wpAny_pure (wpAny_pure h)
    | exact wpAny_pure h
    | exact wpAny_pure (wpAny_bind (wpAny_pure (wpAny_pure h)))
theorem kit_error (C : ExcC K D) : KitX K (.ref x) (.ref D) (fun h => ∃ ox od, InstAt h x ox D od) where
  ty := fun _ _ _ ⟨_, _, I⟩ => I.type
  it := fun _ _ X _ => by
    obtain ⟨cdD, hcD, _⟩ := any_some C.hd
    unfold clsIn at hcD
    split at hcD
    · rename_i c' d' cd' sl' ho
      intro A' Q' E' s' k q
      unfold isType loadHead
      exact wpAny_bind (wpAny_loadPart (k _ _ (X _ _ ho)) (wpAny_pure q))
    · cases hcD
  ne := fun h tp dd its n sl X htp => by
    obtain ⟨cdD, hcD, _⟩ := any_some C.hd
    refine Bool.eq_false_iff.mpr fun q => ?_
    have e : D = tp := Value.ref.inj (beq_iff_eq.mp q)
    subst e
    unfold clsIn at hcD
    split at hcD
    · rename_i c' d' cd' sl' ho
      have z := (X _ _ ho).symm.trans htp
      cases z
    · cases hcD
  ca := fun X ⟨_, _, I⟩ k => kind_asked C X I k
end
/-- at e: an error of the class at C, its fields fs -/
def Err (H : Hp) (e C : Addr) (fs : List (Str × V)) : Prop := (fs = [] ∧ H e = some (exo e C none)) ∨ ∃ d, H e = some (exo e C (some d)) ∧ H d = some (exd d fs)
theorem Err.same {H H' : Hp} {e C : Addr} {fs : List (Str × V)} (h : Err H e C fs) (k : ∀ b o, H b = some o → H' b = some o) : Err H' e C fs := by
  rcases h with ⟨h1, h2⟩ | ⟨d, h1, h2⟩
  · exact .inl ⟨h1, k _ _ h2⟩
  · exact .inr ⟨d, k _ _ h1, k _ _ h2⟩
theorem Err.inst {X : Cx} {pins : List (Addr × Obj)} {σ : L2.St} {H : Hp} {s : Shared} {e C : Addr} {fs : List (Str × V)} (I : Inv X pins σ H s) (h : Err H e C fs) : ∃ ox od, PySem.W.InstAt s.heap e ox C od := by
  rcases h with ⟨_, h⟩ | ⟨d, h1, h2⟩
  · obtain ⟨t, ho⟩ := exo_at I.hok h
    exact ⟨_, none, ho, rfl, rfl, trivial⟩
  · obtain ⟨t, ho⟩ := exo_at I.hok h1
    obtain ⟨mA, hns, _⟩ := exd_at I.hok h2
    obtain ⟨od, hod, _⟩ := lookIn_ns hns
    exact ⟨_, some od, ho, rfl, rfl, hod⟩
/-- isinstance(error, class) -/
def rIsErr (K : PySem.W.Frag) : List V → Hp → VK → Prop := fun xs H Q => ∃ (e D : Addr) (fs : List (Str × V)) (c : V) (u : Value) (b : Bool), xs = [.ref e, c] ∧ Err H e D fs ∧ ExcC K D ∧ ClsV c u ∧ PySem.W.kitOne K (.ref D) u = some b ∧ Q (.bl b) H
theorem call_isErr {X : Cx} : CallR X (.builtin "isinstance") (rIsErr X.K) := by
  intro pins s σ H xs us Q I r h
  obtain ⟨e, D, fs, c, u, b, rfl, he, C, k, kb, q⟩ := h
  obtain ⟨u1, u2, rfl, r1, r2⟩ := vals2 r
  have e2 := k.eq r2
  subst e2
  obtain rfl : u1 = Value.ref e := r1
  exact PySem.W.kia_one (kit_error C) I.kIn (he.inst I) kb (fun z => nomatch z) fun tk => ⟨.bl b, H, I.tok tk, rfl, q⟩
/-- error.f -/
def tErrF (K : PySem.W.Frag) (f : Str) (te : TE) : TE := fun σ H Q => te σ H fun x H1 => ∃ (e D : Addr) (fs : List (Str × V)) (v : V), x = .ref e ∧ Err H1 e D fs ∧ XfC K D ∧ PySem.W.findIn K (.ref D) f = some none ∧ fs.lookup f = some v ∧ Q v H1
theorem pe_errF {X : Cx} {e : Expr} {te : TE} {pos : Pos} {f : Str} (he : PE X e te) (hb : attributeBase e f X.env (eval e X.env) = eval e X.env := by rfl) : PE X (.Attribute e f pos) (tErrF X.K f te) := by
  refine ⟨fun pins s σ H Q I h => ?_⟩
  refine attr_of hb (thn (he.run pins s σ H _ I h) fun u s1 hh => ?_)
  obtain ⟨x, H1, I1, rx, a, D, fs, v, ex, hE, T, hno, l, q⟩ := hh
  subst ex
  obtain rfl : u = Value.ref a := rx
  rcases hE with ⟨rfl, _⟩ | ⟨d, h1, h2⟩
  · cases l
  · obtain ⟨t, ho⟩ := exo_at I1.hok h1
    obtain ⟨mA, hns, hr⟩ := exd_at I1.hok h2
    obtain ⟨od, hod, hl⟩ := lookIn_ns hns
    obtain ⟨u, hu, ru⟩ := RelO.some_of (v := v) (o := mA f) (by rw [← l]; exact hr f)
    have J : PySem.W.InstAt s1.heap a _ D (some od) := ⟨ho, rfl, rfl, hod⟩
    exact PySem.HandSPX.exc_get I1.kIn J T.ga T.gg T.exC (PySem.W.findObj_own T.hdC hno rfl (by rw [hl, hu])) (handed_of ru) ⟨v, H1, I1.tok _, ru, q⟩
/-- a class by its name -/
theorem pe_cls {X : Cx} {x : Str} {C : Addr} {pos : Pos} (hg : Gl X x) (hm : X.mg x = some (.ref C)) (hd : (x == ("__debug__" : Str)) = false := by decide) : PE X (.Name x pos) (tC (.ref C)) := pe_glob (v := .ref C) hg hm rfl hd
/-- what the written part says of an error class without an __init__ of its own -/
structure ErrC (K : PySem.W.Frag) (mg : Str → Option Value) (x : Str) (C : Addr) (bm : List Value) (n : String) : Prop where
  g : mg x = some (.ref C)
  k : PySem.W.keepIn K (.ref C) = true
  q : PySem.W.excIn K C bm n = true
/-- C() -/
def tErr0 (C : Addr) : TE := fun _ H Q => ∀ e H2, H e = none → Same H H2 → Err H2 e C [] → Q (.ref e) H2
theorem pe_err0 {X : Cx} {C : Addr} {bm : List Value} {B n i : String} {x : Str} {p pos : Pos} (F : ExcBaseFacts B n i bm) (T : ErrC X.K X.mg x C bm n) (hg : Gl X x) (hdb : (x == ("__debug__" : Str)) = false := by decide) : PE X (.Call (.Name x p) [] [] pos) (tErr0 C) := by
  refine ⟨fun pins s σ H Q I h => ?_⟩
  refine wpAny_Call_Name_kw (ld_glob I hg T.g ?_ hdb)
  refine PySem.W.callWith_K0 I.kIn T.k ?_
  show wpAny _ _ (call (.ref C) []) _ _ _
  obtain ⟨bm', N, nm, qn, bs, hdct, sn, sub, ab, col, dd, k0, k1, k2, k3, k5, mN, hC, hN, hni, TT⟩ := exc_obj I.kIn T.q
  refine wpAny_call_exc_subT F TT hC hN hni (fun h' e hm => ?_) (Nat.zero_le _)
  have hn := I.hok.gone hm.new
  obtain ⟨t, ht, _⟩ := hm.there
  exact ⟨.ref e, upd H e (exo e C none), I.laidN (a := e) (o := exo e C none) (t' := s.toks) hm.keeps hm.new hn (exo_ok ht), rfl, h e _ hn (fun b o z => by rw [upd_ne (ne_of_none z hn)]; exact z) (.inl ⟨rfl, upd_same⟩)⟩
/-- __init__(self, v): self.f = v, for an error of the class at C -/
def spSet (C : Addr) (f : Str) : Sp := fun vs H Q _ => ∃ (a : Addr) (v : V), vs = [.ref a, v] ∧ H a = some (exo a C none) ∧ ∀ d, H d = none → d ≠ a → Q .non (upd (upd H d (exd d [(f, v)])) a (exo a C (some d)))
/-- what the written part says of an error class with such an __init__, at fI -/
structure ErrI (K : PySem.W.Frag) (mg : Str → Option Value) (x : Str) (C fI : Addr) (f : Str) : Prop where
  g : mg x = some (.ref C)
  o : OexC K C
  i : PySem.W.findIn K (.ref C) "__init__" = some (some (.ref fI))
  t : PySem.W.typeIn K (.ref fI) = some (.type "function")
  n : PySem.W.findIn K (.ref C) f = some none
  xf : XfC K C
/-- C(e) -/
def tErr1 (C : Addr) (f : Str) (ta : TA) : TE := fun σ H Q => ta σ H fun vs H1 => ∃ v, vs = [v] ∧ ∀ a H2, H1 a = none → Same H1 H2 → Err H2 a C [(f, v)] → Q (.ref a) H2
theorem pe_err1 {X : Cx} {C fI : Addr} {fd : FuncData} {x f y : Str} {p pos : Pos} {e : Expr} {ta : TA} (T : ErrI X.K X.mg x C fI f) (F1 : FnOk X.prog X.w X.K X.mg X.base CX0 1 fI fd ["self", y] (spSet C f)) (hr : Room 2 X.A) (hb : Binds X.K fd ["self", y] [])
    (hg : Gl X x) (ha : PA X [e] ta) (hdb : (x == ("__debug__" : Str)) = false := by decide) (he : starEach [e] X.env = (false, eval e X.env) :: starEach [] X.env := by rfl) (hpl : (backTo pos (starEach [] X.env)).any (·.1) = false := by rfl) :
    PE X (.Call (.Name x p) [e] [] pos) (tErr1 C f ta) := by
  refine ⟨fun pins s σ H Q I h => ?_⟩
  obtain ⟨nm, q, N, bs, bm, sn, sub, ab, col, dd, k0, k1, k2, k3, k5, hC, hbm⟩ := T.o.cls
  refine wpAny_Call_Name_kw (ld_glob I hg T.g ?_ hdb)
  refine PySem.W.callWith_K (h₀ := X.base) I.ok.mod.kin T.o.kC (thn (ha.run pos pins s σ H _ I h) fun us s1 ⟨vs, H1, I1, r1, v, ev, q1⟩ => ⟨I1.kIn, ?_⟩) he hpl
  show wpAny _ _ (call (.ref C) us) _ _ _
  subst ev
  obtain ⟨hp, g, dr, tk, os⟩ := s1
  have hsz : hp.objs.size ≤ hp.objs.size + 1 := Nat.le_succ _
  have hn : H1 (hp.objs.size + 1) = none := I1.hok.fresh hsz
  have kk : ∀ b o, hp.get? b = some o → ((hp.push (PySem.W.kdv_tup us)).push (PySem.HandSPX.excO C hp.objs.size)).get? b = some o := fun b o e => Heap.get?_push_of_some _ (Heap.get?_push_of_some _ e)
  have hget : ((hp.push (PySem.W.kdv_tup us)).push (PySem.HandSPX.excO C hp.objs.size)).get? (hp.objs.size + 1) = some (PySem.HandSPX.excO C hp.objs.size) := by heap_get
  have I2 : L2.Inv X pins σ (upd H1 (hp.objs.size + 1) (exo (hp.objs.size + 1) C none)) ⟨(hp.push (PySem.W.kdv_tup us)).push (PySem.HandSPX.excO C hp.objs.size), g, dr, tk, os⟩ :=
    I1.laid (t' := tk) (a := hp.objs.size + 1) (o := exo (hp.objs.size + 1) C none) (h' := (hp.push (PySem.W.kdv_tup us)).push (PySem.HandSPX.excO C hp.objs.size)) kk hsz (exo_ok hget)
  have r2 : Vals [V.ref (hp.objs.size + 1), v] (Value.ref (hp.objs.size + 1) :: us) := .cons rfl r1
  have hl : (Value.ref (hp.objs.size + 1) :: us).length = (["self", y] : List Str).length := r2.length.symm
  have hus : us.length ≤ sizeLine := by
    rw [← Paired.length r1, sizeLine_eq]
    exact (by decide : 1 ≤ 16777216)
  let Q2 : VK := fun r H2 => r = .non ∧ Same H1 H2 ∧ Err H2 (hp.objs.size + 1) C [(f, v)]
  have hsp : spSet C f [V.ref (hp.objs.size + 1), v] (upd H1 (hp.objs.size + 1) (exo (hp.objs.size + 1) C none)) Q2 (fun _ _ _ => False) := by
    refine ⟨_, v, rfl, upd_same, fun d hd hne => ⟨rfl, fun b o e => ?_, .inr ⟨d, upd_same, ?_⟩⟩⟩
    · have hb1 : b ≠ hp.objs.size + 1 := ne_of_none e hn
      have hb2 : b ≠ d := fun z => by
        rw [z] at e hb1
        rw [upd_ne hb1, e] at hd
        cases hd
      rw [upd_ne hb1, upd_ne hb2, upd_ne hb1]
      exact e
    · rw [upd_ne hne, upd_same]
  have bnd := hb ⟨(hp.push (PySem.W.kdv_tup us)).push (PySem.HandSPX.excO C hp.objs.size), g, dr, tk, os⟩ (Value.ref (hp.objs.size + 1) :: us) I2.kIn (by rw [List.append_nil]; exact hl)
  rw [List.append_nil] at bnd
  refine wpAny_call (PySem.HandSPX.call_own F.excBase_ValueError (fun Y => PySem.HandSPX.refsVE_contains Y bm hbm) (I1.kIn _ _ hC) (PySem.W.looks_findIn I1.kIn T.i) (fun self => PySem.W.bind_fn I1.kIn self T.t) hus
    (codeAny_mono (F1.run _ X.stack _ _ ⟨Value.ref (hp.objs.size + 1) :: us, []⟩ (Value.ref (hp.objs.size + 1) :: us) _ Q2 (fun _ _ _ => False) (hr.make C us []) (I2.env0.make C us []) bnd r2 hsp) fun r s' hq' => ?_))
  cases r with
  | error er => exact hq'.elim
  | ok fl =>
    cases fl with
    | ret u =>
      obtain ⟨r, H2, os2, bare2, un2, hok2, rv, er, sm, he2⟩ := hq'
      subst er
      obtain ⟨h2, g2, d2, t2, os'⟩ := s'
      have J := I2.call' (s' := ⟨h2, g2, d2, t2, os'⟩) (ch := []) os2 un2 hok2 bare2 (fun b z => absurd z (by simp))
      exact ⟨rv, .ref (hp.objs.size + 1), H2, J, rfl, q1 _ H2 hn sm he2⟩
    | next => exact False.elim hq'
    | brk => exact False.elim hq'
    | cont => exact False.elim hq'
end SM

set_option Elab.async false
set_option linter.all false
set_option maxRecDepth 100000
set_option maxHeartbeats 4000000
namespace SM
open PySem PySem.Spec PyProof.Rows L2

/-! ### the text's facts -/
def errs : List Str := ["BadAtlas", "BadRoute", "BadTrip", "BadText", "UnknownMap", "BadAddress", "BadPlace", "BadPoint", "BadPort", "BadStep", "BadCost", "BadDepth", "BadLabel", "BadModulus", "BadSlot", "BadEdit", "BadCommand", "NoEdge", "NoRoute", "NotInside", "NotJoined", "TooLarge"]
abbrev VE : List Value := [.type "ValueError", .type "Exception", .type "BaseException", .type "object"]
abbrev LE : List Value := [.type "LookupError", .type "Exception", .type "BaseException", .type "object"]
abbrev RE : List Value := [.type "RuntimeError", .type "Exception", .type "BaseException", .type "object"]
/-- the answers about its bases -/
structure Bases (K : PySem.W.Frag) (S D : Addr) (b : List Bool) : Prop where
  len : b.length = 4
  s : PySem.W.kitOne K (.ref D) (.ref S) = some (b.getD 0 false)
  v : PySem.W.kitOne K (.ref D) (.type "ValueError") = some (b.getD 1 false)
  l : PySem.W.kitOne K (.ref D) (.type "LookupError") = some (b.getD 2 false)
  r : PySem.W.kitOne K (.ref D) (.type "RuntimeError") = some (b.getD 3 false)
/-- C: where the classes stand, as in errs; 22 the base, 23 NothingToDo, 24 NotReady; I: where the __init__s of the first four stand -/
structure Cls0 (K : PySem.W.Frag) (mg : Str → Option Value) (C : Nat → Addr) : Prop where
  b_len : mg "len" = none
  b_abs : mg "abs" = none
  b_list : mg "list" = none
  b_isinstance : mg "isinstance" = none
  b_range : mg "range" = none
  b_ValueError : mg "ValueError" = none
  b_LookupError : mg "LookupError" = none
  b_RuntimeError : mg "RuntimeError" = none
  g_SlotmapsError : mg "SlotmapsError" = some (.ref (C 22))
  g_BadAtlas : mg "BadAtlas" = some (.ref (C 0))
  g_BadRoute : mg "BadRoute" = some (.ref (C 1))
  g_BadTrip : mg "BadTrip" = some (.ref (C 2))
  g_BadText : mg "BadText" = some (.ref (C 3))
  g_UnknownMap : mg "UnknownMap" = some (.ref (C 4))
  e_UnknownMap : ErrC K mg "UnknownMap" (C 4) VE "ValueError.__new__"
  g_BadAddress : mg "BadAddress" = some (.ref (C 5))
  e_BadAddress : ErrC K mg "BadAddress" (C 5) VE "ValueError.__new__"
  g_BadPlace : mg "BadPlace" = some (.ref (C 6))
  e_BadPlace : ErrC K mg "BadPlace" (C 6) VE "ValueError.__new__"
  g_BadPoint : mg "BadPoint" = some (.ref (C 7))
  e_BadPoint : ErrC K mg "BadPoint" (C 7) VE "ValueError.__new__"
  g_BadPort : mg "BadPort" = some (.ref (C 8))
  e_BadPort : ErrC K mg "BadPort" (C 8) VE "ValueError.__new__"
  g_BadStep : mg "BadStep" = some (.ref (C 9))
  e_BadStep : ErrC K mg "BadStep" (C 9) VE "ValueError.__new__"
  g_BadCost : mg "BadCost" = some (.ref (C 10))
  e_BadCost : ErrC K mg "BadCost" (C 10) VE "ValueError.__new__"
  g_BadDepth : mg "BadDepth" = some (.ref (C 11))
  e_BadDepth : ErrC K mg "BadDepth" (C 11) VE "ValueError.__new__"
  g_BadLabel : mg "BadLabel" = some (.ref (C 12))
  e_BadLabel : ErrC K mg "BadLabel" (C 12) VE "ValueError.__new__"
  g_BadModulus : mg "BadModulus" = some (.ref (C 13))
  e_BadModulus : ErrC K mg "BadModulus" (C 13) VE "ValueError.__new__"
  g_BadSlot : mg "BadSlot" = some (.ref (C 14))
  e_BadSlot : ErrC K mg "BadSlot" (C 14) VE "ValueError.__new__"
  g_BadEdit : mg "BadEdit" = some (.ref (C 15))
  e_BadEdit : ErrC K mg "BadEdit" (C 15) VE "ValueError.__new__"
  g_BadCommand : mg "BadCommand" = some (.ref (C 16))
  e_BadCommand : ErrC K mg "BadCommand" (C 16) VE "ValueError.__new__"
  g_NoEdge : mg "NoEdge" = some (.ref (C 17))
  e_NoEdge : ErrC K mg "NoEdge" (C 17) VE "ValueError.__new__"
  g_NoRoute : mg "NoRoute" = some (.ref (C 18))
  e_NoRoute : ErrC K mg "NoRoute" (C 18) VE "ValueError.__new__"
  g_NotInside : mg "NotInside" = some (.ref (C 19))
  e_NotInside : ErrC K mg "NotInside" (C 19) VE "ValueError.__new__"
  g_NotJoined : mg "NotJoined" = some (.ref (C 20))
  e_NotJoined : ErrC K mg "NotJoined" (C 20) VE "ValueError.__new__"
  g_TooLarge : mg "TooLarge" = some (.ref (C 21))
  e_TooLarge : ErrC K mg "TooLarge" (C 21) VE "ValueError.__new__"
  e_NothingToDo : ErrC K mg "NothingToDo" (C 23) LE "LookupError.__new__"
  e_NotReady : ErrC K mg "NotReady" (C 24) RE "RuntimeError.__new__"
  x : ∀ i, i < 25 → ExcC K (C i)
  kit : ∀ i, i < 22 → ∀ j, j < 22 → PySem.W.kitOne K (.ref (C i)) (.ref (C j)) = some (decide (j = i))
  base : ∀ i, i < 22 → Bases K (C 22) (C i) [true, true, false, false]
  base23 : Bases K (C 22) (C 23) [false, false, true, false]
  base24 : Bases K (C 22) (C 24) [false, false, false, true]
def fieldOf (i : Nat) : Str := if i = 0 then "reason" else if i = 3 then "line" else "position"
structure Inits (K : PySem.W.Frag) (mg : Str → Option Value) (C I : Nat → Addr) : Prop where
  i_BadAtlas : ErrI K mg "BadAtlas" (C 0) (I 0) "reason"
  i_BadRoute : ErrI K mg "BadRoute" (C 1) (I 1) "position"
  i_BadTrip : ErrI K mg "BadTrip" (C 2) (I 2) "position"
  i_BadText : ErrI K mg "BadText" (C 3) (I 3) "line"
abbrev in0 : Stmt := inClass (topS 2) 0
abbrev in1 : Stmt := inClass (topS 8) 0
abbrev in2 : Stmt := inClass (topS 9) 0
abbrev in3 : Stmt := inClass (topS 17) 0

section
variable {P : Program} {w : World} {K : PySem.W.Frag} {mg : Str → Option Value} {base : Heap} {C I : Nat → Addr}
/-! ### the four __init__s -/
theorem sc0 : FnScope ["self", "reason"] ["self", "reason"] (defScope in0) := ⟨rfl, rfl, rfl, by decide +kernel, rfl, by decide +kernel, by decide +kernel⟩
theorem sc1 : FnScope ["self", "position"] ["self", "position"] (defScope in1) := ⟨rfl, rfl, rfl, by decide +kernel, rfl, by decide +kernel, by decide +kernel⟩
theorem sc2 : FnScope ["self", "position"] ["self", "position"] (defScope in2) := ⟨rfl, rfl, rfl, by decide +kernel, rfl, by decide +kernel, by decide +kernel⟩
theorem sc3 : FnScope ["self", "line"] ["self", "line"] (defScope in3) := ⟨rfl, rfl, rfl, by decide +kernel, rfl, by decide +kernel, by decide +kernel⟩
theorem init_read {c : Addr} {f : Str} (o : OexC K c) (n : PySem.W.findIn K (.ref c) f = some none) {vs : List V} {H : Hp} {Q : VK} {E : XK} (h : spSet c f vs H Q E) {N : List Str} (hN : N.length = 2) :
    tOst K f (tVar 0) (tVar 1) { nx := fun _ H' => Q .non H', rt := Q } (start N vs) H := by
  obtain ⟨a, v, rfl, ha, q⟩ := h
  match N, hN with
  | [_, _], _ => exact ⟨v, rfl, .ref a, rfl, a, c, rfl, o, n, .inl ⟨ha, fun dx h1 h2 => q dx h1 h2⟩⟩
theorem ok_in0 {f : Addr} {fd : FuncData} (F : Fun K "__init__" "BadAtlas.__init__" in0 f fd) {c : Addr} (o : OexC K c) (n : PySem.W.findIn K (.ref c) "reason" = some none) : FnOk P w K mg base CX0 1 f fd ["self", "reason"] (spSet c "reason") :=
  F.ok sc0 (fun vs H Q E ⟨_, _, e, _⟩ => by rw [e]; rfl) (fun cdv A outer s H vs Q E hr h => ⟨_, pss_one (ps_ost (pv 0) (pv 1)), init_read o n h rfl⟩)
theorem ok_in1 {f : Addr} {fd : FuncData} (F : Fun K "__init__" "BadRoute.__init__" in1 f fd) {c : Addr} (o : OexC K c) (n : PySem.W.findIn K (.ref c) "position" = some none) : FnOk P w K mg base CX0 1 f fd ["self", "position"] (spSet c "position") :=
  F.ok sc1 (fun vs H Q E ⟨_, _, e, _⟩ => by rw [e]; rfl) (fun cdv A outer s H vs Q E hr h => ⟨_, pss_one (ps_ost (pv 0) (pv 1)), init_read o n h rfl⟩)
theorem ok_in2 {f : Addr} {fd : FuncData} (F : Fun K "__init__" "BadTrip.__init__" in2 f fd) {c : Addr} (o : OexC K c) (n : PySem.W.findIn K (.ref c) "position" = some none) : FnOk P w K mg base CX0 1 f fd ["self", "position"] (spSet c "position") :=
  F.ok sc2 (fun vs H Q E ⟨_, _, e, _⟩ => by rw [e]; rfl) (fun cdv A outer s H vs Q E hr h => ⟨_, pss_one (ps_ost (pv 0) (pv 1)), init_read o n h rfl⟩)
theorem ok_in3 {f : Addr} {fd : FuncData} (F : Fun K "__init__" "BadText.__init__" in3 f fd) {c : Addr} (o : OexC K c) (n : PySem.W.findIn K (.ref c) "line" = some none) : FnOk P w K mg base CX0 1 f fd ["self", "line"] (spSet c "line") :=
  F.ok sc3 (fun vs H Q E ⟨_, _, e, _⟩ => by rw [e]; rfl) (fun cdv A outer s H vs Q E hr h => ⟨_, pss_one (ps_ost (pv 0) (pv 1)), init_read o n h rfl⟩)
end
end SM

set_option Elab.async false
set_option linter.all false
set_option maxRecDepth 100000
set_option maxHeartbeats 4000000
namespace SM
open PySem PySem.Spec PyProof.Rows L2
section
variable {P : Program} {w : World} {K : PySem.W.Frag} {mg : Str → Option Value} {base : Heap} {C I : Nat → Addr}
theorem same_new {H : Hp} {p : Addr} {o : HO} (h : H p = none) : Same H (upd H p o) := fun b x e => by
  rw [upd_ne (ne_of_none e h)]
  exact e
/-! ### the dict made -/
theorem merge3 (x y z : V) : mergeK [] [(kC, x), (kA, y), (kR, z)] = [(kC, x), (kA, y), (kR, z)] := by
  simp [mergeK, putK, kCA, kCR, kAR]
theorem cut_ints (ns : List Int) (hl : ns.length ≤ 63) (lo hi : Option Int) : ∃ ms : List Int, ms.length ≤ 63 ∧ cutV (ns.map V.int) lo hi = ms.map V.int := by
  unfold cutV
  rw [← List.map_drop, ← List.map_take]
  exact ⟨_, by rw [List.length_take, List.length_drop]; omega, rfl⟩
def spPen (K : PySem.W.Frag) : Sp := fun vs H Q _ => ∃ (a : Addr) (ns : List Int), vs = [.ref a] ∧ SqL K H a (ns.map V.int) ∧ ns.length ≤ 63 ∧ ∀ p H2, H p = none → Same H H2 → Pen H2 p 0 → Q (.ref p) H2
abbrev s_pen : Stmt := topS 27
theorem sc_pen : FnScope ["script"] ["script"] (defScope s_pen) := ⟨rfl, rfl, rfl, by decide +kernel, rfl, by decide +kernel, by decide +kernel⟩
theorem ok_pen (T : Cls0 K mg C) (D : Def K mg "_law_pen" s_pen ["script"]) : Ok P w K mg base CX0 "_law_pen" ["script"] 1 (spPen K) := by
  refine D.ok sc_pen (fun vs H Q E h => ?_) (fun f cdv A outer s H vs Q E hr h => ?_)
  · obtain ⟨a, ns, rfl, _⟩ := h
    rfl
  · obtain ⟨a, ns, rfl, hS, hl, q⟩ := h
    refine ⟨_, (pss_one (ps_ret (pe_disp (pps_cons pe_str (pe_callTy call_list_of (by rfl) T.b_list (by decide +kernel) (pa_cons (pe_slice sl_list (pv 0) po_none (po_some pe_int)) pa_nil)) (pps_cons pe_str pe_int (pps_cons pe_str pe_int pps_nil))) (by rfl) (by rfl) (fun z => by cases z) (by decide)))), ?_⟩
    refine fun p hp => ?_
    have s1 : Same H (upd H p (.dK [])) := same_new hp
    refine ⟨.ref a, rfl, 63, rfl, a, ns.map V.int, rfl, s1.seq hS, fun c nc => ?_⟩
    obtain ⟨ms, hm, em⟩ := cut_ints ns hl none (some 63)
    rw [em]
    have s2 : Same H (upd (upd H p (.dK [])) c (.lst (ms.map V.int))) := s1.trans (same_new nc)
    have hpc : p ≠ c := ne_of_none upd_same nc
    have d1 : (upd (upd H p (.dK [])) c (.lst (ms.map V.int))) p = some (.dK []) := by rw [upd_ne hpc, upd_same]
    have c1 : (upd (upd H p (.dK [])) c (.lst (ms.map V.int))) c = some (.lst (ms.map V.int)) := upd_same
    generalize upd (upd H p (.dK [])) c (.lst (ms.map V.int)) = H2 at s2 d1 c1
    refine ⟨c, _, rfl, .inl (SqL.of c1), fun l nl => ?_⟩
    have hpl : p ≠ l := ne_of_none d1 nl
    refine ⟨by rw [upd_ne hpl]; exact d1, [(kC, .ref l), (kA, .int 0), (kR, .int 0)], rfl, by show 3 ≤ 15; decide, ?_⟩
    rw [merge3]
    refine q p _ hp (fun b o e => ?_) ⟨l, ms, 0, 0, upd_same, by rw [upd_ne hpl.symm, upd_same], hm, by decide, by decide, by decide⟩
    rw [upd_ne (ne_of_none e hp), upd_ne (ne_of_none (s2 b o e) nl)]
    exact s2 b o e
/-! ### one of several -/
def spPick (K : PySem.W.Frag) : Sp := fun vs H Q _ => ∃ (a l : Addr) (xs : List V) (n : Nat), vs = [.ref a, .ref l] ∧ Pen H a n ∧ n < 1000000 ∧ (SqL K H l xs ∨ SqT K H l xs) ∧ 0 < xs.length ∧ xs.length < 1000000000 ∧
  ∀ (v : V) (H2 : Hp), v ∈ xs → Pen H2 a (n + 1) → But a H H2 → Q v H2
theorem but_sq {a l : Addr} {H H2 : Hp} {xs : List V} {n : Nat} (b : But a H H2) (hp : Pen H a n) (h : SqL K H l xs ∨ SqT K H l xs) : SqL K H2 l xs ∨ SqT K H2 l xs := by
  obtain ⟨c, ns, t, r, ha, _⟩ := hp
  have ne : ∀ {o : HO}, (∀ kvs, o ≠ .dK kvs) → H l = some o → l ≠ a := fun ho e z => by
    rw [z, ha] at e
    exact ho _ (Option.some.inj e).symm
  rcases h with ((h | ⟨o, h⟩) | h) | ((h | ⟨o, h⟩) | h)
  · exact .inl (.inl (.inl (b _ _ (ne (fun _ z => by cases z) h) h)))
  · exact .inl (.inl (.inr ⟨o, b _ _ (ne (fun _ z => by cases z) h) h⟩))
  · exact .inl (.inr h)
  · exact .inr (.inl (.inl (b _ _ (ne (fun _ z => by cases z) h) h)))
  · exact .inr (.inl (.inr ⟨o, b _ _ (ne (fun _ z => by cases z) h) h⟩))
  · exact .inr (.inr h)
abbrev s_pick : Stmt := topS 29
theorem sc_pick : FnScope ["pen", "items"] ["pen", "items"] (defScope s_pick) := ⟨rfl, rfl, rfl, by decide +kernel, rfl, by decide +kernel, by decide +kernel⟩
theorem ok_pick (T : Cls0 K mg C) (D : Def K mg "_law_pick" s_pick ["pen", "items"]) (O : Ok P w K mg base CX0 "_law_draw" ["pen", "many"] 1 spDraw) : Ok P w K mg base CX0 "_law_pick" ["pen", "items"] 2 (spPick K) := by
  obtain ⟨fd, fdd, G_draw, g_draw, k_draw, b_draw⟩ := O
  refine D.ok sc_pick (fun vs H Q E h => ?_) (fun f cdv A outer s H vs Q E hr h => ?_)
  · obtain ⟨a, l, xs, n, rfl, _⟩ := h
    rfl
  · obtain ⟨a, l, xs, n, rfl, hp, hn, hs, h0, hz, q⟩ := h
    refine ⟨_, (pss_one (ps_ret (pe_ix ix_seq (pv 1) (pe_call G_draw (hr.mono (by decide)) (by rfl) g_draw k_draw b_draw .nil pass0 (pa_cons (pv 0) (pa_cons (pe_callB call_len (by rfl) T.b_len (by decide +kernel) (pa_cons (pv 1) pa_nil)) pa_nil))) (fun _ _ => rfl)))), ?_⟩
    refine ⟨.ref l, rfl, .ref a, rfl, .ref l, rfl, .ref l, xs.length, rfl, ?_, ?_⟩
    · rcases hs with hs | hs
      · exact .inl ⟨xs, hs, rfl⟩
      · exact .inr ⟨xs, hs, rfl⟩
    · refine ⟨a, xs.length, n, rfl, hp, hn, by omega, by omega, fun v H2 h1 h2 hp2 b => ?_⟩
      have hix : v.toNat < xs.length := by omega
      have hg : xs[v.toNat]? = some xs[v.toNat] := List.getElem?_eq_getElem hix
      have k := q xs[v.toNat] H2 (List.getElem_mem hix) hp2 b
      rcases but_sq b hp hs with z | z
      · exact .inl ⟨l, xs, v, _, rfl, rfl, z, at_of (j := v.toNat) (by omega) hg, k⟩
      · exact .inr (.inl ⟨l, xs, v, _, rfl, rfl, z, at_of (j := v.toNat) (by omega) hg, k⟩)
/-! ### one error of each class -/
def flds (i : Nat) (x y : V) : List (Str × V) := if i = 0 then [("reason", x)] else if i = 1 then [("position", y)] else if i = 2 then [("position", y)] else if i = 3 then [("line", y)] else []
/-- the errors es stand, of the classes cs with these fields -/
def Errs (H : Hp) (es : List Addr) (cs : List (Addr × List (Str × V))) : Prop := es.length = cs.length ∧ ∀ (i : Nat) (e : Addr) (c : Addr × List (Str × V)), es[i]? = some e → cs[i]? = some c → Err H e c.1 c.2
theorem Errs.same {H H2 : Hp} {es : List Addr} {cs : List (Addr × List (Str × V))} (h : Errs H es cs) (k : Same H H2) : Errs H2 es cs := ⟨h.1, fun i e c a b => (h.2 i e c a b).same k⟩
theorem Errs.nil {H : Hp} : Errs H [] [] := ⟨rfl, fun i e c a _ => by simp at a⟩
theorem Errs.cons {H : Hp} {e c : Addr} {fs : List (Str × V)} {es : List Addr} {cs : List (Addr × List (Str × V))} (h : Err H e c fs) (t : Errs H es cs) : Errs H (e :: es) ((c, fs) :: cs) := by
  refine ⟨by rw [List.length_cons, List.length_cons, t.1], fun i x y a b => ?_⟩
  cases i with
  | zero =>
    cases (show some e = some x from a)
    cases (show some (c, fs) = some y from b)
    exact h
  | succ j => exact t.2 j x y a b
theorem Errs.append {H : Hp} {es es2 : List Addr} {cs cs2 : List (Addr × List (Str × V))} (h : Errs H es cs) (t : Errs H es2 cs2) : Errs H (es ++ es2) (cs ++ cs2) := by
  refine ⟨by rw [List.length_append, List.length_append, h.1, t.1], fun i x y a b => ?_⟩
  by_cases hi : i < es.length
  · rw [List.getElem?_append_left hi] at a
    rw [List.getElem?_append_left (by rw [← h.1]; exact hi)] at b
    exact h.2 i x y a b
  · rw [List.getElem?_append_right (by omega)] at a
    rw [List.getElem?_append_right (by rw [← h.1]; omega), ← h.1] at b
    exact t.2 _ x y a b
def tErrs : List Addr → TA
  | [] => tNil
  | c :: r => tCons (tErr0 c) (tErrs r)
theorem errs_run : ∀ (cs : List Addr) (σ : L2.St) (H : Hp) (Q : List V → Hp → Prop), (∀ es H2, Same H H2 → Errs H2 es (cs.map fun c => (c, [])) → Q (es.map V.ref) H2) → tErrs cs σ H Q
  | [], σ, H, Q, q => q [] H (Same.refl H) Errs.nil
  | c :: r, σ, H, Q, q => fun e H2 n s h => errs_run r σ H2 _ fun es H3 s3 h3 => q (e :: es) H3 (s.trans s3) (Errs.cons (h.same s3) h3)
def mk22 (C : Nat → Addr) (x y : V) : List (Addr × List (Str × V)) := (List.range 22).map fun i => (C i, flds i x y)
def spMade (C : Nat → Addr) : Sp := fun vs H Q _ => ∃ x y, vs = [x, y] ∧ ∀ p es H2, Same H H2 → H2 p = some (.lst (es.map V.ref)) → Errs H2 es (mk22 C x y) → Q (.ref p) H2
abbrev s_made : Stmt := topS 30
theorem sc_made : FnScope ["reason", "number", "found"] ["reason", "number"] (defScope s_made) := ⟨rfl, rfl, rfl, by decide +kernel, rfl, by decide +kernel, by decide +kernel⟩
theorem ok_made (T : Cls0 K mg C) (Ti : Inits K mg C I) (D : Def K mg "_law_made" s_made ["reason", "number"]) {d0 d1 d2 d3 : FuncData} (F_BadAtlas : FnOk P w K mg base CX0 1 (I 0) d0 ["self", "reason"] (spSet (C 0) "reason")) (b_BadAtlas : Binds K d0 ["self", "reason"] [])
    (F_BadRoute : FnOk P w K mg base CX0 1 (I 1) d1 ["self", "position"] (spSet (C 1) "position")) (b_BadRoute : Binds K d1 ["self", "position"] []) (F_BadTrip : FnOk P w K mg base CX0 1 (I 2) d2 ["self", "position"] (spSet (C 2) "position")) (b_BadTrip : Binds K d2 ["self", "position"] [])
    (F_BadText : FnOk P w K mg base CX0 1 (I 3) d3 ["self", "line"] (spSet (C 3) "line")) (b_BadText : Binds K d3 ["self", "line"] []) : Ok P w K mg base CX0 "_law_made" ["reason", "number"] 3 (spMade C) := by
  refine D.ok sc_made (fun vs H Q E h => ?_) (fun f cdv A outer s H vs Q E hr h => ?_)
  · obtain ⟨x, y, rfl, _⟩ := h
    rfl
  · obtain ⟨x, y, rfl, q⟩ := h
    refine ⟨_, (pss_cons (ps_set (i := 2) sc_made.nd rfl (Or.inl rfl) (pe_lst (pa_cons (pe_err1 Ti.i_BadAtlas F_BadAtlas (hr.mono (by decide)) b_BadAtlas (by rfl) (pa_cons (pv 0) pa_nil)) (pa_cons (pe_err1 Ti.i_BadRoute F_BadRoute (hr.mono (by decide)) b_BadRoute (by rfl) (pa_cons (pv 1) pa_nil)) (pa_cons (pe_err1 Ti.i_BadTrip F_BadTrip (hr.mono (by decide)) b_BadTrip (by rfl) (pa_cons (pv 1) pa_nil)) (pa_cons (pe_err1 Ti.i_BadText F_BadText (hr.mono (by decide)) b_BadText (by rfl) (pa_cons (pv 1) pa_nil)) (pa_cons (pe_err0 PySem.F.excBase_ValueError T.e_UnknownMap (by rfl)) (pa_cons (pe_err0 PySem.F.excBase_ValueError T.e_BadAddress (by rfl)) pa_nil))))))))
      (pss_cons (ps_set (i := 2) sc_made.nd rfl (Or.inl rfl) (pe_op op_cat (pv 2) (pe_lst (pa_cons (pe_err0 PySem.F.excBase_ValueError T.e_BadPlace (by rfl)) (pa_cons (pe_err0 PySem.F.excBase_ValueError T.e_BadPoint (by rfl)) (pa_cons (pe_err0 PySem.F.excBase_ValueError T.e_BadPort (by rfl)) (pa_cons (pe_err0 PySem.F.excBase_ValueError T.e_BadStep (by rfl)) (pa_cons (pe_err0 PySem.F.excBase_ValueError T.e_BadCost (by rfl)) (pa_cons (pe_err0 PySem.F.excBase_ValueError T.e_BadDepth (by rfl)) (pa_cons (pe_err0 PySem.F.excBase_ValueError T.e_BadLabel (by rfl)) (pa_cons (pe_err0 PySem.F.excBase_ValueError T.e_BadModulus (by rfl)) pa_nil)))))))))))
      (pss_cons (ps_set (i := 2) sc_made.nd rfl (Or.inl rfl) (pe_op op_cat (pv 2) (pe_lst (pa_cons (pe_err0 PySem.F.excBase_ValueError T.e_BadSlot (by rfl)) (pa_cons (pe_err0 PySem.F.excBase_ValueError T.e_BadEdit (by rfl)) (pa_cons (pe_err0 PySem.F.excBase_ValueError T.e_BadCommand (by rfl)) (pa_cons (pe_err0 PySem.F.excBase_ValueError T.e_NoEdge (by rfl)) (pa_cons (pe_err0 PySem.F.excBase_ValueError T.e_NoRoute (by rfl)) (pa_cons (pe_err0 PySem.F.excBase_ValueError T.e_NotInside (by rfl)) (pa_cons (pe_err0 PySem.F.excBase_ValueError T.e_NotJoined (by rfl)) (pa_cons (pe_err0 PySem.F.excBase_ValueError T.e_TooLarge (by rfl)) pa_nil)))))))))))
      (pss_one (ps_ret (pv 2)))))), ?_⟩
    refine ⟨x, rfl, x, rfl, fun e0 H0 n0 s0 r0 => ⟨y, rfl, y, rfl, fun e1 H1 n1 s1 r1 => ⟨y, rfl, y, rfl, fun e2 H2 n2 s2 r2 => ⟨y, rfl, y, rfl, fun e3 H3 n3 s3 r3 => errs_run [C 4, C 5] _ _ _ fun es4 H4 s4 r4 => ⟨?_, fun p hp => ?_⟩⟩⟩⟩⟩
    · rw [List.length_cons, List.length_cons, List.length_cons, List.length_cons, List.length_map, r4.1]
      exact (show 6 ≤ sizeLine by decide)
    have g4 : Errs H4 (e0 :: e1 :: e2 :: e3 :: es4) [(C 0, [("reason", x)]), (C 1, [("position", y)]), (C 2, [("position", y)]), (C 3, [("line", y)]), (C 4, []), (C 5, [])] :=
      .cons (r0.same (s1.trans (s2.trans (s3.trans s4)))) (.cons (r1.same (s2.trans (s3.trans s4))) (.cons (r2.same (s3.trans s4)) (.cons (r3.same s4) r4)))
    have k4 : Same H (upd H4 p (.lst ((e0 :: e1 :: e2 :: e3 :: es4).map V.ref))) := (s0.trans (s1.trans (s2.trans (s3.trans s4)))).trans (same_new hp)
    have l4 : (upd H4 p (.lst ((e0 :: e1 :: e2 :: e3 :: es4).map V.ref))) p = some (.lst ((e0 :: e1 :: e2 :: e3 :: es4).map V.ref)) := upd_same
    have g5 := g4.same (same_new (o := .lst ((e0 :: e1 :: e2 :: e3 :: es4).map V.ref)) hp)
    change tSeq _ _ _ [some x, some y, some (.ref p)] (upd H4 p (.lst ((e0 :: e1 :: e2 :: e3 :: es4).map V.ref)))
    generalize upd H4 p (.lst ((e0 :: e1 :: e2 :: e3 :: es4).map V.ref)) = H5 at k4 l4 g5 ⊢
    generalize e0 :: e1 :: e2 :: e3 :: es4 = es at l4 g5
    refine ⟨.ref p, rfl, errs_run [C 6, C 7, C 8, C 9, C 10, C 11, C 12, C 13] _ _ _ fun es6 H6 s6 r6 => ⟨by rw [List.length_map, r6.1]; exact (show 8 ≤ sizeLine by decide), fun p6 n6 => ?_⟩⟩
    have a6 := same_new (o := .lst (es6.map V.ref)) n6
    refine ⟨p, p6, _, _, rfl, rfl, a6 _ _ (s6 _ _ l4), upd_same, by rw [List.length_map, List.length_map, g5.1, r6.1]; exact (show 14 ≤ sizeLine by decide), fun p7 n7 => ?_⟩
    have a7 := same_new (o := .lst (es.map V.ref ++ es6.map V.ref)) n7
    have k7 : Same H _ := k4.trans (s6.trans (a6.trans a7))
    have g7 := (g5.same (s6.trans (a6.trans a7))).append (r6.same (a6.trans a7))
    have l7 : (upd (upd H6 p6 (.lst (es6.map V.ref))) p7 (.lst (es.map V.ref ++ es6.map V.ref))) p7 = some (.lst ((es ++ es6).map V.ref)) := by rw [upd_same, List.map_append]
    change tSeq _ _ _ [some x, some y, some (.ref p7)] (upd (upd H6 p6 (.lst (es6.map V.ref))) p7 (.lst (es.map V.ref ++ es6.map V.ref)))
    generalize upd (upd H6 p6 (.lst (es6.map V.ref))) p7 (.lst (es.map V.ref ++ es6.map V.ref)) = H7 at k7 l7 g7 ⊢
    generalize es ++ es6 = et at l7 g7
    refine ⟨.ref p7, rfl, errs_run [C 14, C 15, C 16, C 17, C 18, C 19, C 20, C 21] _ _ _ fun es8 H8 s8 r8 => ⟨by rw [List.length_map, r8.1]; exact (show 8 ≤ sizeLine by decide), fun p8 n8 => ?_⟩⟩
    have a8 := same_new (o := .lst (es8.map V.ref)) n8
    refine ⟨p7, p8, _, _, rfl, rfl, a8 _ _ (s8 _ _ l7), upd_same, by rw [List.length_map, List.length_map, g7.1, r8.1]; exact (show 22 ≤ sizeLine by decide), fun p9 n9 => ?_⟩
    have a9 := same_new (o := .lst (et.map V.ref ++ es8.map V.ref)) n9
    have g9 := (g7.same (s8.trans (a8.trans a9))).append (r8.same (a8.trans a9))
    refine ⟨.ref p9, rfl, q p9 (et ++ es8) _ (k7.trans (s8.trans (a8.trans a9))) (by rw [upd_same, List.map_append]) g9⟩
/-! ### which kinds an error is of -/
def tIsas (K : PySem.W.Frag) : List Addr → TA
  | [] => tNil
  | c :: r => tCons (tCB (rIsErr K) (tCons (tVar 0) (tCons (tC (.ref c)) tNil))) (tIsas K r)
theorem isas_run {e D : Addr} {fs : List (Str × V)} {σ : L2.St} {H : Hp} (hv : σ[0]? = some (some (.ref e))) (he : Err H e D fs) (xc : ExcC K D) : ∀ (l : List (Addr × Bool)) (Q : List V → Hp → Prop), (∀ p, p ∈ l → PySem.W.kitOne K (.ref D) (.ref p.1) = some p.2) → Q (l.map fun p => V.bl p.2) H → tIsas K (l.map (·.1)) σ H Q
  | [], Q, _, q => q
  | p :: r, Q, h, q => ⟨.ref e, hv, e, D, fs, .ref p.1, .ref p.1, p.2, rfl, he, xc, .own _, h p List.mem_cons_self, isas_run hv he xc r _ (fun x hx => h x (List.mem_cons_of_mem _ hx)) q⟩
theorem cat_step {e D p : Addr} {fs : List (Str × V)} {H : Hp} {xs : List V} {d : Ends} (l : List (Addr × Bool)) (he : Err H e D fs) (xc : ExcC K D) (hk : ∀ p, p ∈ l → PySem.W.kitOne K (.ref D) (.ref p.1) = some p.2) (hx : H p = some (.lst xs)) (hl : l.length ≤ 1000) (hz : xs.length + l.length ≤ 1000)
    (k : ∀ r H2, Same H H2 → H2 r = some (.lst (xs ++ l.map fun p => V.bl p.2)) → d.nx [some (.ref e), some (.ref r)] H2) : tAsg (tOp rCat (tVar 1) (tLst (tIsas K (l.map (·.1))))) (gName 1) d [some (.ref e), some (.ref p)] H := by
  refine ⟨.ref p, rfl, isas_run rfl he xc l _ hk ⟨?_, fun q nq => ?_⟩⟩
  · rw [List.length_map]
    exact Nat.le_of_lt (small1000 hl)
  · have a := same_new (o := .lst (l.map fun p => V.bl p.2)) nq
    refine ⟨p, q, _, _, rfl, rfl, a _ _ hx, upd_same, ?_, fun r nr => ?_⟩
    · rw [List.length_map]
      exact Nat.le_of_lt (small1000 hz)
    · exact k r _ (a.trans (same_new nr)) upd_same
theorem first_step {e D : Addr} {fs : List (Str × V)} {H : Hp} {d : Ends} (l : List (Addr × Bool)) (he : Err H e D fs) (xc : ExcC K D) (hk : ∀ p, p ∈ l → PySem.W.kitOne K (.ref D) (.ref p.1) = some p.2) (hl : l.length ≤ 1000)
    (k : ∀ r H2, Same H H2 → H2 r = some (.lst (l.map fun p => V.bl p.2)) → d.nx [some (.ref e), some (.ref r)] H2) : tAsg (tLst (tIsas K (l.map (·.1)))) (gName 1) d [some (.ref e), none] H := by
  refine isas_run rfl he xc l _ hk ⟨?_, fun q nq => ?_⟩
  · rw [List.length_map]
    exact Nat.le_of_lt (small1000 hl)
  · exact k q _ (same_new nq) upd_same
def kindsOf (i : Nat) : List V := (List.range 22).map fun k => V.bl (decide (k = i))
def spKinds (K : PySem.W.Frag) (C : Nat → Addr) : Sp := fun vs H Q _ => ∃ (e : Addr) (i : Nat) (fs : List (Str × V)), vs = [.ref e] ∧ i < 22 ∧ Err H e (C i) fs ∧ ∀ p H2, Same H H2 → H2 p = some (.lst (kindsOf i)) → Q (.ref p) H2
abbrev s_kinds : Stmt := topS 31
theorem sc_kinds : FnScope ["error", "found"] ["error"] (defScope s_kinds) := ⟨rfl, rfl, rfl, by decide +kernel, rfl, by decide +kernel, by decide +kernel⟩
theorem ok_kinds (T : Cls0 K mg C) (D : Def K mg "_law_kinds" s_kinds ["error"]) : Ok P w K mg base CX0 "_law_kinds" ["error"] 1 (spKinds K C) := by
  refine D.ok sc_kinds (fun vs H Q E h => ?_) (fun f cdv A outer s H vs Q E hr h => ?_)
  · obtain ⟨e, i, fs, rfl, _⟩ := h
    rfl
  · obtain ⟨e, i, fs, rfl, hi, he, q⟩ := h
    refine ⟨_, (pss_cons (ps_set (i := 1) sc_kinds.nd rfl (Or.inl rfl) (pe_lst (pa_cons (pe_callB call_isErr (by rfl) T.b_isinstance (by decide +kernel) (pa_cons (pv 0) (pa_cons (pe_cls (by rfl) T.g_BadAtlas) pa_nil))) (pa_cons (pe_callB call_isErr (by rfl) T.b_isinstance (by decide +kernel) (pa_cons (pv 0) (pa_cons (pe_cls (by rfl) T.g_BadRoute) pa_nil))) (pa_cons (pe_callB call_isErr (by rfl) T.b_isinstance (by decide +kernel) (pa_cons (pv 0) (pa_cons (pe_cls (by rfl) T.g_BadTrip) pa_nil))) pa_nil)))))
      (pss_cons (ps_set (i := 1) sc_kinds.nd rfl (Or.inl rfl) (pe_op op_cat (pv 1) (pe_lst (pa_cons (pe_callB call_isErr (by rfl) T.b_isinstance (by decide +kernel) (pa_cons (pv 0) (pa_cons (pe_cls (by rfl) T.g_BadText) pa_nil))) (pa_cons (pe_callB call_isErr (by rfl) T.b_isinstance (by decide +kernel) (pa_cons (pv 0) (pa_cons (pe_cls (by rfl) T.g_UnknownMap) pa_nil))) (pa_cons (pe_callB call_isErr (by rfl) T.b_isinstance (by decide +kernel) (pa_cons (pv 0) (pa_cons (pe_cls (by rfl) T.g_BadAddress) pa_nil))) pa_nil))))))
      (pss_cons (ps_set (i := 1) sc_kinds.nd rfl (Or.inl rfl) (pe_op op_cat (pv 1) (pe_lst (pa_cons (pe_callB call_isErr (by rfl) T.b_isinstance (by decide +kernel) (pa_cons (pv 0) (pa_cons (pe_cls (by rfl) T.g_BadPlace) pa_nil))) (pa_cons (pe_callB call_isErr (by rfl) T.b_isinstance (by decide +kernel) (pa_cons (pv 0) (pa_cons (pe_cls (by rfl) T.g_BadPoint) pa_nil))) (pa_cons (pe_callB call_isErr (by rfl) T.b_isinstance (by decide +kernel) (pa_cons (pv 0) (pa_cons (pe_cls (by rfl) T.g_BadPort) pa_nil))) pa_nil))))))
      (pss_cons (ps_set (i := 1) sc_kinds.nd rfl (Or.inl rfl) (pe_op op_cat (pv 1) (pe_lst (pa_cons (pe_callB call_isErr (by rfl) T.b_isinstance (by decide +kernel) (pa_cons (pv 0) (pa_cons (pe_cls (by rfl) T.g_BadStep) pa_nil))) (pa_cons (pe_callB call_isErr (by rfl) T.b_isinstance (by decide +kernel) (pa_cons (pv 0) (pa_cons (pe_cls (by rfl) T.g_BadCost) pa_nil))) (pa_cons (pe_callB call_isErr (by rfl) T.b_isinstance (by decide +kernel) (pa_cons (pv 0) (pa_cons (pe_cls (by rfl) T.g_BadDepth) pa_nil))) pa_nil))))))
      (pss_cons (ps_set (i := 1) sc_kinds.nd rfl (Or.inl rfl) (pe_op op_cat (pv 1) (pe_lst (pa_cons (pe_callB call_isErr (by rfl) T.b_isinstance (by decide +kernel) (pa_cons (pv 0) (pa_cons (pe_cls (by rfl) T.g_BadLabel) pa_nil))) (pa_cons (pe_callB call_isErr (by rfl) T.b_isinstance (by decide +kernel) (pa_cons (pv 0) (pa_cons (pe_cls (by rfl) T.g_BadModulus) pa_nil))) (pa_cons (pe_callB call_isErr (by rfl) T.b_isinstance (by decide +kernel) (pa_cons (pv 0) (pa_cons (pe_cls (by rfl) T.g_BadSlot) pa_nil))) pa_nil))))))
      (pss_cons (ps_set (i := 1) sc_kinds.nd rfl (Or.inl rfl) (pe_op op_cat (pv 1) (pe_lst (pa_cons (pe_callB call_isErr (by rfl) T.b_isinstance (by decide +kernel) (pa_cons (pv 0) (pa_cons (pe_cls (by rfl) T.g_BadEdit) pa_nil))) (pa_cons (pe_callB call_isErr (by rfl) T.b_isinstance (by decide +kernel) (pa_cons (pv 0) (pa_cons (pe_cls (by rfl) T.g_BadCommand) pa_nil))) (pa_cons (pe_callB call_isErr (by rfl) T.b_isinstance (by decide +kernel) (pa_cons (pv 0) (pa_cons (pe_cls (by rfl) T.g_NoEdge) pa_nil))) pa_nil))))))
      (pss_cons (ps_set (i := 1) sc_kinds.nd rfl (Or.inl rfl) (pe_op op_cat (pv 1) (pe_lst (pa_cons (pe_callB call_isErr (by rfl) T.b_isinstance (by decide +kernel) (pa_cons (pv 0) (pa_cons (pe_cls (by rfl) T.g_NoRoute) pa_nil))) (pa_cons (pe_callB call_isErr (by rfl) T.b_isinstance (by decide +kernel) (pa_cons (pv 0) (pa_cons (pe_cls (by rfl) T.g_NotInside) pa_nil))) (pa_cons (pe_callB call_isErr (by rfl) T.b_isinstance (by decide +kernel) (pa_cons (pv 0) (pa_cons (pe_cls (by rfl) T.g_NotJoined) pa_nil))) pa_nil))))))
      (pss_one (ps_ret (pe_op op_cat (pv 1) (pe_lst (pa_cons (pe_callB call_isErr (by rfl) T.b_isinstance (by decide +kernel) (pa_cons (pv 0) (pa_cons (pe_cls (by rfl) T.g_TooLarge) pa_nil))) pa_nil)))))))))))), ?_⟩
    have xc := T.x i (by omega)
    have hk : ∀ l : List Nat, (∀ n, n ∈ l → n < 22) → ∀ p, p ∈ l.map (fun n => (C n, decide (n = i))) → PySem.W.kitOne K (.ref (C i)) (.ref p.1) = some p.2 := fun l hl p hp => by
      obtain ⟨n, hn, rfl⟩ := List.mem_map.mp hp
      exact T.kit i hi n (hl n hn)
    refine first_step ([0, 1, 2].map fun n => (C n, decide (n = i))) he xc (hk _ (by decide)) (show 3 ≤ 1000 by decide) fun p0 H0 s0 l0 => ?_
    refine cat_step ([3, 4, 5].map fun n => (C n, decide (n = i))) (he.same s0) xc (hk _ (by decide)) l0 (show 3 ≤ 1000 by decide) (show 6 ≤ 1000 by decide) fun p1 H1 s1 l1 => ?_
    have t1 := s0.trans s1
    refine cat_step ([6, 7, 8].map fun n => (C n, decide (n = i))) (he.same t1) xc (hk _ (by decide)) l1 (show 3 ≤ 1000 by decide) (show 9 ≤ 1000 by decide) fun p2 H2 s2 l2 => ?_
    have t2 := t1.trans s2
    refine cat_step ([9, 10, 11].map fun n => (C n, decide (n = i))) (he.same t2) xc (hk _ (by decide)) l2 (show 3 ≤ 1000 by decide) (show 12 ≤ 1000 by decide) fun p3 H3 s3 l3 => ?_
    have t3 := t2.trans s3
    refine cat_step ([12, 13, 14].map fun n => (C n, decide (n = i))) (he.same t3) xc (hk _ (by decide)) l3 (show 3 ≤ 1000 by decide) (show 15 ≤ 1000 by decide) fun p4 H4 s4 l4 => ?_
    have t4 := t3.trans s4
    refine cat_step ([15, 16, 17].map fun n => (C n, decide (n = i))) (he.same t4) xc (hk _ (by decide)) l4 (show 3 ≤ 1000 by decide) (show 18 ≤ 1000 by decide) fun p5 H5 s5 l5 => ?_
    have t5 := t4.trans s5
    refine cat_step ([18, 19, 20].map fun n => (C n, decide (n = i))) (he.same t5) xc (hk _ (by decide)) l5 (show 3 ≤ 1000 by decide) (show 21 ≤ 1000 by decide) fun p6 H6 s6 l6 => ?_
    have t6 := t5.trans s6
    refine ⟨.ref p6, rfl, isas_run (l := [21].map fun n => (C n, decide (n = i))) rfl (he.same t6) xc _ (hk _ (by decide)) ⟨(show 1 ≤ sizeLine by decide), fun p7 n7 => ?_⟩⟩
    have s7 : Same H6 _ := same_new (o := .lst (([21].map fun n => (C n, decide (n = i))).map fun p => V.bl p.2)) n7
    refine ⟨p6, p7, _, _, rfl, rfl, s7 _ _ l6, upd_same, (show 22 ≤ sizeLine by decide), fun p8 n8 => ?_⟩
    exact q p8 _ (t6.trans (s7.trans (same_new n8))) upd_same
def spBases (K : PySem.W.Frag) (C : Nat → Addr) : Sp := fun vs H Q _ => ∃ (e D : Addr) (fs : List (Str × V)) (b : List Bool), vs = [.ref e] ∧ Err H e D fs ∧ ExcC K D ∧ Bases K (C 22) D b ∧ ∀ p H2, Same H H2 → H2 p = some (.lst (b.map V.bl)) → Q (.ref p) H2
abbrev s_bases : Stmt := topS 32
theorem sc_bases : FnScope ["error", "found"] ["error"] (defScope s_bases) := ⟨rfl, rfl, rfl, by decide +kernel, rfl, by decide +kernel, by decide +kernel⟩
theorem ok_bases (T : Cls0 K mg C) (D : Def K mg "_law_bases" s_bases ["error"]) : Ok P w K mg base CX0 "_law_bases" ["error"] 1 (spBases K C) := by
  refine D.ok sc_bases (fun vs H Q E h => ?_) (fun f cdv A outer s H vs Q E hr h => ?_)
  · obtain ⟨e, d, fs, b, rfl, _⟩ := h
    rfl
  · obtain ⟨e, d, fs, b, rfl, he, xc, B, q⟩ := h
    refine ⟨_, (pss_cons (ps_set (i := 1) sc_bases.nd rfl (Or.inl rfl) (pe_lst (pa_cons (pe_callB call_isErr (by rfl) T.b_isinstance (by decide +kernel) (pa_cons (pv 0) (pa_cons (pe_cls (by rfl) T.g_SlotmapsError) pa_nil))) (pa_cons (pe_callB call_isErr (by rfl) T.b_isinstance (by decide +kernel) (pa_cons (pv 0) (pa_cons (pe_bltn (v := .ty "ValueError") (by rfl) T.b_ValueError (by decide +kernel) rfl) pa_nil))) pa_nil))))
      (pss_one (ps_ret (pe_op op_cat (pv 1) (pe_lst (pa_cons (pe_callB call_isErr (by rfl) T.b_isinstance (by decide +kernel) (pa_cons (pv 0) (pa_cons (pe_bltn (v := .ty "LookupError") (by rfl) T.b_LookupError (by decide +kernel) rfl) pa_nil))) (pa_cons (pe_callB call_isErr (by rfl) T.b_isinstance (by decide +kernel) (pa_cons (pv 0) (pa_cons (pe_bltn (v := .ty "RuntimeError") (by rfl) T.b_RuntimeError (by decide +kernel) rfl) pa_nil))) pa_nil))))))), ?_⟩
    refine ⟨.ref e, rfl, e, d, fs, .ref (C 22), .ref (C 22), _, rfl, he, xc, .own _, B.s, .ref e, rfl, e, d, fs, .ty "ValueError", .type "ValueError", _, rfl, he, xc, .ty _, B.v, (show 2 ≤ sizeLine by decide), fun p0 n0 => ?_⟩
    have s0 := same_new (o := .lst [V.bl (b.getD 0 false), V.bl (b.getD 1 false)]) n0
    refine ⟨.ref p0, rfl, .ref e, rfl, e, d, fs, .ty "LookupError", .type "LookupError", _, rfl, he.same s0, xc, .ty _, B.l, .ref e, rfl, e, d, fs, .ty "RuntimeError", .type "RuntimeError", _, rfl, he.same s0, xc, .ty _, B.r, (show 2 ≤ sizeLine by decide), fun p1 n1 => ?_⟩
    have s1 := same_new (o := .lst [V.bl (b.getD 2 false), V.bl (b.getD 3 false)]) n1
    refine ⟨p0, p1, _, _, rfl, rfl, s1 _ _ upd_same, upd_same, (show 4 ≤ sizeLine by decide), fun p2 n2 => ?_⟩
    refine q p2 _ (s0.trans (s1.trans (same_new n2))) ?_
    rw [upd_same]
    match b, B.len with
    | [_, _, _, _], _ => rfl
/-! ### a reason -/
/-- a tuple of texts and numbers -/
def Reason (H : Hp) (t : Addr) (xs : List V) (ds : List PyData) : Prop := H t = some (.tup xs) ∧ (∀ (K : PySem.W.Frag) (H2 : Hp), DpAll K H2 xs ds) ∧ SeqAt.shaped (.tuple ds) = true
def spReason : Sp := fun vs H Q _ => ∃ (a : Addr) (n : Nat), vs = [.ref a] ∧ Pen H a n ∧ n + 3 < 1000000 ∧ ∀ t xs ds H2, Pen H2 a (n + 3) → But a H H2 → Reason H2 t xs ds → Q (.ref t) H2
theorem shaped_reason {x : Str} {ns : List Int} (hx : PyData.strOk x = true) : SeqAt.shaped (.tuple (.str x :: ns.map PyData.int)) = true := by
  simp [SeqAt.shaped, PyData.canLay0, PyData.canLayAll0, PyData.depth, PyData.depthAll, PySem.W.ke_canLayAll0, PySem.W.ke_depthAll, hx]
theorem dp_reason {x : Str} {ns : List Int} (K : PySem.W.Frag) (H : Hp) : DpAll K H (.str x :: ns.map V.int) (.str x :: ns.map PyData.int) := .cons (.str x) (dp_ints ns)
theorem Pen.same {H H2 : Hp} {a : Addr} {n : Nat} (h : Pen H a n) (s : Same H H2) : Pen H2 a n := by
  obtain ⟨c, ns, t, r, h1, h2, h3⟩ := h
  exact ⟨c, ns, t, r, s _ _ h1, s _ _ h2, h3⟩
theorem But.same {H H1 H2 : Hp} {a : Addr} (b : But a H H1) (s : Same H1 H2) : But a H H2 := fun x o n e => s _ _ (b x o n e)
theorem Pen.ne {H : Hp} {a t : Addr} {n : Nat} {xs : List V} (h : Pen H a n) (ht : H t = some (.tup xs)) : t ≠ a := fun z => by
  obtain ⟨c, ns, _, _, h1, _⟩ := h
  rw [z, h1] at ht
  cases ht
theorem Reason.of {H : Hp} {t : Addr} {x : Str} (ns : List Int) (ht : H t = some (.tup (.str x :: ns.map V.int))) (hx : PyData.strOk x = true) : Reason H t (.str x :: ns.map V.int) (.str x :: ns.map PyData.int) := ⟨ht, fun K H2 => dp_reason K H2, shaped_reason hx⟩
abbrev s_reason : Stmt := topS 33
theorem sc_reason : FnScope ["pen", "k", "e"] ["pen"] (defScope s_reason) := ⟨rfl, rfl, rfl, by decide +kernel, rfl, by decide +kernel, by decide +kernel⟩
theorem ok_reason (D : Def K mg "_law_reason" s_reason ["pen"]) (O : Ok P w K mg base CX0 "_law_draw" ["pen", "many"] 1 spDraw) (O2 : Ok P w K mg base CX0 "_law_pick" ["pen", "items"] 2 (spPick K)) : Ok P w K mg base CX0 "_law_reason" ["pen"] 3 spReason := by
  obtain ⟨fd, fdd, G_draw, g_draw, k_draw, b_draw⟩ := O
  obtain ⟨fp, fpd, G_pick, g_pick, k_pick, b_pick⟩ := O2
  refine D.ok sc_reason (fun vs H Q E h => ?_) (fun f cdv A outer s H vs Q E hr h => ?_)
  · obtain ⟨a, n, rfl, _⟩ := h
    rfl
  · obtain ⟨a, n, rfl, hp, hn, q⟩ := h
    refine ⟨_, (pss_cons (ps_par (i := 1) (j := 2) (by rfl) sc_reason.nd rfl rfl (by decide) rfl rfl (pa_cons (pe_call G_draw (hr.mono (by decide)) (by rfl) g_draw k_draw b_draw .nil pass0 (pa_cons (pv 0) (pa_cons pe_int pa_nil))) (pa_cons (pe_call G_draw (hr.mono (by decide)) (by rfl) g_draw k_draw b_draw .nil pass0 (pa_cons (pv 0) (pa_cons pe_int pa_nil))) pa_nil)) (by rfl))
      (pss_one (ps_ret (pe_call G_pick (hr.mono (by decide)) (by rfl) g_pick k_pick b_pick .nil pass0 (pa_cons (pv 0) (pa_cons (pe_lst (pa_cons (pe_tup (pa_cons pe_str pa_nil)) (pa_cons (pe_tup (pa_cons pe_str (pa_cons (pv 1) pa_nil))) (pa_cons (pe_tup (pa_cons pe_str (pa_cons (pv 1) (pa_cons (pe_op op_mod (pv 2) pe_int) pa_nil)))) (pa_cons (pe_tup (pa_cons pe_str (pa_cons (pv 1) pa_nil))) (pa_cons (pe_tup (pa_cons pe_str (pa_cons (pv 1) (pa_cons (pv 2) pa_nil)))) pa_nil)))))) pa_nil)))))), ?_⟩
    refine ⟨.ref a, rfl, a, 8, n, rfl, hp, by omega, by decide, by decide, fun k H1 _ _ hp1 b1 => ⟨.ref a, rfl, a, 40, n + 1, rfl, hp1, by omega, by decide, by decide, fun e H2 _ _ hp2 b2 => ⟨_, _, rfl, ?_⟩⟩⟩
    refine ⟨.ref a, rfl, (show 1 ≤ sizeLine by decide), fun t0 n0 => ?_⟩
    refine ⟨.int k, rfl, (show 2 ≤ sizeLine by decide), fun t1 n1 => ?_⟩
    refine ⟨.int k, rfl, .int e, rfl, e, 4, rfl, rfl, (show (0 : Int) < 4 by decide), (show 3 ≤ sizeLine by decide), fun t2 n2 => ?_⟩
    refine ⟨.int k, rfl, (show 2 ≤ sizeLine by decide), fun t3 n3 => ?_⟩
    refine ⟨.int k, rfl, .int e, rfl, (show 3 ≤ sizeLine by decide), fun t4 n4 => ?_⟩
    refine ⟨(show 5 ≤ sizeLine by decide), fun l nl => ?_⟩
    have s0 := same_new (o := .tup (.str "atlas" :: ([] : List Int).map V.int)) n0
    have s1 := same_new (o := .tup (.str "map" :: [k].map V.int)) n1
    have s2 := same_new (o := .tup (.str "slot" :: [k, e % 4].map V.int)) n2
    have s3 := same_new (o := .tup (.str "edges" :: [k].map V.int)) n3
    have s4 := same_new (o := .tup (.str "edge" :: [k, e].map V.int)) n4
    have s5 := same_new (o := .lst [.ref t0, .ref t1, .ref t2, .ref t3, .ref t4]) nl
    have z0 := (s1.trans (s2.trans (s3.trans (s4.trans s5)))) _ _ (upd_same (H := H2) (a := t0) (o := .tup (.str "atlas" :: ([] : List Int).map V.int)))
    have z1 := (s2.trans (s3.trans (s4.trans s5))) _ _ (upd_same (a := t1) (o := .tup (.str "map" :: [k].map V.int)))
    have z2 := (s3.trans (s4.trans s5)) _ _ (upd_same (a := t2) (o := .tup (.str "slot" :: [k, e % 4].map V.int)))
    have z3 := (s4.trans s5) _ _ (upd_same (a := t3) (o := .tup (.str "edges" :: [k].map V.int)))
    have z4 := s5 _ _ (upd_same (a := t4) (o := .tup (.str "edge" :: [k, e].map V.int)))
    have zs := s0.trans (s1.trans (s2.trans (s3.trans (s4.trans s5))))
    have hp3 := hp2.same zs
    refine ⟨a, l, _, n + 2, rfl, hp3, by omega, .inl (SqL.of upd_same), (show 0 < 5 by decide), (show 5 < 1000000000 by decide), fun v G hv hp4 b4 => ?_⟩
    have bb := ((b1.trans b2).same zs).trans b4
    rcases List.mem_cons.mp hv with rfl | hv
    · exact q _ _ _ _ hp4 bb (Reason.of [] (b4 _ _ (hp3.ne z0) z0) (by decide +kernel))
    rcases List.mem_cons.mp hv with rfl | hv
    · exact q _ _ _ _ hp4 bb (Reason.of [k] (b4 _ _ (hp3.ne z1) z1) (by decide +kernel))
    rcases List.mem_cons.mp hv with rfl | hv
    · exact q _ _ _ _ hp4 bb (Reason.of [k, e % 4] (b4 _ _ (hp3.ne z2) z2) (by decide +kernel))
    rcases List.mem_cons.mp hv with rfl | hv
    · exact q _ _ _ _ hp4 bb (Reason.of [k] (b4 _ _ (hp3.ne z3) z3) (by decide +kernel))
    rcases List.mem_cons.mp hv with rfl | hv
    · exact q _ _ _ _ hp4 bb (Reason.of [k, e] (b4 _ _ (hp3.ne z4) z4) (by decide +kernel))
    · cases hv
/-! ### the law -/
def spLaw (K : PySem.W.Frag) : Sp := fun vs H Q _ => ∃ (a : Addr) (ns : List Int), vs = [.ref a] ∧ SqL K H a (ns.map V.int) ∧ ns.length ≤ 63 ∧ ∀ H2, Q (.bl true) H2
theorem dp_bools (K : PySem.W.Frag) (H : Hp) : ∀ bs : List Bool, DpAll K H (bs.map V.bl) (bs.map PyData.bool)
  | [] => .nil
  | _ :: r => .cons (.bl _) (dp_bools K H r)
theorem lay_bools : ∀ bs : List Bool, PyData.canLayAll0 (bs.map PyData.bool) = true ∧ PyData.depthAll (bs.map PyData.bool) = 0
  | [] => ⟨rfl, rfl⟩
  | b :: r => by simp [PyData.canLayAll0, PyData.canLay0, PyData.depthAll, PyData.depth, (lay_bools r).1, (lay_bools r).2]
theorem shaped_bools (bs : List Bool) : SeqAt.shaped (.list (bs.map PyData.bool)) = true := by
  simp [SeqAt.shaped, PyData.canLay0, PyData.depth, (lay_bools bs).1, (lay_bools bs).2]
/-- two lists of the same truth values are not told apart -/
theorem ne_bools {H : Hp} {p r : Addr} {bs : List Bool} {Q : VK} (hp : H p = some (.lst (bs.map V.bl))) (hr : H r = some (.lst (bs.map V.bl))) (q : Q (.bl false) H) : rNeD K (.ref p) (.ref r) H Q := by
  refine ⟨_, _, .lst (SqL.of hp) (dp_bools K H bs), .lst (SqL.of hr) (dp_bools K H bs), shaped_bools bs, shaped_bools bs, ?_⟩
  rw [SeqAt.eqv_refl _ (SeqAt.canLay_of_shaped (shaped_bools bs))]
  exact q
theorem ne_ints {H : Hp} {p r : Addr} {ns : List Int} {Q : VK} (hp : H p = some (.lst (ns.map V.int))) (hr : H r = some (.lst (ns.map V.int))) (q : Q (.bl false) H) : rNeD K (.ref p) (.ref r) H Q := by
  refine ⟨_, _, .lst (SqL.of hp) (dp_ints ns), .lst (SqL.of hr) (dp_ints ns), PySem.W.ke_shaped_ints ns, PySem.W.ke_shaped_ints ns, ?_⟩
  rw [SeqAt.eqv_refl _ (SeqAt.canLay_of_shaped (PySem.W.ke_shaped_ints ns))]
  exact q
theorem ne_reason {H : Hp} {t : Addr} {xs : List V} {ds : List PyData} {Q : VK} (h : Reason H t xs ds) (q : Q (.bl false) H) : rNeD K (.ref t) (.ref t) H Q := by
  refine ⟨_, _, .tup (SqT.of h.1) (h.2.1 K H), .tup (SqT.of h.1) (h.2.1 K H), h.2.2, h.2.2, ?_⟩
  rw [SeqAt.eqv_refl _ (SeqAt.canLay_of_shaped h.2.2)]
  exact q
theorem Reason.same {H H2 : Hp} {t : Addr} {xs : List V} {ds : List PyData} (h : Reason H t xs ds) (s : Same H H2) : Reason H2 t xs ds := ⟨s _ _ h.1, h.2⟩
theorem kinds_bools (i : Nat) : kindsOf i = (((List.range 22).map fun k => decide (k = i))).map V.bl := by
  unfold kindsOf
  rw [List.map_map]
  rfl
theorem eq_nat (j n : Nat) : decide (V.int (0 + (j : Int)) = V.int (0 + (n : Int))) = decide (j = n) := by
  by_cases h : j = n
  · subst h
    simp
  · have : ¬ V.int (0 + (j : Int)) = V.int (0 + (n : Int)) := fun z => by
      have := V.int.inj z
      omega
    rw [decide_eq_false this, decide_eq_false h]
theorem mk22_get {x y : V} {i : Nat} (h : i < 22) : (mk22 C x y)[i]? = some (C i, flds i x y) := by
  unfold mk22
  rw [List.getElem?_map, List.getElem?_range h]
  rfl
/-- the error at a place of the list -/
theorem err_at {H : Hp} {es : List Addr} {x y : V} (h : Errs H es (mk22 C x y)) {i : Nat} (hi : i < 22) : ∃ e, (es.map V.ref)[i]? = some (.ref e) ∧ Err H e (C i) (flds i x y) := by
  have hl : es.length = 22 := h.1.trans (by unfold mk22; rw [List.length_map, List.length_range])
  have hg : es[i]? = some es[i] := List.getElem?_eq_getElem (by omega)
  exact ⟨es[i], by rw [List.getElem?_map, hg]; rfl, h.2 i _ _ hg (mk22_get hi)⟩
abbrev s_law : Stmt := topS 34
theorem sc_law : FnScope ["script", "pen", "turn", "reason", "number", "errors", "n", "k"] ["script"] (defScope s_law) := ⟨rfl, rfl, rfl, by decide +kernel, rfl, by decide +kernel, by decide +kernel⟩
theorem ok_law (T : Cls0 K mg C) (Ti : Inits K mg C I) {f0 : Addr} {d0 : FuncData} (F : Fun K "law" "law" s_law f0 d0) (O1 : Ok P w K mg base CX0 "_law_pen" ["script"] 1 (spPen K)) (O2 : Ok P w K mg base CX0 "_law_draw" ["pen", "many"] 1 spDraw) (O3 : Ok P w K mg base CX0 "_law_reason" ["pen"] 3 spReason)
    (O4 : Ok P w K mg base CX0 "_law_made" ["reason", "number"] 3 (spMade C)) (O5 : Ok P w K mg base CX0 "_law_kinds" ["error"] 1 (spKinds K C)) (O6 : Ok P w K mg base CX0 "_law_bases" ["error"] 1 (spBases K C)) : FnOk P w K mg base CX0 4 f0 d0 ["script"] (spLaw K) := by
  obtain ⟨f1, d1, G_pen, g_pen, k_pen, b_pen⟩ := O1
  obtain ⟨f2, d2, G_draw, g_draw, k_draw, b_draw⟩ := O2
  obtain ⟨f3, d3, G_reason, g_reason, k_reason, b_reason⟩ := O3
  obtain ⟨f4, d4, G_made, g_made, k_made, b_made⟩ := O4
  obtain ⟨f5, d5, G_kinds, g_kinds, k_kinds, b_kinds⟩ := O5
  obtain ⟨f6, d6, G_bases, g_bases, k_bases, b_bases⟩ := O6
  refine F.ok sc_law (fun vs H Q E h => ?_) (fun cdv A outer s H vs Q E hr h => ?_)
  · obtain ⟨a, ns, rfl, _⟩ := h
    rfl
  · obtain ⟨a, ns, rfl, hS, hl, q⟩ := h
    refine ⟨_, (pss_cons (ps_set (i := 1) sc_law.nd rfl (Or.inl rfl) (pe_call G_pen (hr.mono (by decide)) (by rfl) g_pen k_pen b_pen .nil pass0 (pa_cons (pv 0) pa_nil)))
      (pss_cons (ps_for PassesOwn.never rfl (pi_range1 (by rfl) T.b_range (pa_cons pe_int pa_nil)) (pg_name (i := 2) sc_law.nd rfl (Or.inl rfl))
        (pss_cons (ps_par (i := 3) (j := 4) (by rfl) sc_law.nd rfl rfl (by decide) rfl rfl (pa_cons (pe_call G_reason (hr.mono (by decide)) (by rfl) g_reason k_reason b_reason .nil pass0 (pa_cons (pv 1) pa_nil)) (pa_cons (pe_call G_draw (hr.mono (by decide)) (by rfl) g_draw k_draw b_draw .nil pass0 (pa_cons (pv 1) (pa_cons pe_int pa_nil))) pa_nil)) (by rfl))
          (pss_cons (ps_set (i := 5) sc_law.nd rfl (Or.inl rfl) (pe_call G_made (hr.mono (by decide)) (by rfl) g_made k_made b_made .nil pass0 (pa_cons (pv 3) (pa_cons (pv 4) pa_nil))))
          (pss_cons (ps_for PassesOwn.never rfl (pi_range1 (by rfl) T.b_range (pa_cons pe_int pa_nil)) (pg_name (i := 6) sc_law.nd rfl (Or.inr rfl))
            (pss_cons (ps_if (pt_cmpR (op_neD hr.units) (pe_call G_bases (hr.mono (by decide)) (by rfl) g_bases k_bases b_bases .nil pass0 (pa_cons (pe_ix ix_list (pv 5) (pv 6) (fun _ _ => rfl)) pa_nil)) (pe_lst (pa_cons pe_bl (pa_cons pe_bl (pa_cons pe_bl (pa_cons pe_bl pa_nil))))) (nomark _)) (pss_one (ps_ret pe_bl)) pss_nil)
              (pss_one (ps_if (pt_cmpR (op_neD hr.units) (pe_call G_kinds (hr.mono (by decide)) (by rfl) g_kinds k_kinds b_kinds .nil pass0 (pa_cons (pe_ix ix_list (pv 5) (pv 6) (fun _ _ => rfl)) pa_nil)) (pe_lc (own := [("k", 7)]) (g := gName 7) (by rfl) sc_law.nd (pi_range1 (by rfl) T.b_range (pa_cons pe_int pa_nil)) (blkOk_by (own := [("k", 7)]) (N := ["script", "pen", "turn", "reason", "number", "errors", "n", "k"]) (sc := defScope s_law) (by decide +kernel)) (fun _ _ _ _ _ => (pg_name (i := 7) sc_law.nd rfl (Or.inl rfl))) (fun _ _ _ _ _ => pts_nil) (fun _ _ _ _ _ => (pe_cmpR op_eq (pv 7) (pv 6) (nomark _)))) (nomark _)) (pss_one (ps_ret pe_bl)) pss_nil))))
          (pss_cons (ps_if (PW.pt (pw_or (pt_cmpR (op_neD hr.units) (pe_errF (pe_ix ix_list (pv 5) pe_int (fun _ _ => rfl))) (pv 3) (nomark _)) (pw_or1 (pt_cmpR (op_neD hr.units) (pe_lst (pa_cons (pe_errF (pe_ix ix_list (pv 5) pe_int (fun _ _ => rfl))) (pa_cons (pe_errF (pe_ix ix_list (pv 5) pe_int (fun _ _ => rfl))) (pa_cons (pe_errF (pe_ix ix_list (pv 5) pe_int (fun _ _ => rfl))) pa_nil)))) (pe_op op_rep (pe_lst (pa_cons (pv 4) pa_nil)) pe_int) (nomark _))))) (pss_one (ps_ret pe_bl)) pss_nil)
          (pss_cons (ps_if (pt_cmpR (op_neD hr.units) (pe_call G_bases (hr.mono (by decide)) (by rfl) g_bases k_bases b_bases .nil pass0 (pa_cons (pe_err0 PySem.F.excBase_LookupError T.e_NothingToDo (by rfl)) pa_nil)) (pe_lst (pa_cons pe_bl (pa_cons pe_bl (pa_cons pe_bl (pa_cons pe_bl pa_nil))))) (nomark _)) (pss_one (ps_ret pe_bl)) pss_nil)
          (pss_one (ps_if (pt_cmpR (op_neD hr.units) (pe_call G_bases (hr.mono (by decide)) (by rfl) g_bases k_bases b_bases .nil pass0 (pa_cons (pe_err0 PySem.F.excBase_RuntimeError T.e_NotReady (by rfl)) pa_nil)) (pe_lst (pa_cons pe_bl (pa_cons pe_bl (pa_cons pe_bl (pa_cons pe_bl pa_nil))))) (nomark _)) (pss_one (ps_ret pe_bl)) pss_nil))))))))
      (pss_one (ps_ret pe_bl)))), ?_⟩
    refine ⟨.ref a, rfl, a, ns, rfl, hS, hl, fun p H0 _ _ hp0 => ?_⟩
    refine ⟨4, rfl, by decide, by decide, for_range (lo := 0) (n := 4) (fun i σ H' => ∃ v2 v3 v4 v5 v6 v7, σ = [some (.ref a), some (.ref p), v2, v3, v4, v5, v6, v7] ∧ Pen H' p (4 * i)) ⟨_, _, _, _, _, _, rfl, hp0⟩ ?_ (fun _ _ _ => q _)⟩
    rintro i σ H1 hi ⟨v2, v3, v4, v5, v6, v7, rfl, hp1⟩
    refine ⟨.ref p, rfl, p, 4 * i, rfl, hp1, by omega, fun t xs ds H2 hp2 b2 R2 => ⟨.ref p, rfl, p, 500, 4 * i + 3, rfl, hp2, by omega, by decide, by decide, fun num H3 _ _ hp3 b3 => ⟨_, _, rfl, ?_⟩⟩⟩
    have R3 : Reason H3 t xs ds := ⟨b3 _ _ (hp2.ne R2.1) R2.1, R2.2⟩
    refine ⟨.ref t, rfl, .int num, rfl, .ref t, .int num, rfl, fun pe es H4 s4 l4 e4 => ?_⟩
    refine ⟨22, rfl, by decide, by decide, for_range (lo := 0) (n := 22) (fun n σ H' => ∃ v6 v7, σ = [some (.ref a), some (.ref p), some (.int (0 + (i : Int))), some (.ref t), some (.int num), some (.ref pe), v6, v7] ∧ Same H4 H') ⟨_, _, rfl, Same.refl _⟩ ?_ ?_⟩
    · rintro n σ H5 hn ⟨v6, v7, rfl, s5⟩
      obtain ⟨e, he, r⟩ := err_at (e4.same s5) hn
      refine ⟨.ref pe, rfl, .int (0 + n), rfl, pe, _, _, .ref e, rfl, rfl, SqL.of (s5 _ _ l4), at_of (j := n) (by omega) he, ?_⟩
      refine ⟨e, C n, _, [true, true, false, false], rfl, r, T.x n (by omega), T.base n hn, fun u H6 s6 l6 => ⟨(show 4 ≤ sizeLine by decide), fun z nz => ?_⟩⟩
      have s7 := same_new (o := .lst [V.bl true, V.bl true, V.bl false, V.bl false]) nz
      refine ne_bools (bs := [true, true, false, false]) (s7 _ _ l6) upd_same ⟨false, rfl, iteF ?_⟩
      have s8 := s5.trans (s6.trans s7)
      generalize upd H6 z (.lst [V.bl true, V.bl true, V.bl false, V.bl false]) = H7 at s8
      obtain ⟨e2, he2, r2⟩ := err_at (e4.same s8) hn
      refine ⟨.ref pe, rfl, .int (0 + n), rfl, pe, _, _, .ref e2, rfl, rfl, SqL.of (s8 _ _ l4), at_of (j := n) (by omega) he2, ?_⟩
      refine ⟨e2, n, _, rfl, hn, r2, fun u2 H8 s9 l8 => ⟨22, rfl, by decide, by decide, fun D nD => ?_⟩⟩
      refine lc_range (lo := 0) (n := 22) (fun j H' => Same H8 H' ∧ H' D = some (.lst ((List.range j).map fun k => V.bl (decide (k = n))))) ⟨same_new nD, upd_same⟩ ?_ ?_
      · rintro j H9 hj ⟨sj, lj⟩
        refine ⟨rfl, .int (0 + j), rfl, .int (0 + n), rfl, rfl, ?_⟩
        refine ⟨_, lj, ?_, ?_, ?_⟩
        · rw [List.length_map, List.length_range]
          exact small1000 (by omega)
        · exact fun b o z => by rw [upd_ne (ne_of_none z nD)]; exact sj b o z
        · rw [upd_same, List.range_succ, List.map_append, eq_nat]
          rfl
      · rintro H9 ⟨s10, l9⟩
        have lk : H9 u2 = some (.lst ((((List.range 22).map fun k => decide (k = n))).map V.bl)) := by rw [← kinds_bools]; exact s10 _ _ l8
        have ld : H9 D = some (.lst ((((List.range 22).map fun k => decide (k = n))).map V.bl)) := by rw [← kinds_bools]; exact l9
        exact ne_bools lk ld ⟨false, rfl, iteF ⟨_, _, rfl, s8.trans (s9.trans s10)⟩⟩
    · rintro σ H5 ⟨v6, v7, rfl, s5⟩
      have g5 := e4.same s5
      have l5 := s5 _ _ l4
      have R5 := (R3.same s4).same s5
      obtain ⟨e0, h0, r0⟩ := err_at g5 (i := 0) (by decide)
      refine ⟨.ref pe, rfl, pe, _, 0, .ref e0, rfl, rfl, SqL.of l5, at_of (j := 0) rfl h0, e0, C 0, _, .ref t, rfl, r0, Ti.i_BadAtlas.xf, Ti.i_BadAtlas.n, rfl, .ref t, rfl, ?_⟩
      refine ne_reason R5 ⟨false, rfl, iteF ?_⟩
      obtain ⟨e1, h1, r1⟩ := err_at g5 (i := 1) (by decide)
      obtain ⟨e2, h2, r2⟩ := err_at g5 (i := 2) (by decide)
      obtain ⟨e3, h3, r3⟩ := err_at g5 (i := 3) (by decide)
      refine ⟨.ref pe, rfl, pe, _, 1, .ref e1, rfl, rfl, SqL.of l5, at_of (j := 1) rfl h1, e1, C 1, _, .int num, rfl, r1, Ti.i_BadRoute.xf, Ti.i_BadRoute.n, rfl, ?_⟩
      refine ⟨.ref pe, rfl, pe, _, 2, .ref e2, rfl, rfl, SqL.of l5, at_of (j := 2) rfl h2, e2, C 2, _, .int num, rfl, r2, Ti.i_BadTrip.xf, Ti.i_BadTrip.n, rfl, ?_⟩
      refine ⟨.ref pe, rfl, pe, _, 3, .ref e3, rfl, rfl, SqL.of l5, at_of (j := 3) rfl h3, e3, C 3, _, .int num, rfl, r3, Ti.i_BadText.xf, Ti.i_BadText.n, rfl, (show 3 ≤ sizeLine by decide), fun x nx => ?_⟩
      refine ⟨.int num, rfl, (show 1 ≤ sizeLine by decide), fun y ny => ?_⟩
      refine ⟨y, 3, [.int num], rfl, rfl, upd_same, by decide, by decide, (show 3 ≤ sizeLine by decide), fun z nz => ?_⟩
      have sx := same_new (o := .lst [V.int num, V.int num, V.int num]) nx
      have sy := same_new (o := .lst [V.int num]) ny
      have sz := same_new (o := .lst (List.replicate (3 : Int).toNat [V.int num]).flatten) nz
      have hx := sz _ _ (sy _ _ (upd_same (H := H5) (a := x) (o := .lst [V.int num, V.int num, V.int num])))
      refine ne_ints (ns := [num, num, num]) hx upd_same ⟨false, rfl, iteF ?_⟩
      refine fun e7 H7 n7 s7 r7 => ⟨e7, C 23, _, [false, false, true, false], rfl, r7, T.x 23 (by decide), T.base23, fun u8 H8 s8 l8 => ⟨(show 4 ≤ sizeLine by decide), fun x9 n9 => ?_⟩⟩
      refine ne_bools (bs := [false, false, true, false]) (same_new n9 _ _ l8) upd_same ⟨false, rfl, iteF ?_⟩
      have s9 := same_new (o := .lst [V.bl false, V.bl false, V.bl true, V.bl false]) n9
      refine fun e10 H10 n10 s10 r10 => ⟨e10, C 24, _, [false, false, false, true], rfl, r10, T.x 24 (by decide), T.base24, fun u11 H11 s11 l11 => ⟨(show 4 ≤ sizeLine by decide), fun x12 n12 => ?_⟩⟩
      refine ne_bools (bs := [false, false, false, true]) (same_new n12 _ _ l11) upd_same ⟨false, rfl, iteF ?_⟩
      have s12 := same_new (o := .lst [V.bl false, V.bl false, V.bl false, V.bl true]) n12
      exact ⟨_, _, _, _, _, _, rfl, (hp3.same s4).same (s5.trans (sx.trans (sy.trans (sz.trans (s7.trans (s8.trans (s9.trans (s10.trans (s11.trans s12)))))))))⟩
end
end SM

set_option Elab.async false
set_option linter.all false
set_option maxRecDepth 100000
set_option maxHeartbeats 4000000
namespace SM
open PySem PySem.Spec PyProof.Rows L2
def excB (K : PySem.W.Frag) (D : Addr) : Bool :=
  decide (PySem.W.findIn K (.ref D) "__getattribute__" = some (some (.builtin "BaseException.__getattribute__"))) && (decide (PySem.W.findIn K (.ref D) "__getattr__" = some none) && (decide (PySem.W.subIn K (.ref D) (.type "BaseException") = some true) && (PySem.W.hasDictIn K D &&
    (decide (PySem.W.findIn K (.ref D) "__class__" = some (some (.builtin "object.__class__"))) && (decide (PySem.W.specialIn K (.builtin "object.__class__") "__get__" = some (some (.builtin "getset_descriptor.__get__"))) && (decide (PySem.W.takesIn K (.builtin "object.__class__") = some true) && decide (PySem.W.mroIn K D (.type "object") = some true)))))))
theorem excB_ok {K : PySem.W.Frag} {D : Addr} (h : excB K D = true) : ExcC K D := by
  simp only [excB, Bool.and_eq_true, decide_eq_true_eq] at h
  obtain ⟨h1, h2, h3, h4, h5, h6, h7, h8⟩ := h
  exact ⟨h1, h2, h3, h4, h5, h6, h7, h8⟩
def excsB (K : PySem.W.Frag) (cs : List Addr) : Bool := cs.all fun c => PySem.W.excIn K c VE "ValueError.__new__"
def kitsB (K : PySem.W.Frag) (cs : List Addr) : Bool := (List.range 22).all fun i => (List.range 22).all fun j => decide (PySem.W.kitOne K (.ref (cs.getD i 0)) (.ref (cs.getD j 0)) = some (decide (j = i)))
def basesB (K : PySem.W.Frag) (S D : Addr) (b : List Bool) : Bool :=
  decide (b.length = 4) && (decide (PySem.W.kitOne K (.ref D) (.ref S) = some (b.getD 0 false)) && (decide (PySem.W.kitOne K (.ref D) (.type "ValueError") = some (b.getD 1 false)) && (decide (PySem.W.kitOne K (.ref D) (.type "LookupError") = some (b.getD 2 false)) &&
    decide (PySem.W.kitOne K (.ref D) (.type "RuntimeError") = some (b.getD 3 false)))))
theorem basesB_ok {K : PySem.W.Frag} {S D : Addr} {b : List Bool} (h : basesB K S D b = true) : Bases K S D b := by
  simp only [basesB, Bool.and_eq_true, decide_eq_true_eq] at h
  obtain ⟨h1, h2, h3, h4, h5⟩ := h
  exact ⟨h1, h2, h3, h4, h5⟩
theorem def_mk {K : PySem.W.Frag} {h : Heap} {mg : Str → Option Value} {x : Str} {st : Stmt} {ps : List Str} {f : Addr} {oc : Value} {od an : Option Addr} {osl : Array (Option Value)} {kV doc pm cdv ct : Value} (X : K.In h) (G : h.Ns mainGlobals mg)
    (a : PySem.W.nsIn K mainGlobals x = some (some (.ref f))) (l : K.lookup f = some ⟨oc, od, .func (PySem.W.fnOf x x (defArgs st) (defBody st) (defScope st) .none kV doc pm an cdv ct), osl⟩) (c : PySem.W.codeIn K cdv x = true) (k : PySem.W.keepIn K (.ref f) = true)
    (hb : ∀ (kV doc pm : Value) (an : Option Addr) (cdv ct : Value) (us : List Value), us.length = ps.length → bindArgs (PySem.W.fnOf x x (defArgs st) (defBody st) (defScope st) .none kV doc pm an cdv ct) ⟨us, []⟩ = pure (ps.zip us)) : Def K mg x st ps :=
  ⟨f, _, fun_mk l c k, PySem.W.mg_of X G a, (fun_mk l c k).binds hb⟩
theorem all_of {p : Nat → Bool} {n : Nat} (h : (List.range n).all p = true) {i : Nat} (hi : i < n) : p i = true := List.all_eq_true.mp h i (List.mem_range.mpr hi)
theorem all_mk {P : Program} {w : World} {K : PySem.W.Frag} {h : Heap} {mg : Str → Option Value} {fa : Addr} (X : K.In h) (G : h.Ns mainGlobals mg) (hfa : mg "law" = some (.ref fa))
    {c0 c1 c2 c3 c4 c5 c6 c7 c8 c9 c10 c11 c12 c13 c14 c15 c16 c17 c18 c19 c20 c21 c22 c23 c24 g0 g1 g2 g3 f_pen f_draw f_pick f_made f_kinds f_bases f_reason f_law N0 N1 N2 N3 : Addr} {od_pen an_pen od_draw an_draw od_pick an_pick od_made an_made od_kinds an_kinds od_bases an_bases od_reason an_reason od_law an_law god0 ga0 dd0 god1 ga1 dd1 god2 ga2 dd2 god3 ga3 dd3 : Option Addr} {sl_pen sl_draw sl_pick sl_made sl_kinds sl_bases sl_reason sl_law gs0 gs1 gs2 gs3 : Array (Option Value)} {oc_pen kV_pen dc_pen pm_pen cd_pen ct_pen oc_draw kV_draw dc_draw pm_draw cd_draw ct_draw oc_pick kV_pick dc_pick pm_pick cd_pick ct_pick oc_made kV_made dc_made pm_made cd_made ct_made oc_kinds kV_kinds dc_kinds pm_kinds cd_kinds ct_kinds oc_bases kV_bases dc_bases pm_bases cd_bases ct_bases oc_reason kV_reason dc_reason pm_reason cd_reason ct_reason oc_law kV_law dc_law pm_law cd_law ct_law ogc0 gk0 gd0 gp0 gc0 gt0 ogc1 gk1 gd1 gp1 gc1 gt1 ogc2 gk2 gd2 gp2 gc2 gt2 ogc3 gk3 gd3 gp3 gc3 gt3 : Value} {nm0 q0 nm1 q1 nm2 q2 nm3 q3 : Str} {bs0 sub0 bs1 sub1 bs2 sub2 bs3 sub3 : List Value} {sn0 sn1 sn2 sn3 : List Str} {ab0 ab1 ab2 ab3 : Bool} {col0 col1 col2 col3 : Option Bool} {m00 m01 m02 m03 m05 m10 m11 m12 m13 m15 m20 m21 m22 m23 m25 m30 m31 m32 m33 m35 : Option Value}
    (a0 : PySem.W.nsIn K mainGlobals "BadAtlas" = some (some (.ref c0)))
    (a1 : PySem.W.nsIn K mainGlobals "BadRoute" = some (some (.ref c1)))
    (a2 : PySem.W.nsIn K mainGlobals "BadTrip" = some (some (.ref c2)))
    (a3 : PySem.W.nsIn K mainGlobals "BadText" = some (some (.ref c3)))
    (a4 : PySem.W.nsIn K mainGlobals "UnknownMap" = some (some (.ref c4)))
    (a5 : PySem.W.nsIn K mainGlobals "BadAddress" = some (some (.ref c5)))
    (a6 : PySem.W.nsIn K mainGlobals "BadPlace" = some (some (.ref c6)))
    (a7 : PySem.W.nsIn K mainGlobals "BadPoint" = some (some (.ref c7)))
    (a8 : PySem.W.nsIn K mainGlobals "BadPort" = some (some (.ref c8)))
    (a9 : PySem.W.nsIn K mainGlobals "BadStep" = some (some (.ref c9)))
    (a10 : PySem.W.nsIn K mainGlobals "BadCost" = some (some (.ref c10)))
    (a11 : PySem.W.nsIn K mainGlobals "BadDepth" = some (some (.ref c11)))
    (a12 : PySem.W.nsIn K mainGlobals "BadLabel" = some (some (.ref c12)))
    (a13 : PySem.W.nsIn K mainGlobals "BadModulus" = some (some (.ref c13)))
    (a14 : PySem.W.nsIn K mainGlobals "BadSlot" = some (some (.ref c14)))
    (a15 : PySem.W.nsIn K mainGlobals "BadEdit" = some (some (.ref c15)))
    (a16 : PySem.W.nsIn K mainGlobals "BadCommand" = some (some (.ref c16)))
    (a17 : PySem.W.nsIn K mainGlobals "NoEdge" = some (some (.ref c17)))
    (a18 : PySem.W.nsIn K mainGlobals "NoRoute" = some (some (.ref c18)))
    (a19 : PySem.W.nsIn K mainGlobals "NotInside" = some (some (.ref c19)))
    (a20 : PySem.W.nsIn K mainGlobals "NotJoined" = some (some (.ref c20)))
    (a21 : PySem.W.nsIn K mainGlobals "TooLarge" = some (some (.ref c21)))
    (a22 : PySem.W.nsIn K mainGlobals "SlotmapsError" = some (some (.ref c22)))
    (a23 : PySem.W.nsIn K mainGlobals "NothingToDo" = some (some (.ref c23)))
    (a24 : PySem.W.nsIn K mainGlobals "NotReady" = some (some (.ref c24)))
    (z_len : PySem.W.nsIn K mainGlobals "len" = some none)
    (z_abs : PySem.W.nsIn K mainGlobals "abs" = some none)
    (z_list : PySem.W.nsIn K mainGlobals "list" = some none)
    (z_isinstance : PySem.W.nsIn K mainGlobals "isinstance" = some none)
    (z_range : PySem.W.nsIn K mainGlobals "range" = some none)
    (z_ValueError : PySem.W.nsIn K mainGlobals "ValueError" = some none)
    (z_LookupError : PySem.W.nsIn K mainGlobals "LookupError" = some none)
    (z_RuntimeError : PySem.W.nsIn K mainGlobals "RuntimeError" = some none)
    (k4 : PySem.W.keepIn K (.ref c4) = true)
    (k5 : PySem.W.keepIn K (.ref c5) = true)
    (k6 : PySem.W.keepIn K (.ref c6) = true)
    (k7 : PySem.W.keepIn K (.ref c7) = true)
    (k8 : PySem.W.keepIn K (.ref c8) = true)
    (k9 : PySem.W.keepIn K (.ref c9) = true)
    (k10 : PySem.W.keepIn K (.ref c10) = true)
    (k11 : PySem.W.keepIn K (.ref c11) = true)
    (k12 : PySem.W.keepIn K (.ref c12) = true)
    (k13 : PySem.W.keepIn K (.ref c13) = true)
    (k14 : PySem.W.keepIn K (.ref c14) = true)
    (k15 : PySem.W.keepIn K (.ref c15) = true)
    (k16 : PySem.W.keepIn K (.ref c16) = true)
    (k17 : PySem.W.keepIn K (.ref c17) = true)
    (k18 : PySem.W.keepIn K (.ref c18) = true)
    (k19 : PySem.W.keepIn K (.ref c19) = true)
    (k20 : PySem.W.keepIn K (.ref c20) = true)
    (k21 : PySem.W.keepIn K (.ref c21) = true)
    (k23 : PySem.W.keepIn K (.ref c23) = true)
    (k24 : PySem.W.keepIn K (.ref c24) = true)
    (qs : excsB K [c4, c5, c6, c7, c8, c9, c10, c11, c12, c13, c14, c15, c16, c17, c18, c19, c20, c21] = true)
    (q23 : PySem.W.excIn K c23 LE "LookupError.__new__" = true)
    (q24 : PySem.W.excIn K c24 RE "RuntimeError.__new__" = true)
    (hx : ([c0, c1, c2, c3, c4, c5, c6, c7, c8, c9, c10, c11, c12, c13, c14, c15, c16, c17, c18, c19, c20, c21, c22, c23, c24].all (excB K)) = true)
    (hk : kitsB K [c0, c1, c2, c3, c4, c5, c6, c7, c8, c9, c10, c11, c12, c13, c14, c15, c16, c17, c18, c19, c20, c21, c22, c23, c24] = true)
    (hb : ((List.range 22).all fun i => basesB K c22 ([c0, c1, c2, c3, c4, c5, c6, c7, c8, c9, c10, c11, c12, c13, c14, c15, c16, c17, c18, c19, c20, c21, c22, c23, c24].getD i 0) [true, true, false, false]) = true)
    (hb23 : basesB K c22 c23 [false, false, true, false] = true)
    (hb24 : basesB K c22 c24 [false, false, false, true] = true)
    (xL0 : K.lookup c0 = some (excClassObj nm0 q0 c0 N0 bs0 [.ref c22, .type "ValueError", .type "Exception", .type "BaseException", .type "object"] true sn0 sub0 ab0 col0 dd0 m00 m01 m02 m03 m05 "ValueError.__new__"))
    (sa0 : PySem.W.findIn K (.ref c0) "__setattr__" = some (some (.builtin "object.__setattr__")))
    (ex0 : PySem.W.subIn K (.ref c0) (.type "BaseException") = some true)
    (ty0 : PySem.W.typeIn K (.ref c0) = some (.type "type"))
    (kc0 : PySem.W.keepIn K (.ref c0) = true)
    (ii0 : PySem.W.findIn K (.ref c0) "__init__" = some (some (.ref g0)))
    (it0 : PySem.W.typeIn K (.ref g0) = some (.type "function"))
    (nf0 : PySem.W.findIn K (.ref c0) "reason" = some none)
    (xf0 : xfB K c0 = true)
    (lg0 : K.lookup g0 = some ⟨ogc0, god0, .func (PySem.W.fnOf "__init__" "BadAtlas.__init__" (defArgs in0) (defBody in0) (defScope in0) .none gk0 gd0 gp0 ga0 gc0 gt0), gs0⟩)
    (cg0 : PySem.W.codeIn K gc0 "BadAtlas.__init__" = true)
    (kg0 : PySem.W.keepIn K (.ref g0) = true)
    (xL1 : K.lookup c1 = some (excClassObj nm1 q1 c1 N1 bs1 [.ref c22, .type "ValueError", .type "Exception", .type "BaseException", .type "object"] true sn1 sub1 ab1 col1 dd1 m10 m11 m12 m13 m15 "ValueError.__new__"))
    (sa1 : PySem.W.findIn K (.ref c1) "__setattr__" = some (some (.builtin "object.__setattr__")))
    (ex1 : PySem.W.subIn K (.ref c1) (.type "BaseException") = some true)
    (ty1 : PySem.W.typeIn K (.ref c1) = some (.type "type"))
    (kc1 : PySem.W.keepIn K (.ref c1) = true)
    (ii1 : PySem.W.findIn K (.ref c1) "__init__" = some (some (.ref g1)))
    (it1 : PySem.W.typeIn K (.ref g1) = some (.type "function"))
    (nf1 : PySem.W.findIn K (.ref c1) "position" = some none)
    (xf1 : xfB K c1 = true)
    (lg1 : K.lookup g1 = some ⟨ogc1, god1, .func (PySem.W.fnOf "__init__" "BadRoute.__init__" (defArgs in1) (defBody in1) (defScope in1) .none gk1 gd1 gp1 ga1 gc1 gt1), gs1⟩)
    (cg1 : PySem.W.codeIn K gc1 "BadRoute.__init__" = true)
    (kg1 : PySem.W.keepIn K (.ref g1) = true)
    (xL2 : K.lookup c2 = some (excClassObj nm2 q2 c2 N2 bs2 [.ref c22, .type "ValueError", .type "Exception", .type "BaseException", .type "object"] true sn2 sub2 ab2 col2 dd2 m20 m21 m22 m23 m25 "ValueError.__new__"))
    (sa2 : PySem.W.findIn K (.ref c2) "__setattr__" = some (some (.builtin "object.__setattr__")))
    (ex2 : PySem.W.subIn K (.ref c2) (.type "BaseException") = some true)
    (ty2 : PySem.W.typeIn K (.ref c2) = some (.type "type"))
    (kc2 : PySem.W.keepIn K (.ref c2) = true)
    (ii2 : PySem.W.findIn K (.ref c2) "__init__" = some (some (.ref g2)))
    (it2 : PySem.W.typeIn K (.ref g2) = some (.type "function"))
    (nf2 : PySem.W.findIn K (.ref c2) "position" = some none)
    (xf2 : xfB K c2 = true)
    (lg2 : K.lookup g2 = some ⟨ogc2, god2, .func (PySem.W.fnOf "__init__" "BadTrip.__init__" (defArgs in2) (defBody in2) (defScope in2) .none gk2 gd2 gp2 ga2 gc2 gt2), gs2⟩)
    (cg2 : PySem.W.codeIn K gc2 "BadTrip.__init__" = true)
    (kg2 : PySem.W.keepIn K (.ref g2) = true)
    (xL3 : K.lookup c3 = some (excClassObj nm3 q3 c3 N3 bs3 [.ref c22, .type "ValueError", .type "Exception", .type "BaseException", .type "object"] true sn3 sub3 ab3 col3 dd3 m30 m31 m32 m33 m35 "ValueError.__new__"))
    (sa3 : PySem.W.findIn K (.ref c3) "__setattr__" = some (some (.builtin "object.__setattr__")))
    (ex3 : PySem.W.subIn K (.ref c3) (.type "BaseException") = some true)
    (ty3 : PySem.W.typeIn K (.ref c3) = some (.type "type"))
    (kc3 : PySem.W.keepIn K (.ref c3) = true)
    (ii3 : PySem.W.findIn K (.ref c3) "__init__" = some (some (.ref g3)))
    (it3 : PySem.W.typeIn K (.ref g3) = some (.type "function"))
    (nf3 : PySem.W.findIn K (.ref c3) "line" = some none)
    (xf3 : xfB K c3 = true)
    (lg3 : K.lookup g3 = some ⟨ogc3, god3, .func (PySem.W.fnOf "__init__" "BadText.__init__" (defArgs in3) (defBody in3) (defScope in3) .none gk3 gd3 gp3 ga3 gc3 gt3), gs3⟩)
    (cg3 : PySem.W.codeIn K gc3 "BadText.__init__" = true)
    (kg3 : PySem.W.keepIn K (.ref g3) = true)
    (d_pen : PySem.W.nsIn K mainGlobals "_law_pen" = some (some (.ref f_pen)))
    (l_pen : K.lookup f_pen = some ⟨oc_pen, od_pen, .func (PySem.W.fnOf "_law_pen" "_law_pen" (defArgs s_pen) (defBody s_pen) (defScope s_pen) .none kV_pen dc_pen pm_pen an_pen cd_pen ct_pen), sl_pen⟩)
    (c_pen : PySem.W.codeIn K cd_pen "_law_pen" = true)
    (k_pen : PySem.W.keepIn K (.ref f_pen) = true)
    (d_draw : PySem.W.nsIn K mainGlobals "_law_draw" = some (some (.ref f_draw)))
    (l_draw : K.lookup f_draw = some ⟨oc_draw, od_draw, .func (PySem.W.fnOf "_law_draw" "_law_draw" (defArgs s_draw) (defBody s_draw) (defScope s_draw) .none kV_draw dc_draw pm_draw an_draw cd_draw ct_draw), sl_draw⟩)
    (c_draw : PySem.W.codeIn K cd_draw "_law_draw" = true)
    (k_draw : PySem.W.keepIn K (.ref f_draw) = true)
    (d_pick : PySem.W.nsIn K mainGlobals "_law_pick" = some (some (.ref f_pick)))
    (l_pick : K.lookup f_pick = some ⟨oc_pick, od_pick, .func (PySem.W.fnOf "_law_pick" "_law_pick" (defArgs s_pick) (defBody s_pick) (defScope s_pick) .none kV_pick dc_pick pm_pick an_pick cd_pick ct_pick), sl_pick⟩)
    (c_pick : PySem.W.codeIn K cd_pick "_law_pick" = true)
    (k_pick : PySem.W.keepIn K (.ref f_pick) = true)
    (d_made : PySem.W.nsIn K mainGlobals "_law_made" = some (some (.ref f_made)))
    (l_made : K.lookup f_made = some ⟨oc_made, od_made, .func (PySem.W.fnOf "_law_made" "_law_made" (defArgs s_made) (defBody s_made) (defScope s_made) .none kV_made dc_made pm_made an_made cd_made ct_made), sl_made⟩)
    (c_made : PySem.W.codeIn K cd_made "_law_made" = true)
    (k_made : PySem.W.keepIn K (.ref f_made) = true)
    (d_kinds : PySem.W.nsIn K mainGlobals "_law_kinds" = some (some (.ref f_kinds)))
    (l_kinds : K.lookup f_kinds = some ⟨oc_kinds, od_kinds, .func (PySem.W.fnOf "_law_kinds" "_law_kinds" (defArgs s_kinds) (defBody s_kinds) (defScope s_kinds) .none kV_kinds dc_kinds pm_kinds an_kinds cd_kinds ct_kinds), sl_kinds⟩)
    (c_kinds : PySem.W.codeIn K cd_kinds "_law_kinds" = true)
    (k_kinds : PySem.W.keepIn K (.ref f_kinds) = true)
    (d_bases : PySem.W.nsIn K mainGlobals "_law_bases" = some (some (.ref f_bases)))
    (l_bases : K.lookup f_bases = some ⟨oc_bases, od_bases, .func (PySem.W.fnOf "_law_bases" "_law_bases" (defArgs s_bases) (defBody s_bases) (defScope s_bases) .none kV_bases dc_bases pm_bases an_bases cd_bases ct_bases), sl_bases⟩)
    (c_bases : PySem.W.codeIn K cd_bases "_law_bases" = true)
    (k_bases : PySem.W.keepIn K (.ref f_bases) = true)
    (d_reason : PySem.W.nsIn K mainGlobals "_law_reason" = some (some (.ref f_reason)))
    (l_reason : K.lookup f_reason = some ⟨oc_reason, od_reason, .func (PySem.W.fnOf "_law_reason" "_law_reason" (defArgs s_reason) (defBody s_reason) (defScope s_reason) .none kV_reason dc_reason pm_reason an_reason cd_reason ct_reason), sl_reason⟩)
    (c_reason : PySem.W.codeIn K cd_reason "_law_reason" = true)
    (k_reason : PySem.W.keepIn K (.ref f_reason) = true)
    (d_law : PySem.W.nsIn K mainGlobals "law" = some (some (.ref f_law)))
    (l_law : K.lookup f_law = some ⟨oc_law, od_law, .func (PySem.W.fnOf "law" "law" (defArgs s_law) (defBody s_law) (defScope s_law) .none kV_law dc_law pm_law an_law cd_law ct_law), sl_law⟩)
    (c_law : PySem.W.codeIn K cd_law "law" = true)
    (k_law : PySem.W.keepIn K (.ref f_law) = true) :
    ∃ fd : FuncData, (∀ (s : Shared) (v : Value), BindsTo s fd ⟨[v], []⟩ [("script", v)]) ∧ ∀ base : Heap, K.In base → base.Ns mainGlobals mg → FnOk P w K mg base CX0 4 fa fd ["script"] (spLaw K) := by
  have e := hfa.symm.trans (PySem.W.mg_of X G d_law)
  cases e
  let C : Nat → Addr := fun i => ([c0, c1, c2, c3, c4, c5, c6, c7, c8, c9, c10, c11, c12, c13, c14, c15, c16, c17, c18, c19, c20, c21, c22, c23, c24] : List Addr).getD i 0
  let I : Nat → Addr := fun i => ([g0, g1, g2, g3] : List Addr).getD i 0
  have qv : ∀ c, c ∈ [c4, c5, c6, c7, c8, c9, c10, c11, c12, c13, c14, c15, c16, c17, c18, c19, c20, c21] → PySem.W.excIn K c VE "ValueError.__new__" = true := fun c hc => List.all_eq_true.mp qs c hc
  have T : Cls0 K mg C :=
    { b_len := PySem.W.mg_none_of X G z_len, b_abs := PySem.W.mg_none_of X G z_abs, b_list := PySem.W.mg_none_of X G z_list, b_isinstance := PySem.W.mg_none_of X G z_isinstance, b_range := PySem.W.mg_none_of X G z_range, b_ValueError := PySem.W.mg_none_of X G z_ValueError, b_LookupError := PySem.W.mg_none_of X G z_LookupError, b_RuntimeError := PySem.W.mg_none_of X G z_RuntimeError,
      g_BadAtlas := PySem.W.mg_of X G a0,
      g_BadRoute := PySem.W.mg_of X G a1,
      g_BadTrip := PySem.W.mg_of X G a2,
      g_BadText := PySem.W.mg_of X G a3,
      g_UnknownMap := PySem.W.mg_of X G a4,
      g_BadAddress := PySem.W.mg_of X G a5,
      g_BadPlace := PySem.W.mg_of X G a6,
      g_BadPoint := PySem.W.mg_of X G a7,
      g_BadPort := PySem.W.mg_of X G a8,
      g_BadStep := PySem.W.mg_of X G a9,
      g_BadCost := PySem.W.mg_of X G a10,
      g_BadDepth := PySem.W.mg_of X G a11,
      g_BadLabel := PySem.W.mg_of X G a12,
      g_BadModulus := PySem.W.mg_of X G a13,
      g_BadSlot := PySem.W.mg_of X G a14,
      g_BadEdit := PySem.W.mg_of X G a15,
      g_BadCommand := PySem.W.mg_of X G a16,
      g_NoEdge := PySem.W.mg_of X G a17,
      g_NoRoute := PySem.W.mg_of X G a18,
      g_NotInside := PySem.W.mg_of X G a19,
      g_NotJoined := PySem.W.mg_of X G a20,
      g_TooLarge := PySem.W.mg_of X G a21,
      g_SlotmapsError := PySem.W.mg_of X G a22,
      e_UnknownMap := ⟨PySem.W.mg_of X G a4, k4, qv c4 (by simp)⟩,
      e_BadAddress := ⟨PySem.W.mg_of X G a5, k5, qv c5 (by simp)⟩,
      e_BadPlace := ⟨PySem.W.mg_of X G a6, k6, qv c6 (by simp)⟩,
      e_BadPoint := ⟨PySem.W.mg_of X G a7, k7, qv c7 (by simp)⟩,
      e_BadPort := ⟨PySem.W.mg_of X G a8, k8, qv c8 (by simp)⟩,
      e_BadStep := ⟨PySem.W.mg_of X G a9, k9, qv c9 (by simp)⟩,
      e_BadCost := ⟨PySem.W.mg_of X G a10, k10, qv c10 (by simp)⟩,
      e_BadDepth := ⟨PySem.W.mg_of X G a11, k11, qv c11 (by simp)⟩,
      e_BadLabel := ⟨PySem.W.mg_of X G a12, k12, qv c12 (by simp)⟩,
      e_BadModulus := ⟨PySem.W.mg_of X G a13, k13, qv c13 (by simp)⟩,
      e_BadSlot := ⟨PySem.W.mg_of X G a14, k14, qv c14 (by simp)⟩,
      e_BadEdit := ⟨PySem.W.mg_of X G a15, k15, qv c15 (by simp)⟩,
      e_BadCommand := ⟨PySem.W.mg_of X G a16, k16, qv c16 (by simp)⟩,
      e_NoEdge := ⟨PySem.W.mg_of X G a17, k17, qv c17 (by simp)⟩,
      e_NoRoute := ⟨PySem.W.mg_of X G a18, k18, qv c18 (by simp)⟩,
      e_NotInside := ⟨PySem.W.mg_of X G a19, k19, qv c19 (by simp)⟩,
      e_NotJoined := ⟨PySem.W.mg_of X G a20, k20, qv c20 (by simp)⟩,
      e_TooLarge := ⟨PySem.W.mg_of X G a21, k21, qv c21 (by simp)⟩,
      e_NothingToDo := ⟨PySem.W.mg_of X G a23, k23, q23⟩, e_NotReady := ⟨PySem.W.mg_of X G a24, k24, q24⟩,
      x := fun i hi => excB_ok (List.all_eq_true.mp hx (C i) (by
        have hl : i < ([c0, c1, c2, c3, c4, c5, c6, c7, c8, c9, c10, c11, c12, c13, c14, c15, c16, c17, c18, c19, c20, c21, c22, c23, c24] : List Addr).length := hi
        show ([c0, c1, c2, c3, c4, c5, c6, c7, c8, c9, c10, c11, c12, c13, c14, c15, c16, c17, c18, c19, c20, c21, c22, c23, c24] : List Addr).getD i 0 ∈ _
        rw [List.getD_eq_getElem?_getD, List.getElem?_eq_getElem hl]
        exact List.getElem_mem hl)),
      kit := fun i hi j hj => of_decide_eq_true (all_of (all_of hk hi) hj),
      base := fun i hi => basesB_ok (all_of hb hi), base23 := basesB_ok hb23, base24 := basesB_ok hb24 }
  have o0 : OexC K (C 0) := { cls := ⟨nm0, q0, N0, bs0, _, sn0, sub0, ab0, col0, dd0, m00, m01, m02, m03, m05, xL0, rfl⟩, sa := sa0, exC := ex0, tyC := ty0, kC := kc0 }
  have o1 : OexC K (C 1) := { cls := ⟨nm1, q1, N1, bs1, _, sn1, sub1, ab1, col1, dd1, m10, m11, m12, m13, m15, xL1, rfl⟩, sa := sa1, exC := ex1, tyC := ty1, kC := kc1 }
  have o2 : OexC K (C 2) := { cls := ⟨nm2, q2, N2, bs2, _, sn2, sub2, ab2, col2, dd2, m20, m21, m22, m23, m25, xL2, rfl⟩, sa := sa2, exC := ex2, tyC := ty2, kC := kc2 }
  have o3 : OexC K (C 3) := { cls := ⟨nm3, q3, N3, bs3, _, sn3, sub3, ab3, col3, dd3, m30, m31, m32, m33, m35, xL3, rfl⟩, sa := sa3, exC := ex3, tyC := ty3, kC := kc3 }
  have Ti : Inits K mg C I := ⟨⟨PySem.W.mg_of X G a0, o0, ii0, it0, nf0, xfB_ok xf0⟩, ⟨PySem.W.mg_of X G a1, o1, ii1, it1, nf1, xfB_ok xf1⟩, ⟨PySem.W.mg_of X G a2, o2, ii2, it2, nf2, xfB_ok xf2⟩, ⟨PySem.W.mg_of X G a3, o3, ii3, it3, nf3, xfB_ok xf3⟩⟩
  have G0 := fun_mk (st := in0) lg0 cg0 kg0
  have B0 := G0.binds (ps := ["self", "reason"]) fun _ _ _ _ _ _ us hl => match us, hl with | [_, _], _ => rfl
  have G1 := fun_mk (st := in1) lg1 cg1 kg1
  have B1 := G1.binds (ps := ["self", "position"]) fun _ _ _ _ _ _ us hl => match us, hl with | [_, _], _ => rfl
  have G2 := fun_mk (st := in2) lg2 cg2 kg2
  have B2 := G2.binds (ps := ["self", "position"]) fun _ _ _ _ _ _ us hl => match us, hl with | [_, _], _ => rfl
  have G3 := fun_mk (st := in3) lg3 cg3 kg3
  have B3 := G3.binds (ps := ["self", "line"]) fun _ _ _ _ _ _ us hl => match us, hl with | [_, _], _ => rfl
  have D_pen : Def K mg "_law_pen" s_pen ["script"] := def_mk X G d_pen l_pen c_pen k_pen fun _ _ _ _ _ _ us hl => match us, hl with | [_], _ => rfl
  have D_draw : Def K mg "_law_draw" s_draw ["pen", "many"] := def_mk X G d_draw l_draw c_draw k_draw fun _ _ _ _ _ _ us hl => match us, hl with | [_, _], _ => rfl
  have D_pick : Def K mg "_law_pick" s_pick ["pen", "items"] := def_mk X G d_pick l_pick c_pick k_pick fun _ _ _ _ _ _ us hl => match us, hl with | [_, _], _ => rfl
  have D_made : Def K mg "_law_made" s_made ["reason", "number"] := def_mk X G d_made l_made c_made k_made fun _ _ _ _ _ _ us hl => match us, hl with | [_, _], _ => rfl
  have D_kinds : Def K mg "_law_kinds" s_kinds ["error"] := def_mk X G d_kinds l_kinds c_kinds k_kinds fun _ _ _ _ _ _ us hl => match us, hl with | [_], _ => rfl
  have D_bases : Def K mg "_law_bases" s_bases ["error"] := def_mk X G d_bases l_bases c_bases k_bases fun _ _ _ _ _ _ us hl => match us, hl with | [_], _ => rfl
  have D_reason : Def K mg "_law_reason" s_reason ["pen"] := def_mk X G d_reason l_reason c_reason k_reason fun _ _ _ _ _ _ us hl => match us, hl with | [_], _ => rfl
  have FL := fun_mk (st := s_law) l_law c_law k_law
  refine ⟨PySem.W.fnOf "law" "law" (defArgs s_law) (defBody s_law) (defScope s_law) .none kV_law dc_law pm_law an_law cd_law ct_law, fun s v => .of_eq rfl, fun base _ _ => ?_⟩
  have Od : Ok P w K mg base CX0 "_law_draw" ["pen", "many"] 1 spDraw := ok_draw ⟨T.b_len, T.b_abs⟩ D_draw
  have Op := ok_pick (P := P) (w := w) (base := base) T D_pick Od
  exact ok_law T Ti FL (ok_pen T D_pen) Od (ok_reason D_reason Od Op) (ok_made T Ti D_made (ok_in0 G0 o0 nf0) B0 (ok_in1 G1 o1 nf1) B1 (ok_in2 G2 o2 nf2) B2 (ok_in3 G3 o3 nf3) B3) (ok_kinds T D_kinds) (ok_bases T D_bases)
end SM

set_option Elab.async false
open PySem PySem.W PyProof.Rows
set_option maxRecDepth 100000 in
set_option maxHeartbeats 0 in
open_top hd87 for PySem.Challenge.rw_slotmaps_k87_error_classes

set_option Elab.async false
open PySem PySem.W PyProof.Rows
set_option maxRecDepth 100000 in
set_option maxHeartbeats 0 in
theorem PySem.Challenge.cw_slotmaps_k87_error_classes_holds : PySem.Challenge.rw_slotmaps_k87_error_classes.Holds :=
  hd87 (by
    k_fill
    refine L2.walk_of (l := PySem.Challenge.rw_slotmaps_k87_error_classes) (n := 63) (k := 4) (x := "script") (CX := fun _ => L2.CX0) (sp := fun w => SM.spLaw (hd87.heap_39 w.params)) rfl (by decide) rfl ⟨rfl, by decide, by decide⟩ (fun w h Y => PySem.W.kIn_of Y) ?F (fun _ _ a ns hl _ hS => ⟨a, ns, rfl, hS, hl, fun _ => rfl⟩) (fun _ _ _ _ _ h => h)
    case F =>
      intro w mg fa h KX G hmg
      refine' SM.all_mk KX G hmg ?a0 ?a1 ?a2 ?a3 ?a4 ?a5 ?a6 ?a7 ?a8 ?a9 ?a10 ?a11 ?a12 ?a13 ?a14 ?a15 ?a16 ?a17 ?a18 ?a19 ?a20 ?a21 ?a22 ?a23 ?a24 ?z_len ?z_abs ?z_list ?z_isinstance ?z_range ?z_ValueError ?z_LookupError ?z_RuntimeError ?k4 ?k5 ?k6 ?k7 ?k8 ?k9 ?k10 ?k11 ?k12 ?k13 ?k14 ?k15 ?k16 ?k17 ?k18 ?k19 ?k20 ?k21 ?k23 ?k24 ?qs ?q23 ?q24 ?hx ?hk ?hb ?hb23 ?hb24 ?xL0 ?sa0 ?ex0 ?ty0 ?kc0 ?ii0 ?it0 ?nf0 ?xf0 ?lg0 ?cg0 ?kg0 ?xL1 ?sa1 ?ex1 ?ty1 ?kc1 ?ii1 ?it1 ?nf1 ?xf1 ?lg1 ?cg1 ?kg1 ?xL2 ?sa2 ?ex2 ?ty2 ?kc2 ?ii2 ?it2 ?nf2 ?xf2 ?lg2 ?cg2 ?kg2 ?xL3 ?sa3 ?ex3 ?ty3 ?kc3 ?ii3 ?it3 ?nf3 ?xf3 ?lg3 ?cg3 ?kg3 ?d_pen ?l_pen ?c_pen ?k_pen ?d_draw ?l_draw ?c_draw ?k_draw ?d_pick ?l_pick ?c_pick ?k_pick ?d_made ?l_made ?c_made ?k_made ?d_kinds ?l_kinds ?c_kinds ?k_kinds ?d_bases ?l_bases ?c_bases ?k_bases ?d_reason ?l_reason ?c_reason ?k_reason ?d_law ?l_law ?c_law ?k_law
      (case a0 => k_is)
      (case a1 => k_is)
      (case a2 => k_is)
      (case a3 => k_is)
      (case a4 => k_is)
      (case a5 => k_is)
      (case a6 => k_is)
      (case a7 => k_is)
      (case a8 => k_is)
      (case a9 => k_is)
      (case a10 => k_is)
      (case a11 => k_is)
      (case a12 => k_is)
      (case a13 => k_is)
      (case a14 => k_is)
      (case a15 => k_is)
      (case a16 => k_is)
      (case a17 => k_is)
      (case a18 => k_is)
      (case a19 => k_is)
      (case a20 => k_is)
      (case a21 => k_is)
      (case a22 => k_is)
      (case a23 => k_is)
      (case a24 => k_is)
      (case z_len => k_is)
      (case z_abs => k_is)
      (case z_list => k_is)
      (case z_isinstance => k_is)
      (case z_range => k_is)
      (case z_ValueError => k_is)
      (case z_LookupError => k_is)
      (case z_RuntimeError => k_is)
      (case k4 => k_is)
      (case k5 => k_is)
      (case k6 => k_is)
      (case k7 => k_is)
      (case k8 => k_is)
      (case k9 => k_is)
      (case k10 => k_is)
      (case k11 => k_is)
      (case k12 => k_is)
      (case k13 => k_is)
      (case k14 => k_is)
      (case k15 => k_is)
      (case k16 => k_is)
      (case k17 => k_is)
      (case k18 => k_is)
      (case k19 => k_is)
      (case k20 => k_is)
      (case k21 => k_is)
      (case k23 => k_is)
      (case k24 => k_is)
      (case qs => kernel_rfl)
      (case q23 => kernel_rfl)
      (case q24 => kernel_rfl)
      (case hx => kernel_rfl)
      (case hk => kernel_rfl)
      (case hb => kernel_rfl)
      (case hb23 => kernel_rfl)
      (case hb24 => kernel_rfl)
      (case xL0 => k_is)
      (case sa0 => k_is)
      (case ex0 => k_is)
      (case ty0 => k_is)
      (case kc0 => k_is)
      (case ii0 => k_is)
      (case it0 => k_is)
      (case nf0 => k_is)
      (case xf0 => kernel_rfl)
      (case lg0 => k_is)
      (case cg0 => k_is)
      (case kg0 => k_is)
      (case xL1 => k_is)
      (case sa1 => k_is)
      (case ex1 => k_is)
      (case ty1 => k_is)
      (case kc1 => k_is)
      (case ii1 => k_is)
      (case it1 => k_is)
      (case nf1 => k_is)
      (case xf1 => kernel_rfl)
      (case lg1 => k_is)
      (case cg1 => k_is)
      (case kg1 => k_is)
      (case xL2 => k_is)
      (case sa2 => k_is)
      (case ex2 => k_is)
      (case ty2 => k_is)
      (case kc2 => k_is)
      (case ii2 => k_is)
      (case it2 => k_is)
      (case nf2 => k_is)
      (case xf2 => kernel_rfl)
      (case lg2 => k_is)
      (case cg2 => k_is)
      (case kg2 => k_is)
      (case xL3 => k_is)
      (case sa3 => k_is)
      (case ex3 => k_is)
      (case ty3 => k_is)
      (case kc3 => k_is)
      (case ii3 => k_is)
      (case it3 => k_is)
      (case nf3 => k_is)
      (case xf3 => kernel_rfl)
      (case lg3 => k_is)
      (case cg3 => k_is)
      (case kg3 => k_is)
      (case d_pen => k_is)
      (case l_pen => k_is)
      (case c_pen => k_is)
      (case k_pen => k_is)
      (case d_draw => k_is)
      (case l_draw => k_is)
      (case c_draw => k_is)
      (case k_draw => k_is)
      (case d_pick => k_is)
      (case l_pick => k_is)
      (case c_pick => k_is)
      (case k_pick => k_is)
      (case d_made => k_is)
      (case l_made => k_is)
      (case c_made => k_is)
      (case k_made => k_is)
      (case d_kinds => k_is)
      (case l_kinds => k_is)
      (case c_kinds => k_is)
      (case k_kinds => k_is)
      (case d_bases => k_is)
      (case l_bases => k_is)
      (case c_bases => k_is)
      (case k_bases => k_is)
      (case d_reason => k_is)
      (case l_reason => k_is)
      (case c_reason => k_is)
      (case k_reason => k_is)
      (case d_law => k_is)
      (case l_law => k_is)
      (case c_law => k_is)
      (case k_law => k_is))
