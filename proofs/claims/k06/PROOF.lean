import PyProof.Rows.All
import Wide.All
import OpenK.AllK
import Wide.FinOn
import HandS.ForMost
import HandS.Wide
import HandS.Style
import HandS.Sort
import HandS.Conv
import HandS.Codes
import PyProof.StrBlock2
import PyProof.Rows.StrMeet
import HandS.SortRule
import PyProof.Rows.SortKeyStr
import HandS.JoinGen
import HandS.AnyAll
import PyProof.TupleOfGen
import PyProof.WalksMore
import HandS.SetTxt0
import HandS.Set
import HandS.SetBool
import HandS.EndTab
import PyProof.ReprRoads
import PyProof.StrLawsRepr
import HandS.TupLe
import HandS.EndOwn
import HandS.NestedK
import PySem.Challenge.RW_lotkept_k06_unions_subsets_holders
set_option Elab.async false
set_option linter.all false
set_option maxRecDepth 100000
namespace Lk
open PySem PySem.Spec PyProof.Rows L2
def topS (i : Nat) : Stmt := PySem.Challenge.pw_lotkept_k06_unions_subsets_holders.main.body.getD i (.Pass ⟨0, 0, 0, 0⟩)
abbrev sSource : Stmt := topS 6
abbrev sDraw : Stmt := topS 7
abbrev sPick : Stmt := topS 8
theorem scSource : FnScope ["_law_script", "_law_cells", "_law_digest", "_law_cell"] ["_law_script"] (defScope sSource) := ⟨rfl, rfl, rfl, by decide +kernel, rfl, by decide +kernel, by decide +kernel⟩
theorem scDraw : FnScope ["_law_source_here", "_law_limit", "_law_cell", "_law_mixed"] ["_law_source_here", "_law_limit"] (defScope sDraw) := ⟨rfl, rfl, rfl, by decide +kernel, rfl, by decide +kernel, by decide +kernel⟩
theorem scPick : FnScope ["_law_source_here", "_law_options"] ["_law_source_here", "_law_options"] (defScope sPick) := ⟨rfl, rfl, rfl, by decide +kernel, rfl, by decide +kernel, by decide +kernel⟩

/-! ### the source of draws -/
def kC : Key := Sum.inr "cells"
def kD : Key := Sum.inr "digest"
def kN : Key := Sum.inr "count"
theorem nCD : ¬ kC = kD := by decide +kernel
theorem nCN : ¬ kC = kN := by decide +kernel
theorem nDN : ¬ kD = kN := by decide +kernel
def srcK (c : Addr) (g k : Int) : List (Key × V) := [(kC, .ref c), (kD, .int g), (kN, .int k)]
theorem srcC {c g k} : valV (srcK c g k) kC = some (.ref c) := valV_pos rfl
theorem srcD {c g k} : valV (srcK c g k) kD = some (.int g) := (valV_neg nCD).trans (valV_pos rfl)
theorem srcN {c g k} : valV (srcK c g k) kN = some (.int k) := (valV_neg nCN).trans ((valV_neg nDN).trans (valV_pos rfl))
theorem putN {c g k j} : putK (srcK c g k) kN (.int j) = srcK c g j := by
  unfold putK
  rw [valV_any, srcN]
  show (if true = true then _ else _) = _
  rw [if_pos rfl]
  show [if kC = kN then (kC, _) else _, if kD = kN then (kD, _) else _, if kN = kN then (kN, _) else _] = _
  rw [if_neg nCN, if_neg nDN, if_pos rfl]
  rfl
/-- the source at p, its cells at c, at most n draws so far -/
def Src (H : Hp) (p c : Addr) (n : Nat) : Prop :=
  ∃ (g k : Int) (ns : List Int), H p = some (.dK (srcK c g k)) ∧ H c = some (.lst (ns.map V.int)) ∧ 0 ≤ g ∧ g < 2147483629 ∧ 0 ≤ k ∧ k ≤ n ∧ ns.length ≤ 63
theorem Src.ne {H : Hp} {p c : Addr} {n : Nat} (h : Src H p c n) : p ≠ c := by
  obtain ⟨g, k, ns, e1, e2, _⟩ := h
  exact ne_of e1 e2 (by intro z; cases z)
theorem Src.mono {H : Hp} {p c : Addr} {n m : Nat} (h : Src H p c n) (l : n ≤ m) : Src H p c m := by
  obtain ⟨g, k, ns, e1, e2, e3, e4, e5, e6, e7⟩ := h
  exact ⟨g, k, ns, e1, e2, e3, e4, e5, by omega, e7⟩
/-- all but the source stands -/
def Kp (p c : Addr) (H H' : Hp) : Prop := ∀ b o, b ≠ p → b ≠ c → H b = some o → H' b = some o
theorem Kp.refl {p c : Addr} {H : Hp} : Kp p c H H := fun _ _ _ _ e => e
theorem Kp.trans {p c : Addr} {H H1 H2 : Hp} (a : Kp p c H H1) (b : Kp p c H1 H2) : Kp p c H H2 := fun x o h1 h2 e => b x o h1 h2 (a x o h1 h2 e)
theorem Kp.new {p c q : Addr} {H : Hp} {o : HO} (h : H q = none) : Kp p c H (upd H q o) := fun b u _ _ e => by
  rw [upd_ne (ne_of_none e h)]
  exact e
theorem Src.upd {H : Hp} {p c q : Addr} {n : Nat} {o : HO} (h : Src H p c n) (hq : H q = none) : Src (upd H q o) p c n := by
  obtain ⟨g, k, ns, e1, e2, r⟩ := h
  exact ⟨g, k, ns, by rw [upd_ne (ne_of_none e1 hq)]; exact e1, by rw [upd_ne (ne_of_none e2 hq)]; exact e2, r⟩
theorem Src.set {H : Hp} {p c q : Addr} {n : Nat} {o : HO} (h : Src H p c n) (h1 : q ≠ p) (h2 : q ≠ c) : Src (L2.upd H q o) p c n := by
  obtain ⟨g, k, ns, e1, e2, r⟩ := h
  exact ⟨g, k, ns, by rw [upd_ne h1.symm]; exact e1, by rw [upd_ne h2.symm]; exact e2, r⟩

theorem sUpd {H : Hp} {q : Addr} {o : HO} (h : H q = none) : Same H (L2.upd H q o) := fun b u e => by
  rw [upd_ne (ne_of_none e h)]
  exact e
theorem Kp.of {p c : Addr} {H H' : Hp} (h : Same H H') : Kp p c H H' := fun b o _ _ e => h b o e
/-! ### one draw -/
def spDraw : Sp := fun vs H Q _ => ∃ (p c : Addr) (n : Nat) (lim : Int), vs = [.ref p, .int lim] ∧ Src H p c n ∧ n ≤ 1000000 ∧ 0 < lim ∧ lim.natAbs < 2 ^ 200 ∧
  ∀ H' r, 0 ≤ r → r < lim → Src H' p c (n + 1) → Kp p c H H' → Q (.int r) H'
section
variable {P : Program} {w : World} {K : PySem.W.Frag} {mg : Str → Option Value} {base : Heap}
theorem ints_dp {H : Hp} {c : Addr} {ns : List Int} (h : H c = some (.lst (ns.map V.int))) : Dp K H (.ref c) (.list (ns.map PyData.int)) := by
  refine .lst (.inl (.inl h)) ?_
  clear h
  induction ns with
  | nil => exact .nil
  | cons n r ih => exact .cons (.int n) ih
theorem ints_sh (ns : List Int) : SeqAt.shaped (.list (ns.map PyData.int)) = true := by
  have h1 : ∀ l : List Int, PyData.canLayAll0 (l.map PyData.int) = true := fun l => by
    induction l with
    | nil => rfl
    | cons n r ih => simpa [PyData.canLayAll0, PyData.canLay0] using ih
  have h2 : ∀ l : List Int, PyData.depthAll (l.map PyData.int) ≤ 1 := fun l => by
    induction l with
    | nil => simp [PyData.depthAll]
    | cons n r ih => simp only [List.map_cons, PyData.depthAll, PyData.depth]; omega
  have h3 := h2 ns
  simp [SeqAt.shaped, PyData.canLay0, PyData.depth, h1]
  omega
theorem eqv_nil_cons (n : PyData) (r : List PyData) : PyData.eqv (.list (n :: r)) (.list []) = false := by
  simp [PyData.eqv, PyData.eqvAll]
theorem ok_draw {f : Addr} {fd : FuncData} {k : Nat} (F : Fun K "_law_draw" "_law_draw" sDraw f fd) : FnOk P w K mg base CX0 (k + 1) f fd ["_law_source_here", "_law_limit"] spDraw := by
  refine F.ok scDraw (fun vs H Q E h => ?_) (fun cdv A outer s H vs Q E hr h => ?_)
  · obtain ⟨p, c, n, lim, rfl, _⟩ := h
    rfl
  · obtain ⟨p, c, n, lim, rfl, hS, hn, hl0, hlb, q⟩ := h
    have hu := hu_of hr
    have nd := scDraw.nd
    refine ⟨_, pss_cons (ps_dput hu (pv 0) pe_str (pe_op op_add (pe_dget hu (pv 0) pe_str (fun _ _ => rfl)) pe_int) rfl)
      (pss_cons (ps_set (i := 2) nd rfl (.inl rfl) (pe_dget hu (pv 0) pe_str (fun _ _ => rfl)))
      (C8.pss_cut (ps_if (pt_cmpR (op_neD hr.units) (pe_dget hu (pv 0) pe_str (fun _ _ => rfl)) (pe_lst pa_nil) (nomark _))
        (pss_cons (ps_set (i := 2) nd rfl (.inl rfl) (pe_bm0 PySem.F.plainAttrs_list PySem.F.slot_list_pop PySem.F.type_list_pop mt_pop (pe_dget hu (pv 0) pe_str (fun _ _ => rfl))))
        (pss_cons (ps_if (pt_cmpR op_ge (pv 2) (pe_op op_pow pe_int pe_int) (nomark _))
          (pss_cons (ps_expr (pe_bm PySem.F.plainAttrs_list PySem.F.slot_list_append PySem.F.type_list_append mt_append (pe_dget hu (pv 0) pe_str (fun _ _ => rfl)) (pa_cons (pe_op op_fdivW (pv 2) (pv 1)) pa_nil)))
          (pss_one (ps_ret (pe_op op_mod (pv 2) (pv 1))))) pss_nil)
        (pss_one (ps_set (i := 2) nd rfl (.inl rfl) (pe_op op_add (pv 2) (pe_dget hu (pv 0) pe_str (fun _ _ => rfl))))))) pss_nil)
      (pss_cons (ps_set (i := 3) nd rfl (.inl rfl) (pe_op op_add (pe_op op_mod (pv 2) pe_int) (pe_op op_mul (pe_op op_mul pe_int (pe_dget hu (pv 0) pe_str (fun _ _ => rfl))) (pe_dget hu (pv 0) pe_str (fun _ _ => rfl)))))
      (pss_cons (ps_set (i := 3) nd rfl (.inl rfl) (pe_op op_mod (pe_op op_mul (pe_op op_add (pv 3) pe_int) pe_int) pe_int))
      (pss_cons (ps_set (i := 3) nd rfl (.inl rfl) (pe_op op_mod (pe_op op_add (pe_op op_add (pe_op op_mul (pv 3) (pv 3)) (pe_op op_mul pe_int (pe_dget hu (pv 0) pe_str (fun _ _ => rfl)))) pe_int) pe_int))
      (pss_one (ps_ret (pe_op op_mod (pe_op op_fdiv (pe_op op_mod (pe_op op_mul (pv 3) (pe_op op_add (pe_op op_fdiv (pv 3) pe_int) pe_int)) pe_int) pe_int) (pv 1)))))))))
      , ?_⟩
    obtain ⟨g, k0, ns, eP, eC, hg0, hg1, hk0, hk1, hns⟩ := hS
    have npc : p ≠ c := ne_of eP eC (by intro z; cases z)
    have gN : ∀ {H : Hp} {k : Int}, H p = some (.dK (srcK c g k)) → DGet H p (.str "count") (some (.int k)) := fun e => srcN ▸ DGet.k (k := kN) e
    have gD : ∀ {H : Hp} {k : Int}, H p = some (.dK (srcK c g k)) → DGet H p (.str "digest") (some (.int g)) := fun e => srcD ▸ DGet.k (k := kD) e
    have gC : ∀ {H : Hp} {k : Int}, H p = some (.dK (srcK c g k)) → DGet H p (.str "cells") (some (.ref c)) := fun e => srcC ▸ DGet.k (k := kC) e
    -- the count
    refine ⟨.ref p, rfl, p, .int k0, rfl, gN eP, k0, 1, rfl, rfl, .ref p, rfl, p, _, rfl, DPut.k (k := kN) eP (by show 3 < sizeLine; rw [sizeLine_eq]; decide), ?_⟩
    rw [putN]
    have e1 : (upd H p (.dK (srcK c g (k0 + 1)))) p = some (.dK (srcK c g (k0 + 1))) := upd_same
    have e2 : (upd H p (.dK (srcK c g (k0 + 1)))) c = some (.lst (ns.map V.int)) := by rw [upd_ne npc.symm]; exact eC
    have e3 : Kp p c H (upd H p (.dK (srcK c g (k0 + 1)))) := fun b o h1 h2 e => by rw [upd_ne h1]; exact e
    generalize upd H p (.dK (srcK c g (k0 + 1))) = H1 at e1 e2 e3
    -- the digest
    refine ⟨.ref p, rfl, p, .int g, rfl, gD e1, fun σ H2 => ∃ (cell : Int) (ns2 : List Int), σ = [some (.ref p), some (.int lim), some (.int cell), none] ∧ H2 p = some (.dK (srcK c g (k0 + 1))) ∧ H2 c = some (.lst (ns2.map V.int)) ∧ ns2.length ≤ 63 ∧ Kp p c H H2, ?_, ?_⟩
    · -- the cells
      refine ⟨.ref p, rfl, p, .ref c, rfl, gC e1, Nat.zero_le _, fun o no => ?_⟩
      have nop : o ≠ p := fun e => by rw [e, e1] at no; cases no
      have noc : o ≠ c := fun e => by rw [e, e2] at no; cases no
      have f1 : (upd H1 o (.lst [])) p = some (.dK (srcK c g (k0 + 1))) := by rw [upd_ne nop.symm]; exact e1
      have f2 : (upd H1 o (.lst [])) c = some (.lst (ns.map V.int)) := by rw [upd_ne noc.symm]; exact e2
      refine ⟨.list (ns.map .int), .list [], ints_dp f2, .lst (.inl (.inl upd_same)) .nil, ints_sh ns, rfl, _, rfl, ?_⟩
      have f3 : Kp p c H (upd H1 o (.lst [])) := e3.trans (.new no)
      generalize upd H1 o (.lst []) = H2 at f1 f2 f3
      cases ns with
      | nil => exact iteF ⟨g, [], rfl, f1, f2, Nat.zero_le _, f3⟩
      | cons x r =>
        rw [show PyData.eqv (.list ((x :: r).map .int)) (.list []) = false from eqv_nil_cons _ _]
        refine iteT ?_
        -- cell = src['cells'].pop()
        obtain ⟨xs, y, ey⟩ : ∃ (xs : List Int) (y : Int), x :: r = xs ++ [y] := ⟨(x :: r).dropLast, (x :: r).getLast (List.cons_ne_nil _ _), (List.dropLast_concat_getLast _).symm⟩
        rw [ey] at f2
        have hxs : xs.length ≤ 62 := by
          have z := congrArg List.length ey
          rw [List.length_append, List.length_singleton] at z
          omega
        have em : (xs ++ [y]).map V.int = xs.map V.int ++ [.int y] := by rw [List.map_append]; rfl
        rw [em] at f2
        refine ⟨.ref p, rfl, p, .ref c, rfl, gC f1, .inl ⟨rfl, _, .inl (.inl f2)⟩, c, _, .int y, rfl, rfl, f2, by simp, ?_⟩
        rw [List.dropLast_concat]
        have g1 : (upd H2 c (.lst (xs.map V.int))) p = some (.dK (srcK c g (k0 + 1))) := by rw [upd_ne npc]; exact f1
        have g2 : (upd H2 c (.lst (xs.map V.int))) c = some (.lst (xs.map V.int)) := upd_same
        have g3 : Kp p c H (upd H2 c (.lst (xs.map V.int))) := f3.trans fun b o h1 h2 e => by rw [upd_ne h2]; exact e
        generalize upd H2 c (.lst (xs.map V.int)) = H3 at g1 g2 g3
        -- if cell >= 10 ** 18
        refine ⟨.int y, rfl, 10, 18, rfl, rfl, ⟨by decide, by decide, by decide⟩, y, _, rfl, rfl, _, rfl, ite2 (fun _ => ?_) (fun _ => ?_)⟩
        · refine ⟨.ref p, rfl, p, .ref c, rfl, gC g1, .inl ⟨rfl, _, .inl (.inl g2)⟩, .int y, rfl, .int lim, rfl, y, lim, rfl, rfl, wide_div hl0 (Nat.lt_of_lt_of_le hlb (Nat.pow_le_pow_right (by decide) (by decide : 200 ≤ 9000))) (by decide) (by decide), c, _, _, rfl, rfl, g2, ?_, ?_⟩
          · rw [List.length_map, sizeLine_eq]; omega
          · refine ⟨.int y, rfl, .int lim, rfl, y, lim, rfl, rfl, hl0, ?_⟩
            refine q _ _ (Int.emod_nonneg _ (by omega)) (Int.emod_lt_of_pos _ hl0) ⟨g, k0 + 1, xs ++ [y / lim], ?_, ?_, hg0, hg1, by omega, by omega, ?_⟩ ?_
            · rw [upd_ne npc]; exact g1
            · rw [upd_same, List.map_append]; rfl
            · rw [List.length_append, List.length_singleton]; omega
            · exact g3.trans fun b o h1 h2 e => by rw [upd_ne h2]; exact e
        · refine ⟨.int y, rfl, .ref p, rfl, p, .int g, rfl, gD g1, y, g, rfl, rfl, ?_⟩
          exact ⟨y + g, xs, rfl, g1, g2, by omega, g3⟩
    · -- what is mixed
      intro σ H2 hW
      obtain ⟨cell, ns2, rfl, f1, f2, f4, f3⟩ := hW
      have hk : -(2 ^ 64) < k0 + 1 ∧ k0 + 1 < 2 ^ 64 := ⟨by omega, by omega⟩
      refine ⟨.int cell, rfl, cell, _, rfl, rfl, (by show (0 : Int) < 2147483629; decide), .ref p, rfl, p, .int (k0 + 1), rfl, gN f1, _, k0 + 1, rfl, rfl, .inl ⟨by decide, by decide⟩, .ref p, rfl, p, .int (k0 + 1), rfl, gN f1, _, k0 + 1, rfl, rfl, .inr hk, _, _, rfl, rfl, ?_⟩
      refine ⟨_, rfl, _, _, rfl, rfl, _, _, rfl, rfl, .inr ⟨by decide, by decide⟩, _, _, rfl, rfl, (by show (0 : Int) < 2147483647; decide), ?_⟩
      generalize hv : (fun i j : Int => V.int (i % j)) ((cell % 2147483629 + 83737 * (k0 + 1) * (k0 + 1) + 31) * 40692) 2147483647 = v
      obtain ⟨m, rfl, hm0, hm1⟩ : ∃ m : Int, v = .int m ∧ 0 ≤ m ∧ m < 2147483647 := ⟨_, hv.symm, Int.emod_nonneg _ (by decide), Int.emod_lt_of_pos _ (by decide)⟩
      refine ⟨.int m, rfl, .int m, rfl, m, m, rfl, rfl, .inl ⟨by omega, by omega⟩, .ref p, rfl, p, .int (k0 + 1), rfl, gN f1, _, k0 + 1, rfl, rfl, .inl ⟨by decide, by decide⟩, _, _, rfl, rfl, _, _, rfl, rfl, _, _, rfl, rfl, (by show (0 : Int) < 2147483587; decide), ?_⟩
      generalize hv2 : (fun i j : Int => V.int (i % j)) (m * m + 16807 * (k0 + 1) + 3) 2147483587 = v2
      obtain ⟨u, rfl, hu0, hu1⟩ : ∃ u : Int, v2 = .int u ∧ 0 ≤ u ∧ u < 2147483587 := ⟨_, hv2.symm, Int.emod_nonneg _ (by decide), Int.emod_lt_of_pos _ (by decide)⟩
      refine ⟨.int u, rfl, .int u, rfl, u, 9, rfl, rfl, ⟨by decide, by decide⟩, _, _, rfl, rfl, u, _, rfl, rfl, .inl ⟨by omega, by omega⟩, _, _, rfl, rfl, (by show (0 : Int) < 2147483563; decide), _, _, rfl, rfl, ⟨by decide, by decide⟩, .int lim, rfl, _, lim, rfl, rfl, hl0, ?_⟩
      exact q _ _ (Int.emod_nonneg _ (by omega)) (Int.emod_lt_of_pos _ hl0) ⟨g, k0 + 1, ns2, f1, f2, hg0, hg1, by omega, by omega, f4⟩ f3

/-! ### the source is made -/
def spSource (K : PySem.W.Frag) : Sp := fun vs H Q _ => ∃ (a : Addr) (ns : List Int), vs = [.ref a] ∧ SqL K H a (ns.map V.int) ∧ ns.length ≤ 63 ∧
  ∀ H' p c, H p = none → H c = none → Src H' p c 0 → Same H H' → Q (.ref p) H'
theorem merge3 {c : Addr} {g : Int} : mergeK [] [(kC, V.ref c), (kD, V.int g), (kN, V.int 0)] = srcK c g 0 := by
  show putK (putK (putK [] kC _) kD _) kN _ = _
  rw [putK_new _ (valV_nil (k := kC))]
  rw [putK_new _ (show valV ([] ++ [(kC, V.ref c)]) kD = none from valV_neg nCD)]
  rw [putK_new _ (show valV ([] ++ [(kC, V.ref c)] ++ [(kD, V.int g)]) kN = none from (valV_neg nCN).trans (valV_neg nDN))]
  rfl
theorem cut63 (xs : List V) (h : xs.length ≤ 63) : cutV xs none (some 63) = xs := by
  unfold cutV
  rw [show HT.sIx xs.length xs.length (some 63) = min 63 xs.length from HT.sIx_nat xs.length _ 63, HT.sIx_none, Nat.min_eq_right h]
  show (xs.drop 0).take (xs.length - 0) = xs
  rw [List.drop_zero, Nat.sub_zero]
  exact List.take_length
theorem ok_source {f : Addr} {fd : FuncData} {k : Nat} (F : Fun K "_law_source" "_law_source" sSource f fd) (ml : mg "list" = none) : FnOk P w K mg base CX0 (k + 1) f fd ["_law_script"] (spSource K) := by
  refine F.ok scSource (fun vs H Q E h => ?_) (fun cdv A outer s H vs Q E hr h => ?_)
  · obtain ⟨a, ns, rfl, _⟩ := h
    rfl
  · obtain ⟨a, ns, rfl, hS, hlen, q⟩ := h
    have nd := scSource.nd
    refine ⟨_, pss_cons (ps_par (i := 1) (j := 2) (by rfl) nd rfl rfl (by decide) rfl rfl (pa_cons (pe_callTy call_list_of (by rfl) ml (by decide +kernel) (pa_cons (pe_slice sl_list (pv 0) po_none (po_some pe_int)) pa_nil)) (pa_cons pe_int pa_nil)) (by rfl))
      (pss_cons (ps_for PassesOwn.never rfl (pi_list (pv 1)) (pg_name (i := 3) nd rfl (.inl rfl))
        (pss_one (ps_set (i := 2) nd rfl (.inl rfl) (pe_op op_mod (pe_op op_add (pe_op op_add (pe_op op_mul (pv 2) pe_int) (pe_op op_mod (pv 3) pe_int)) pe_int) pe_int))))
      (pss_one (ps_ret (pe_disp (pps_cons pe_str (pe_revL (pv 1)) (pps_cons pe_str (pv 2) (pps_cons pe_str pe_int pps_nil))) (by rfl) (by rfl) (fun z => by cases z) (by decide))))), ?_⟩
    refine ⟨.ref a, rfl, 63, rfl, a, _, rfl, hS, fun l nl => ?_⟩
    rw [cut63 _ (by rw [List.length_map]; exact hlen)]
    refine ⟨l, _, rfl, .inl (.inl (.inl upd_same)), fun m nm => ?_⟩
    have s1 : Same H (upd (upd H l (.lst (ns.map V.int))) m (.lst (ns.map V.int))) := (sUpd nl).trans (sUpd nm)
    have em : (upd (upd H l (.lst (ns.map V.int))) m (.lst (ns.map V.int))) m = some (.lst (ns.map V.int)) := upd_same
    generalize upd (upd H l (.lst (ns.map V.int))) m (.lst (ns.map V.int)) = H1 at s1 em
    have hM : SqL K H1 m (ns.map V.int) := .inl (.inl em)
    refine ⟨_, _, rfl, .ref m, rfl, m, rfl, ⟨_, hM⟩, for_list (xs := ns.map V.int) (fun i σ H2 => H2 = H1 ∧ ∃ (g : Int) (y : Option V), σ = [some (.ref a), some (.ref m), some (.int g), y] ∧ 0 ≤ g ∧ g < 2147483629) ⟨rfl, 30103, none, rfl, by decide, by decide⟩ (fun i σ H2 _ h => h.1 ▸ hM) (fun i x σ H2 hx h => ?_) (fun σ H2 h => ?_)⟩
    · obtain ⟨rfl, g, y, rfl, hg0, hg1⟩ := h
      obtain ⟨v, rfl⟩ : ∃ v : Int, x = .int v := by
        have z := List.mem_of_getElem? hx
        obtain ⟨v, _, e⟩ := List.mem_map.mp z
        exact ⟨v, e.symm⟩
      refine ⟨.int g, rfl, g, _, rfl, rfl, .inr ⟨by decide, by decide⟩, .int v, rfl, v, _, rfl, rfl, (by show (0 : Int) < 2147483587; decide), _, _, rfl, rfl, _, _, rfl, rfl, _, _, rfl, rfl, (by show (0 : Int) < 2147483629; decide), ?_⟩
      exact ⟨rfl, _, _, rfl, Int.emod_nonneg _ (by decide), Int.emod_lt_of_pos _ (by decide)⟩
    · obtain ⟨rfl, g, y, rfl, hg0, hg1⟩ := h
      refine fun p np => ?_
      refine ⟨.ref m, rfl, m, _, rfl, (sUpd np).seq hM, fun c nc => ?_⟩
      have npc : p ≠ c := ne_of_none upd_same nc
      have npH : H p = none := s1.free np
      have ncH : H c = none := by
        rw [upd_ne npc.symm] at nc
        exact s1.free nc
      refine ⟨.int g, rfl, ?_⟩
      refine ⟨?_, [(kC, .ref c), (kD, .int g), (kN, .int 0)], rfl, (by show 3 ≤ 15; decide), ?_⟩
      · rw [upd_ne npc]; exact upd_same
      rw [merge3]
      refine q _ p c npH ncH ⟨g, 0, ns.reverse, upd_same, ?_, hg0, hg1, by decide, by decide, by rw [List.length_reverse]; exact hlen⟩ ?_
      · rw [upd_ne npc.symm, upd_same, List.map_reverse]
      · refine fun b o e => ?_
        have nb : b ≠ p := ne_of_none (s1 b o e) np
        have nb2 : b ≠ c := by
          rw [upd_ne npc.symm] at nc
          exact ne_of_none (s1 b o e) nc
        rw [upd_ne nb, upd_ne nb2, upd_ne nb]
        exact s1 b o e

/-! ### one of several -/
/-- what is read at a place of a list, a tuple or a text -/
def OptAt (K : PySem.W.Frag) (H : Hp) (x : V) (n : Nat) (f : Nat → V) : Prop :=
  LenV K x H n ∧ ((∃ p xs, x = .ref p ∧ SqL K H p xs ∧ n = xs.length ∧ ∀ i v, xs[i]? = some v → f i = v) ∨
    (∃ p xs, x = .ref p ∧ SqT K H p xs ∧ n = xs.length ∧ ∀ i v, xs[i]? = some v → f i = v) ∨
    ∃ z : Str, x = .str z ∧ z.length ≤ sizeLine ∧ n = z.length ∧ ∀ i c, z.cps.toList[i]? = some c → f i = .str ⟨#[c]⟩)
def spPick (K : PySem.W.Frag) : Sp := fun vs H Q _ => ∃ (p c : Addr) (n : Nat) (x : V) (m : Nat) (f : Nat → V), vs = [.ref p, x] ∧ Src H p c n ∧ n ≤ 1000000 ∧ 0 < m ∧ m ≤ 1000000 ∧
  (∀ H', (∀ b o, b ≠ p → b ≠ c → H b = some o → H' b = some o) → OptAt K H' x m f) ∧
  ∀ H' i, i < m → Src H' p c (n + 1) → Kp p c H H' → Q (f i) H'
theorem ok_pick {f fD : Addr} {fd fdD : FuncData} {k : Nat} (F : Fun K "_law_pick" "_law_pick" sPick f fd) (D : FnOk P w K mg base CX0 (k + 1) fD fdD ["_law_source_here", "_law_limit"] spDraw)
    (gD : mg "_law_draw" = some (.ref fD)) (kD : PySem.W.keepIn K (.ref fD) = true) (bD : Binds K fdD ["_law_source_here", "_law_limit"] []) (ml : mg "len" = none) : FnOk P w K mg base CX0 (k + 2) f fd ["_law_source_here", "_law_options"] (spPick K) := by
  refine F.ok scPick (fun vs H Q E h => ?_) (fun cdv A outer s H vs Q E hr h => ?_)
  · obtain ⟨p, c, n, x, m, g, rfl, _⟩ := h
    rfl
  · obtain ⟨p, c, n, x, m, g, rfl, hS, hn, hm0, hm1, hx, q⟩ := h
    have nd := scPick.nd
    refine ⟨_, pss_one (ps_ret (pe_ix ix_seq (pv 1) (pe_call D hr (by rfl) gD kD bD .nil pass0 (pa_cons (pv 0) (pa_cons (pe_callB call_len (by rfl) ml PySem.boot_len (pa_cons (pv 1) pa_nil)) pa_nil))) (fun _ _ => rfl))), ?_⟩
    refine ⟨x, rfl, .ref p, rfl, x, rfl, x, m, rfl, (hx H fun _ _ _ _ e => e).1, p, c, n, m, rfl, hS, hn, by omega, ?_, fun H' r hr0 hr1 hS' hK => ?_⟩
    · refine Nat.lt_of_le_of_lt ?_ (show (1000000 : Nat) < 2 ^ 200 by decide)
      rw [Int.natAbs_natCast]
      exact hm1
    · obtain ⟨_, ho⟩ := hx H' hK
      obtain ⟨i, rfl⟩ : ∃ i : Nat, r = i := ⟨r.toNat, by omega⟩
      have hi : i < m := by omega
      have hq := q H' i hi hS' hK
      rcases ho with ⟨a, xs, rfl, hL, el, hf⟩ | ⟨a, xs, rfl, hL, el, hf⟩ | ⟨z, rfl, hz, el, hf⟩
      · have e : xs[i]? = some xs[i] := List.getElem?_eq_getElem (by omega)
        rw [hf i _ e] at hq
        exact .inl ⟨a, xs, i, _, rfl, rfl, hL, atI_nat e, hq⟩
      · have e : xs[i]? = some xs[i] := List.getElem?_eq_getElem (by omega)
        rw [hf i _ e] at hq
        exact .inr (.inl ⟨a, xs, i, _, rfl, rfl, hL, atI_nat e, hq⟩)
      · have hlz : z.length = z.cps.toList.length := by simp [Str.length]
        have e : z.cps.toList[i]? = some z.cps.toList[i] := List.getElem?_eq_getElem (by omega)
        rw [hf i _ e] at hq
        exact .inr (.inr ⟨z, i, _, rfl, rfl, hz, atI_nat e, hq⟩)
end
end Lk
set_option maxRecDepth 100000
namespace Lk
open PySem PySem.Spec PyProof.Rows L2
/-! ### names, as lists of codes -/
abbrev cds (x : Str) : List Nat := x.cps.toList
theorem ext_cds {x y : Str} (h : cds x = cds y) : x = y := by
  obtain ⟨⟨a⟩⟩ := x
  obtain ⟨⟨b⟩⟩ := y
  have e : a = b := h
  rw [e]
def ltr (s n : Nat) : Nat := 97 + (s + 3 * n) % 26
theorem ltr_lo (s n : Nat) : 97 ≤ ltr s n ∧ ltr s n ≤ 122 := by unfold ltr; omega
theorem ltr_ne {s i j : Nat} (h : i < j) (hj : j < 12) : ltr s i ≠ ltr s j := by unfold ltr; omega
/-- a name by its mode, from the word's codes -/
def nmAt (w : List Nat) (mode s n : Nat) : List Nat :=
  if mode = 0 then [ltr s n] else if mode = 1 then w.take (n % 6) ++ [ltr s n] ++ w.drop (n % 6) else List.replicate (1 + n % 6) (ltr s n)
theorem nmAt_ne {w : List Nat} {mode s i j : Nat} (h : i < j) (hj : j < 12) : nmAt w mode s i ≠ nmAt w mode s j := by
  have hl := ltr_ne (s := s) h hj
  unfold nmAt
  by_cases h0 : mode = 0
  · rw [if_pos h0, if_pos h0]
    intro e
    exact hl (List.cons.inj e).1
  · rw [if_neg h0, if_neg h0]
    by_cases h1 : mode = 1
    · rw [if_pos h1, if_pos h1]
      intro e
      have e2 := congrArg (List.count (ltr s i)) e
      have c1 : ∀ k, List.count (ltr s i) (w.take k) + List.count (ltr s i) (w.drop k) = List.count (ltr s i) w := fun k => by
        rw [← List.count_append, List.take_append_drop]
      have a1 := c1 (i % 6)
      have a2 := c1 (j % 6)
      rw [List.count_append, List.count_append, List.count_append, List.count_append, List.count_singleton_self, List.count_singleton, if_neg (by simpa using fun z => hl z.symm)] at e2
      omega
    · rw [if_neg h1, if_neg h1]
      intro e
      have e2 := congrArg List.head? e
      rw [Nat.add_comm 1, Nat.add_comm 1, List.replicate_succ, List.replicate_succ] at e2
      exact hl (Option.some.inj e2)
theorem nmAt_ok {w : List Nat} {mode s n : Nat} (hw : w.length = 5) (ha : ∀ c ∈ w, 97 ≤ c ∧ c ≤ 122) : 1 ≤ (nmAt w mode s n).length ∧ (nmAt w mode s n).length ≤ 6 ∧ ∀ c ∈ nmAt w mode s n, 97 ≤ c ∧ c ≤ 122 := by
  unfold nmAt
  by_cases h0 : mode = 0
  · rw [if_pos h0]
    refine ⟨by simp, by simp, fun c hc => ?_⟩
    rw [List.mem_singleton.mp hc]
    exact ltr_lo s n
  · rw [if_neg h0]
    by_cases h1 : mode = 1
    · rw [if_pos h1]
      have hl : (w.take (n % 6) ++ [ltr s n] ++ w.drop (n % 6)).length = 6 := by
        simp only [List.length_append, List.length_take, List.length_drop, List.length_singleton]
        omega
      rw [hl]
      refine ⟨by decide, by decide, fun c hc => ?_⟩
      rcases List.mem_append.mp hc with hc | hc
      · rcases List.mem_append.mp hc with hc | hc
        · exact ha c (List.mem_of_mem_take hc)
        · rw [List.mem_singleton.mp hc]
          exact ltr_lo s n
      · exact ha c (List.mem_of_mem_drop hc)
    · rw [if_neg h1, List.length_replicate]
      refine ⟨by omega, by omega, fun c hc => ?_⟩
      rw [List.eq_of_mem_replicate hc]
      exact ltr_lo s n
/-- a name: one to six letters -/
def IsNm (x : Str) : Prop := 1 ≤ x.length ∧ x.length ≤ 6 ∧ ∀ c ∈ cds x, 97 ≤ c ∧ c ≤ 122
/-- each name less than the ones behind it -/
def Asc (xs : List Str) : Prop := xs.Pairwise fun a b => cds a < cds b
theorem asc_irr {a : Str} : ¬ cds a < cds a := List.lt_irrefl _
theorem Asc.nodup {xs : List Str} (h : Asc xs) : xs.Nodup := by
  refine List.Pairwise.imp (fun {a b} l e => ?_) h
  rw [e] at l
  exact asc_irr l
theorem risingS_le : ∀ (p : Str) (xs : List Str), risingS p xs = true → (p :: xs).Pairwise fun a b => ¬ cds b < cds a
  | p, [], _ => by simp
  | p, x :: r, h => by
    unfold risingS at h
    rw [Bool.and_eq_true, Bool.not_eq_true', ltCps_eq, decide_eq_false_iff_not] at h
    have ih := risingS_le x r h.2
    refine List.pairwise_cons.mpr ⟨fun b hb => ?_, ih⟩
    rcases List.mem_cons.mp hb with rfl | hb
    · exact h.1
    · have h2 := (List.pairwise_cons.mp ih).1 b hb
      exact List.le_trans (l₁ := cds p) (l₂ := cds x) (l₃ := cds b) h.1 h2
theorem sortedS_le {ys : List Str} (s : sortedS ys = true) : ys.Pairwise fun a b => ¬ cds b < cds a := by
  cases ys with
  | nil => exact .nil
  | cons x r => exact risingS_le x r s
theorem asc_of {ys : List Str} (l : ys.Pairwise fun a b => ¬ cds b < cds a) (n : ys.Nodup) : Asc ys := by
  refine List.Pairwise.imp (fun {a b} h => ?_) (List.Pairwise.and l n)
  by_cases e : cds a < cds b
  · exact e
  · exact absurd (ext_cds (List.le_antisymm (as := cds a) (bs := cds b) h.1 e)) h.2
theorem sorted_asc {ys xs : List Str} (p : ys.Perm xs) (s : sortedS ys = true) (n : xs.Nodup) : Asc ys := asc_of (sortedS_le s) (p.nodup_iff.mpr n)
/-- twelve names, ascending -/
structure Names (xs : List Str) : Prop where
  len : xs.length = 12
  asc : Asc xs
  nm : ∀ x ∈ xs, IsNm x
def nmS (w : List Nat) (mode s n : Nat) : Str := ⟨(nmAt w mode s n).toArray⟩
theorem cds_nmS {w : List Nat} {mode s n : Nat} : cds (nmS w mode s n) = nmAt w mode s n := rfl
theorem names_mk {w : List Nat} {mode s : Nat} (hw : w.length = 5) (ha : ∀ c ∈ w, 97 ≤ c ∧ c ≤ 122) {ys : List Str} (p : ys.Perm ((List.range 12).map (nmS w mode s))) (srt : sortedS ys = true) : Names ys := by
  refine ⟨by rw [p.length_eq, List.length_map, List.length_range], sorted_asc p srt ?_, fun x hx => ?_⟩
  · refine List.pairwise_map.mpr ?_
    refine List.Pairwise.imp_of_mem (fun {a b} ha hb h e => ?_) List.pairwise_lt_range
    exact nmAt_ne h (List.mem_range.mp hb) (congrArg cds e)
  · obtain ⟨n, _, rfl⟩ := List.mem_map.mp (p.mem_iff.mp hx)
    have z := nmAt_ok (mode := mode) (s := s) (n := n) hw ha
    exact ⟨by show 1 ≤ (nmAt w mode s n).toArray.size; simpa using z.1, by show (nmAt w mode s n).toArray.size ≤ 6; simpa using z.2.1, z.2.2⟩
/-! ### texts put together -/
theorem cds_app (x y : Str) : cds (x ++ y) = cds x ++ cds y := by
  show (x.cps ++ y.cps).toList = _
  rw [Array.toList_append]
theorem len_cds (x : Str) : x.length = (cds x).length := by simp [Str.length, cds]
theorem join5 (a b c d e : Nat) : cds (Txt.join "" [⟨#[a]⟩, ⟨#[b]⟩, ⟨#[c]⟩, ⟨#[d]⟩, ⟨#[e]⟩]) = [a, b, c, d, e] := by
  simp [Txt.join, Builtin.Str.glued, cds]
  rfl
theorem abc_at : ∀ i, i < 26 → (cds ("abcdefghijklmnopqrstuvwxyz" : Str)).getD i 0 = 97 + i := by decide +kernel
theorem abc_len : ("abcdefghijklmnopqrstuvwxyz" : Str).length = 26 := by decide +kernel
theorem abc_get {i : Nat} (h : i < 26) : (cds ("abcdefghijklmnopqrstuvwxyz" : Str))[i]? = some (97 + i) := by
  have e := abc_at i h
  have l := len_cds ("abcdefghijklmnopqrstuvwxyz" : Str)
  rw [abc_len] at l
  rw [List.getElem?_eq_getElem (by omega)]
  rw [List.getD_eq_getElem?_getD, List.getElem?_eq_getElem (by omega)] at e
  exact congrArg some e
theorem cut_pre (z : Str) (k : Nat) : cds (cutS z none (some k)) = (cds z).take k := by
  unfold cutS
  rw [HT.sIx_none, HT.sIx_nat]
  show ((cds z).drop 0).take (min k z.length - 0) = _
  rw [List.drop_zero, Nat.sub_zero, len_cds]
  by_cases h : k ≤ (cds z).length
  · rw [Nat.min_eq_left h]
  · rw [Nat.min_eq_right (by omega), List.take_length, List.take_of_length_le (by omega)]
theorem cut_suf (z : Str) (k : Nat) : cds (cutS z (some k) none) = (cds z).drop k := by
  unfold cutS
  rw [HT.sIx_none, HT.sIx_nat]
  show ((cds z).drop (min k z.length)).take (z.length - min k z.length) = _
  rw [len_cds]
  by_cases h : k ≤ (cds z).length
  · rw [Nat.min_eq_left h]
    exact List.take_of_length_le (by rw [List.length_drop]; omega)
  · rw [Nat.min_eq_right (by omega), List.drop_of_length_le (Nat.le_refl _), List.drop_of_length_le (by omega), List.take_nil]
theorem mul_rep (c : Nat) (n : Nat) : cds (Txt.mul ⟨#[c]⟩ ((n : Int) + 1)) = List.replicate (n + 1) c := by
  unfold Txt.mul
  rw [if_neg (by omega)]
  have h : ∀ (m : Nat) (acc : Array Nat), ((List.replicate m (#[c] : Array Nat)).foldl (· ++ ·) acc).toList = acc.toList ++ List.replicate m c := by
    intro m
    induction m with
    | zero => intro acc; simp
    | succ m ih =>
      intro acc
      rw [List.replicate_succ, List.foldl_cons, ih, Array.toList_append, List.replicate_succ]
      simp
  by_cases e : n = 0
  · subst e
    rfl
  · rw [if_neg (by simp [Str.length]; omega)]
    show ((List.replicate ((n : Int) + 1).toNat (#[c] : Array Nat)).foldl (· ++ ·) #[]).toList = _
    rw [h]
    show [] ++ _ = _
    rw [List.nil_append, show ((n : Int) + 1).toNat = n + 1 by omega]
end Lk
set_option maxRecDepth 100000
namespace Lk
open PySem PySem.Spec PyProof.Rows L2
abbrev sNames : Stmt := topS 9
abbrev sSome : Stmt := topS 10
theorem scNames : FnScope ["_law_source_here", "_law_count", "_law_letters", "_law_mode", "_law_start", "_law_n", "_law_word", "_law_found", "_law_letter"] ["_law_source_here", "_law_count"] (defScope sNames) := ⟨rfl, rfl, rfl, by decide +kernel, rfl, by decide +kernel, by decide +kernel⟩
theorem scSome : FnScope ["_law_source_here", "_law_names_here", "_law_threshold", "_law_name"] ["_law_source_here", "_law_names_here"] (defScope sSome) := ⟨rfl, rfl, rfl, by decide +kernel, rfl, by decide +kernel, by decide +kernel⟩
/-- a text times a whole number -/
theorem op_mul_si {X : Cx} : OpR X (binaryOp .Mult) (fun x y H Q => ∃ z i, x = .str z ∧ y = .int i ∧ MulOk z i ∧ Q (.str (Txt.mul z i)) H) := by
  intro pins s σ H x y v u Q I rx ry h
  obtain ⟨z, i, rfl, rfl, hz, q⟩ := h
  obtain ⟨t, rfl⟩ := rx
  obtain ⟨t', rfl⟩ := ry
  exact SB.mul hz fun t' k => ⟨.str _, H, I.tok _, ⟨_, rfl⟩, q⟩
theorem mulOk6 {z : Str} {n : Nat} (hz : z.length = 1) (hn : n < 6) : MulOk z ((n : Int) + 1) := by
  refine ⟨?_, fun _ _ => ?_, fun _ _ => ?_⟩
  · simp only [Bool.or_eq_false_iff, decide_eq_false_iff_not]
    omega
  · rw [hz]
    have : n = 0 ∨ n = 1 ∨ n = 2 ∨ n = 3 ∨ n = 4 ∨ n = 5 := by omega
    rcases this with rfl | rfl | rfl | rfl | rfl | rfl <;> decide
  · rw [hz]
    have : n = 0 ∨ n = 1 ∨ n = 2 ∨ n = 3 ∨ n = 4 ∨ n = 5 := by omega
    rcases this with rfl | rfl | rfl | rfl | rfl | rfl <;> decide +kernel
theorem optAbc {K : PySem.W.Frag} {H : Hp} : OptAt K H (.str ("abcdefghijklmnopqrstuvwxyz" : Str)) 26 fun i => .str ⟨#[97 + i]⟩ := by
  have hl : ("abcdefghijklmnopqrstuvwxyz" : Str).length ≤ sizeLine := by rw [abc_len, sizeLine_eq]; decide
  refine ⟨⟨hl, abc_len.symm⟩, .inr (.inr ⟨_, rfl, hl, abc_len.symm, fun i c e => ?_⟩)⟩
  have hi : i < 26 := by
    have z := (List.getElem?_eq_some_iff.mp e).1
    have l : ("abcdefghijklmnopqrstuvwxyz" : Str).cps.toList.length = 26 := (len_cds _).symm.trans abc_len
    rw [l] at z
    exact z
  have z := abc_get hi
  rw [e] at z
  rw [Option.some.inj z]
def spNames : Sp := fun vs H Q _ => ∃ (p c : Addr) (n : Nat), vs = [.ref p, .int 12] ∧ Src H p c n ∧ n ≤ 900000 ∧
  ∀ H' l xs, H l = none → H' l = some (.lst (xs.map V.str)) → Names xs → Src H' p c (n + 7) → Kp p c H H' → Q (.ref l) H'
section
variable {P : Program} {w : World} {K : PySem.W.Frag} {mg : Str → Option Value} {base : Heap}
theorem ok_names {f fD fP : Addr} {fd fdD fdP : FuncData} {k : Nat} (F : Fun K "_law_names" "_law_names" sNames f fd)
    (D : FnOk P w K mg base CX0 (k + 1) fD fdD ["_law_source_here", "_law_limit"] spDraw) (gD : mg "_law_draw" = some (.ref fD)) (kD : PySem.W.keepIn K (.ref fD) = true) (bD : Binds K fdD ["_law_source_here", "_law_limit"] [])
    (P' : FnOk P w K mg base CX0 (k + 2) fP fdP ["_law_source_here", "_law_options"] (spPick K)) (gP : mg "_law_pick" = some (.ref fP)) (kP : PySem.W.keepIn K (.ref fP) = true) (bP : Binds K fdP ["_law_source_here", "_law_options"] [])
    (mr : mg "range" = none) (ms : mg "sorted" = none) : FnOk P w K mg base CX0 (k + 3) f fd ["_law_source_here", "_law_count"] spNames := by
  refine F.ok scNames (fun vs H Q E h => ?_) (fun cdv A outer s H vs Q E hr h => ?_)
  · obtain ⟨p, c, n, rfl, _⟩ := h
    rfl
  · obtain ⟨p, c, n, rfl, hS, hn, q⟩ := h
    have nd := scNames.nd
    refine ⟨_, pss_cons (ps_asg (pe_tup (pa_cons pe_str (pa_cons (pe_call D (hr.mono (by omega)) (by rfl) gD kD bD .nil pass0 (pa_cons (pv 0) (pa_cons pe_int pa_nil))) (pa_cons (pe_call D (hr.mono (by omega)) (by rfl) gD kD bD .nil pass0 (pa_cons (pv 0) (pa_cons pe_int pa_nil))) pa_nil))))
        (pg_tup (by rfl) (pgs_cons (pg_name (i := 2) nd rfl (.inr rfl)) (pgs_cons (pg_name (i := 3) nd rfl (.inl rfl)) (pgs_cons (pg_name (i := 4) nd rfl (.inl rfl)) pgs_nil)))))
      (pss_cons (ps_set (i := 6) nd rfl (.inl rfl) (pe_join pe_str (pe_lc (own := [("_law_n", 5)]) (g := gName 5) (tt := tYes) rfl nd (pi_range1 (by rfl) mr (pa_cons pe_int pa_nil)) (blkOk_by (own := [("_law_n", 5)]) (N := ["_law_source_here", "_law_count", "_law_letters", "_law_mode", "_law_start", "_law_n", "_law_word", "_law_found", "_law_letter"]) (sc := defScope sNames) (by decide +kernel))
          (fun _ _ _ _ _ => pg_name (i := 5) nd rfl (.inl rfl)) (fun _ _ _ _ _ => pts_nil) (fun _ _ _ _ _ => pe_call P' (hr.mono (by omega)) (by rfl) gP kP bP .nil pass0 (pa_cons (pv 0) (pa_cons (pv 2) pa_nil))))))
      (pss_cons (ps_set (i := 7) nd rfl (.inl rfl) (pe_lst pa_nil))
      (pss_cons (ps_for PassesOwn.never rfl (pi_range1 (by rfl) mr (pa_cons (pv 1) pa_nil)) (pg_name (i := 5) nd rfl (.inl rfl))
        (pss_cons (ps_set (i := 8) nd rfl (.inl rfl) (pe_ix ix_str (pv 2) (pe_op op_mod (pe_op op_add (pv 4) (pe_op op_mul pe_int (pv 5))) pe_int) (fun _ _ => rfl)))
        (pss_one (ps_expr (pe_bm PySem.F.plainAttrs_list PySem.F.slot_list_append PySem.F.type_list_append mt_append (pv 7) (pa_cons
          (pe_ix ix_list (pe_lst (pa_cons (pv 8) (pa_cons (pe_op op_add_str (pe_op op_add_str (pe_slice sl_str (pv 6) po_none (po_some (pe_op op_mod (pv 5) pe_int))) (pv 8)) (pe_slice sl_str (pv 6) (po_some (pe_op op_mod (pv 5) pe_int)) po_none)) (pa_cons (pe_op op_mul_si (pv 8) (pe_op op_add pe_int (pe_op op_mod (pv 5) pe_int))) pa_nil)))) (pv 3) (fun _ _ => rfl)) pa_nil))))))
      (pss_one (ps_ret (pe_callB cr_sortedS (by rfl) ms (by decide +kernel) (pa_cons (pv 7) pa_nil))))))), ?_⟩
    -- the three
    refine ⟨.ref p, rfl, p, c, n, 3, rfl, hS, by omega, by decide, by decide, fun H1 r1 r10 r11 S1 K1 => ?_⟩
    refine ⟨.ref p, rfl, p, c, n + 1, 26, rfl, S1, by omega, by decide, by decide, fun H2 r2 r20 r21 S2 K2 => ?_⟩
    refine ⟨by show 3 ≤ sizeLine; rw [sizeLine_eq]; decide, fun t nt => ?_⟩
    refine ⟨t, _, rfl, .inl (.inl upd_same), rfl, _, _, rfl, _, _, rfl, _, [], rfl, rfl, ?_⟩
    have S3 : Src (upd H2 t (.tup [.str "abcdefghijklmnopqrstuvwxyz", .int r1, .int r2])) p c (n + 2) := S2.upd nt
    have K3 : Kp p c H (upd H2 t (.tup [.str "abcdefghijklmnopqrstuvwxyz", .int r1, .int r2])) := (K1.trans K2).trans (.new nt)
    generalize upd H2 t (.tup [.str "abcdefghijklmnopqrstuvwxyz", .int r1, .int r2]) = H3 at S3 K3
    -- the word
    refine ⟨⟨_, rfl⟩, 5, rfl, by decide, by decide, fun D nD => ?_⟩
    have nDp : D ≠ p := by
      obtain ⟨g, k, ns, e, _⟩ := S3
      exact (ne_of_none e nD).symm
    have nDc : D ≠ c := by
      obtain ⟨g, k, ns, _, e, _⟩ := S3
      exact (ne_of_none e nD).symm
    refine lc_range (lo := 0) (n := 5) (fun i H' => ∃ cs : List Nat, cs.length = i ∧ (∀ c ∈ cs, 97 ≤ c ∧ c ≤ 122) ∧ H' D = some (.lst (cs.map fun c => V.str ⟨#[c]⟩)) ∧ Src H' p c (n + 2 + i) ∧ Kp p c H3 H') ⟨[], rfl, by simp, upd_same, S3.upd nD, .new nD⟩ (fun i H' hi hW => ?_) (fun H' hW => ?_)
    · obtain ⟨cs, hcs, hab, eD, S4, K4⟩ := hW
      refine ⟨rfl, ?_⟩
      refine ⟨.ref p, rfl, _, rfl, p, c, n + 2 + i, _, 26, _, rfl, S4, by omega, by decide, by decide, fun H' _ => optAbc, fun H5 j hj S5 K5 => ?_⟩
      refine ⟨_, K5 D _ nDp nDc eD, by rw [List.length_map, sizeLine_eq]; omega, cs ++ [97 + j], by rw [List.length_append, hcs]; rfl, fun x hx => ?_, ?_, S5.set nDp nDc, fun b o h1 h2 e => ?_⟩
      · rcases List.mem_append.mp hx with hx | hx
        · exact hab x hx
        · rw [List.mem_singleton.mp hx]
          omega
      · rw [upd_same, List.map_append]
        rfl
      · rw [upd_ne (ne_of_none e nD)]
        exact K5 b o h1 h2 (K4 b o h1 h2 e)
    · obtain ⟨cs, hcs, hab, eD, S4, K4⟩ := hW
      obtain ⟨wd, hwd⟩ : ∃ wd : Str, Txt.join "" (cs.map fun c => (⟨#[c]⟩ : Str)) = wd := ⟨_, rfl⟩
      have cw : cds wd = cs := by
        rw [← hwd]
        match cs, hcs with
        | [a, b, c, d, e], _ => exact join5 a b c d e
      have lw : wd.length = 5 := by rw [len_cds, cw]; exact hcs
      refine ⟨_, D, cs.map fun c => (⟨#[c]⟩ : Str), rfl, rfl, .inl (.inl (.inl (by rw [List.map_map]; exact eD))), ?_, ?_⟩
      · match cs, hcs with
        | [a, b, c, d, e], _ =>
          show (5 : Nat) + 5 * ("" : Str).length ≤ 16777216
          decide
      rw [hwd]
      -- found = []
      refine ⟨Nat.zero_le _, fun L nL => ?_⟩
      have nLp : L ≠ p := by
        obtain ⟨g, k, ns, e, _⟩ := S4
        exact (ne_of_none e nL).symm
      have nLc : L ≠ c := by
        obtain ⟨g, k, ns, _, e, _⟩ := S4
        exact (ne_of_none e nL).symm
      have KH : Kp p c H H' := K3.trans K4
      have nLH : H L = none := by
        cases e : H L with
        | none => rfl
        | some u =>
          have z := KH L u nLp nLc e
          rw [nL] at z
          cases z
      obtain ⟨md, rfl⟩ : ∃ m : Nat, r1 = m := ⟨r1.toNat, by omega⟩
      obtain ⟨st, rfl⟩ : ∃ m : Nat, r2 = m := ⟨r2.toNat, by omega⟩
      refine ⟨.int 12, rfl, 12, rfl, by decide, by decide, for_range (n := 12) (fun i σ H2 => ∃ y5 y8, σ = [some (.ref p), some (.int 12), some (.str "abcdefghijklmnopqrstuvwxyz"), some (.int md), some (.int st), y5, some (.str wd), some (.ref L), y8] ∧
        H2 L = some (.lst (((List.range i).map (nmS cs md st)).map V.str)) ∧ Src H2 p c (n + 7) ∧ Kp p c H H2)
        ⟨none, none, rfl, upd_same, S4.upd nL, KH.trans (.new nL)⟩ (fun i σ H2 hi hW => ?_) (fun σ H2 hW => ?_)⟩
      · obtain ⟨y5, y8, rfl, eL, S5, K5⟩ := hW
        -- the letter
        have hx : ((st : Int) + 3 * (0 + (i : Int))) % 26 = ((st + 3 * i) % 26 : Nat) := by omega
        have hlt : (st + 3 * i) % 26 < 26 := Nat.mod_lt _ (by decide)
        have labc : ("abcdefghijklmnopqrstuvwxyz" : Str).length ≤ sizeLine := by rw [abc_len, sizeLine_eq]; decide
        have eix : atI ("abcdefghijklmnopqrstuvwxyz" : Str).cps.toList (((st : Int) + 3 * (0 + (i : Int))) % 26) = some (ltr st i) := by
          rw [hx]
          exact atI_nat (abc_get hlt)
        refine ⟨_, rfl, _, rfl, _, rfl, _, _, rfl, rfl, .inl ⟨by decide, by decide⟩, _, _, rfl, rfl, _, _, rfl, rfl, (by show (0 : Int) < 26; decide), _, _, _, rfl, rfl, labc, eix, ?_⟩
        have hn6 : ((0 + (i : Int)) % 6) = ((i % 6 : Nat) : Int) := by omega
        have l1 : (⟨#[ltr st i]⟩ : Str).length = 1 := rfl
        have la : ∀ (x : Str) (k : Nat), (cutS x none (some (k : Int))).length ≤ x.length := fun x k => by
          rw [len_cds, cut_pre, List.length_take, len_cds]
          exact Nat.min_le_right _ _
        have lb : ∀ (x : Str) (k : Nat), (cutS x (some (k : Int)) none).length ≤ x.length := fun x k => by
          rw [len_cds, cut_suf, List.length_drop, len_cds]
          omega
        have la' : (cutS wd none (some ((0 + (i : Int)) % 6))).length ≤ wd.length := by rw [hn6]; exact la wd (i % 6)
        have lb' : (cutS wd (some ((0 + (i : Int)) % 6)) none).length ≤ wd.length := by rw [hn6]; exact lb wd (i % 6)
        have lap : ∀ x y : Str, (x ++ y).length = x.length + y.length := fun x y => by
          rw [len_cds, cds_app, List.length_append, len_cds, len_cds]
        have sz : (16 : Nat) ≤ sizeLine := by rw [sizeLine_eq]; decide
        -- found.append([..][mode])
        refine ⟨_, rfl, .inl ⟨rfl, _, .inl (.inl eL)⟩, ?_⟩
        refine ⟨_, rfl, _, rfl, _, rfl, _, _, rfl, rfl, (by show (0 : Int) < 6; decide), _, rfl, _, rfl, by omega, ?_⟩
        refine ⟨_, rfl, _, _, rfl, rfl, by omega, _, rfl, _, rfl, _, _, rfl, rfl, (by show (0 : Int) < 6; decide), _, rfl, _, rfl, by omega, _, _, rfl, rfl, by rw [lap]; omega, ?_⟩
        have h16 : (1 : Int) + (0 + (i : Int)) % 6 = ((i % 6 : Nat) : Int) + 1 := by omega
        have mo : MulOk ⟨#[ltr st i]⟩ (1 + (0 + (i : Int)) % 6) := by
          rw [h16]
          exact mulOk6 rfl (Nat.mod_lt _ (by decide))
        refine ⟨_, rfl, _, rfl, _, _, rfl, rfl, (by show (0 : Int) < 6; decide), _, _, rfl, rfl, _, _, rfl, rfl, mo, ?_⟩
        refine ⟨by show 3 ≤ sizeLine; omega, fun o no => ?_⟩
        have ev : atI [V.str ⟨#[ltr st i]⟩, V.str (cutS wd none (some ((0 + (i : Int)) % 6)) ++ ⟨#[ltr st i]⟩ ++ cutS wd (some ((0 + (i : Int)) % 6)) none), V.str (Txt.mul ⟨#[ltr st i]⟩ (1 + (0 + (i : Int)) % 6))] (md : Int) = some (V.str (nmS cs md st i)) := by
          have hmd : md = 0 ∨ md = 1 ∨ md = 2 := by omega
          rw [hn6, show (1 : Int) + ((i % 6 : Nat) : Int) = ((i % 6 : Nat) : Int) + 1 by omega]
          rcases hmd with rfl | rfl | rfl
          · exact atI_nat (j := 0) rfl
          · refine atI_nat (j := 1) ?_
            show some (V.str _) = some (V.str _)
            refine congrArg (fun z => some (V.str z)) (ext_cds ?_)
            rw [cds_app, cds_app, cut_pre, cut_suf, cw]
            rfl
          · refine atI_nat (j := 2) ?_
            show some (V.str _) = some (V.str _)
            refine congrArg (fun z => some (V.str z)) (ext_cds ?_)
            rw [mul_rep, cds_nmS]
            show _ = List.replicate (1 + i % 6) (ltr st i)
            rw [Nat.add_comm]
        refine ⟨_, rfl, o, _, _, _, rfl, rfl, .inl (.inl upd_same), ev, ?_⟩
        have nLo : L ≠ o := ne_of_none eL no
        have eL2 : (upd H2 o (.lst [V.str ⟨#[ltr st i]⟩, V.str (cutS wd none (some ((0 + (i : Int)) % 6)) ++ ⟨#[ltr st i]⟩ ++ cutS wd (some ((0 + (i : Int)) % 6)) none), V.str (Txt.mul ⟨#[ltr st i]⟩ (1 + (0 + (i : Int)) % 6))])) L = some (.lst (((List.range i).map (nmS cs md st)).map V.str)) := by rw [upd_ne nLo]; exact eL
        refine ⟨L, _, _, rfl, rfl, eL2, ?_, _, _, rfl, ?_, (S5.upd no).set nLp nLc, fun b u h1 h2 e => ?_⟩
        · rw [List.length_map, List.length_map, List.length_range, sizeLine_eq]; omega
        · rw [upd_same, List.range_succ, List.map_append, List.map_append]
          rfl
        · rw [upd_ne (ne_of_none e nLH), upd_ne (ne_of_none (K5 b u h1 h2 e) no)]
          exact K5 b u h1 h2 e
      · obtain ⟨y5, y8, rfl, eL, S5, K5⟩ := hW
        refine ⟨_, rfl, L, _, rfl, .inl (.inl eL), ?_, fun ys l pm srt nl => ?_⟩
        · rw [List.length_map, List.length_range]; decide
        have nlH : H l = none := by
          cases e : H l with
          | none => rfl
          | some u =>
            by_cases h1 : l = p
            · obtain ⟨g, k, ns, z, _⟩ := S5
              rw [h1, z] at nl
              cases nl
            · by_cases h2 : l = c
              · obtain ⟨g, k, ns, _, z, _⟩ := S5
                rw [h2, z] at nl
                cases nl
              · have z := K5 l u h1 h2 e
                rw [nl] at z
                cases z
        exact q _ l ys nlH upd_same (names_mk (by rw [hcs]) hab pm srt) (S5.upd nl) (K5.trans (.new nl))
end
end Lk
set_option maxRecDepth 100000
namespace Lk
open PySem PySem.Spec PyProof.Rows L2
theorem Kp.none {p c l : Addr} {H H' : Hp} {n : Nat} (k : Kp p c H H') (s : Src H' p c n) (h : H' l = none) : H l = none := by
  cases e : H l with
  | none => rfl
  | some u =>
    by_cases h1 : l = p
    · obtain ⟨g, k, ns, z, _⟩ := s
      rw [h1, z] at h
      cases h
    · by_cases h2 : l = c
      · obtain ⟨g, k, ns, _, z, _⟩ := s
        rw [h2, z] at h
        cases h
      · have z := k l u h1 h2 e
        rw [h] at z
        cases z
theorem Src.nep {H : Hp} {p c l : Addr} {n : Nat} (s : Src H p c n) (h : H l = Option.none) : l ≠ p := by
  obtain ⟨g, k, ns, e, _⟩ := s
  exact (ne_of_none e h).symm
theorem Src.nec {H : Hp} {p c l : Addr} {n : Nat} (s : Src H p c n) (h : H l = Option.none) : l ≠ c := by
  obtain ⟨g, k, ns, _, e, _⟩ := s
  exact (ne_of_none e h).symm
theorem Src.netp {H : Hp} {p c l : Addr} {n : Nat} {xs : List V} (s : Src H p c n) (h : H l = some (.tup xs)) : l ≠ p := by
  obtain ⟨g, k, ns, e, _⟩ := s
  exact ne_of h e (by intro z; cases z)
theorem Src.netc {H : Hp} {p c l : Addr} {n : Nat} {xs : List V} (s : Src H p c n) (h : H l = some (.tup xs)) : l ≠ c := by
  obtain ⟨g, k, ns, _, e, _⟩ := s
  exact ne_of h e (by intro z; cases z)
/-- a list's new state while it is filled: all that stood ahead of it stands -/
theorem Kp.fill {p c D : Addr} {H H' : Hp} {o : HO} (k : Kp p c H H') (h : H D = Option.none) : Kp p c H (upd H' D o) := fun b u h1 h2 e => by
  rw [upd_ne (ne_of_none e h)]
  exact k b u h1 h2 e
/-- a tuple of texts at a -/
def TS (H : Hp) (a : Addr) (xs : List Str) : Prop := H a = some (.tup (xs.map V.str))
theorem TS.sq {K : PySem.W.Frag} {H : Hp} {a : Addr} {xs : List Str} (h : TS H a xs) : SqT K H a (xs.map V.str) := .inl (.inl h)
theorem TS.kp {p c a : Addr} {H H' : Hp} {n : Nat} {xs : List Str} (h : TS H a xs) (s : Src H p c n) (k : Kp p c H H') : TS H' a xs := k a _ (s.netp h) (s.netc h) h
def spSome : Sp := fun vs H Q _ => ∃ (p c a : Addr) (n : Nat) (xs : List Str), vs = [.ref p, .ref a] ∧ TS H a xs ∧ xs.length ≤ 12 ∧ Src H p c n ∧ n ≤ 900000 ∧
  ∀ H' t ys, H t = Option.none → TS H' t ys → ys.Sublist xs → Src H' p c (n + 13) → Kp p c H H' → Q (.ref t) H'
section
variable {P : Program} {w : World} {K : PySem.W.Frag} {mg : Str → Option Value} {base : Heap}
theorem ok_some {f fD : Addr} {fd fdD : FuncData} {k : Nat} (F : Fun K "_law_some" "_law_some" sSome f fd)
    (D : FnOk P w K mg base CX0 (k + 1) fD fdD ["_law_source_here", "_law_limit"] spDraw) (gD : mg "_law_draw" = some (.ref fD)) (kD : PySem.W.keepIn K (.ref fD) = true) (bD : Binds K fdD ["_law_source_here", "_law_limit"] [])
    (mt : mg "tuple" = none) : FnOk P w K mg base CX0 (k + 2) f fd ["_law_source_here", "_law_names_here"] spSome := by
  refine F.ok scSome (fun vs H Q E h => ?_) (fun cdv A outer s H vs Q E hr h => ?_)
  · obtain ⟨p, c, a, n, xs, rfl, _⟩ := h
    rfl
  · obtain ⟨p, c, a, n, xs, rfl, hT, hx, hS, hn, q⟩ := h
    have nd := scSome.nd
    refine ⟨_, pss_cons (ps_set (i := 2) nd rfl (.inr rfl) (pe_call D hr (by rfl) gD kD bD .nil pass0 (pa_cons (pv 0) (pa_cons pe_int pa_nil))))
      (pss_one (ps_ret (pe_callTy call_tuple_of (by rfl) mt (by decide +kernel) (pa_cons (pe_lc (own := [("_law_name", 3)]) (g := gName 3) rfl nd (pi_tup (pv 1)) (blkOk_by (own := [("_law_name", 3)]) (N := ["_law_source_here", "_law_names_here", "_law_threshold", "_law_name"]) (sc := defScope sSome) (by decide +kernel))
        (fun _ _ _ _ _ => pg_name (i := 3) nd rfl (.inl rfl)) (fun _ _ _ _ _ => pts_one (pt_cmpR op_gt (pe_call D hr (by rfl) gD kD bD .nil pass0 (pa_cons (pv 0) (pa_cons pe_int pa_nil))) (pv 2) (nomark _))) (fun _ _ _ _ _ => pv 3)) pa_nil)))), ?_⟩
    refine ⟨.ref p, rfl, p, c, n, 4, rfl, hS, by omega, by decide, by decide, fun H1 th _ _ S1 K1 => ?_⟩
    have T1 := hT.kp hS K1
    refine ⟨.ref a, rfl, a, rfl, ⟨_, T1.sq⟩, fun D nD => ?_⟩
    have nDp := S1.nep nD
    have nDc := S1.nec nD
    refine lc_tup (K := K) (a := a) (xs := xs.map V.str) (fun i H' => ∃ ys : List Str, ys.Sublist (xs.take i) ∧ H' D = some (.lst (ys.map V.str)) ∧ Src H' p c (n + 1 + i) ∧ Kp p c H1 H') ⟨[], List.nil_sublist _, upd_same, S1.upd nD, .new nD⟩ (fun i H' _ hW => ?_) (fun i x H' hx' hW => ?_) (fun H' hW => ?_)
    · obtain ⟨ys, _, _, _, K4⟩ := hW
      exact (T1.kp S1 K4).sq
    · obtain ⟨ys, hsub, eD, S4, K4⟩ := hW
      obtain ⟨y, rfl, ey⟩ : ∃ y, x = .str y ∧ xs[i]? = some y := by
        rw [List.getElem?_map] at hx'
        cases e : xs[i]? with
        | none => rw [e] at hx'; cases hx'
        | some y => rw [e] at hx'; exact ⟨y, (Option.some.inj hx').symm, rfl⟩
      have hi : i < xs.length := (List.getElem?_eq_some_iff.mp ey).1
      have tk : xs.take (i + 1) = xs.take i ++ [y] := by rw [List.take_add_one, ey]; rfl
      refine ⟨rfl, ?_⟩
      refine ⟨.ref p, rfl, p, c, n + 1 + i, 4, rfl, S4, by omega, by decide, by decide, fun H5 r _ _ S5 K5 => ?_⟩
      refine ⟨_, rfl, _, _, rfl, rfl, _, rfl, ite2 (fun _ => ?_) (fun _ => ?_)⟩
      · refine ⟨_, rfl, _, K5 D _ nDp nDc eD, ?_, ys ++ [y], ?_, ?_, S5.set nDp nDc, ((K4.trans K5)).fill nD⟩
        · rw [List.length_map, sizeLine_eq]
          have := hsub.length_le
          rw [List.length_take] at this
          omega
        · rw [tk]
          exact hsub.append (List.Sublist.refl _)
        · rw [upd_same, List.map_append]
          rfl
      · exact ⟨ys, by rw [tk]; exact hsub.trans (List.sublist_append_left _ _), K5 D _ nDp nDc eD, S5, K4.trans K5⟩
    · obtain ⟨ys, hsub, eD, S4, K4⟩ := hW
      rw [List.length_map] at hsub S4
      rw [List.take_length] at hsub
      refine ⟨D, _, rfl, .inl ⟨.inl (.inl eD), fun t nt => ?_⟩⟩
      exact q _ t ys ((K1.trans K4).none S4 nt) upd_same hsub ((S4.upd nt).mono (by omega)) ((K1.trans K4).trans (.new nt))
end
end Lk
set_option maxRecDepth 100000
namespace Lk
open PySem PySem.Spec PyProof.Rows L2
/-! ### dict(pairs) whose keys are tuples -/
theorem tk_at {prog : Program} {w : World} {h h' : Heap} {ks : List Key} {a : Addr} (x : IsTupleKey (mixKind prog w) h ks a) (k : ∀ o, h.get? a = some o → h'.get? a = some o) : IsTupleKey (mixKind prog w) h' ks a := by
  obtain ⟨o, items, n, ho, r⟩ := x
  exact ⟨o, items, n, k o ho, r⟩
def mergedH (xs more : List (List Key × Addr × Value)) : List (List Key × Addr × Value) := more.foldl (fun acc q => storedH acc q.1 q.2.1 q.2.2) xs
theorem storedH_len (xs : List (List Key × Addr × Value)) (k : List Key) (a : Addr) (v : Value) : (storedH xs k a v).length ≤ xs.length + 1 := by
  unfold storedH
  split
  · rw [List.length_map]
    omega
  · simp
section
variable {prog : Program} {w : World} {A : Around} {E : Value → Shared → Prop}
theorem upd_loopT {R : Result → Shared → Prop} {S I l : Addr} {items : Array Value} {res : Value} (hh : A.handled = none) (hu : A.units + 1 < cLine) (hlI : l ≠ I) (hSI : S ≠ I) (hSl : S ≠ l) :
    ∀ (rest : List (List Key × Addr × Value)) (i : Nat) (acc : List (List Key × Addr × Value)) (ix : Int) (t : Tok) (s : Shared), items.size = i + rest.length → acc.length + rest.length ≤ sizeLine →
      (∀ (j : Nat) (q : List Key × Addr × Value), rest[j]? = some q → ∃ (b : Addr), items[i + j]? = some (.ref b) ∧ b ≠ S ∧ b ≠ I ∧ IsTup s.heap b #[.ref q.2.1, q.2.2] ∧ q.2.1 ≠ S ∧ q.2.1 ≠ I ∧ IsTupleKey (mixKind prog w) s.heap q.1 q.2.1) →
      (∀ q ∈ acc, q.2.1 ≠ I) →
      s.heap.IsListIter I l i → s.heap.IsList l items → s.heap.DictOfH (tupleKind (mixKind prog w)) S acc →
      (∀ h' tk, h'.DictOfH (tupleKind (mixKind prog w)) S (mergedH acc rest) → (∀ b o, b ≠ S → b ≠ I → s.heap.get? b = some o → h'.get? b = some o) → R (.ok (.ret res)) { s with heap := h', toks := tk }) →
      codeAny (model prog w) A (.builtin "dict.update.loop" ⟨[.ref S, .ref I, .int ix t, res], []⟩) R s
  | [], i, acc, ix, t, s, hsz, hln, ht, hac, hit, hl, hm, hR => by
    refine codeAny_builtin ud_entry ?_
    rw [Around.under_plainId ud_plain _]
    show wpAny _ A.in1 (pyNext (.ref I) >>= _) _ _ s
    refine wpAny_bind (wpAny_pyNext_list_end (A := A.in1) hh hit hl (by first | exact Array.getElem?_eq_none (Nat.le_of_eq hsz) | (simp at hsz; simp; omega)) fun h' he => ?_)
    show wpAny _ A.in1 (Builtin.Dict.addKeywords S [] >>= _) _ _ _
    refine wpAny_bind (wpAny_pure (wpAny_pure ?_))
    refine hR h' s.toks ?_ fun b o _ hb e => he b o hb e
    obtain ⟨o, es, ep, ho, r1, r2, r3, r4, r5⟩ := hm
    exact ⟨o, es, ep, he _ _ hSI ho, r1, r2, r3, fun x hx => tk_at (r4 x hx) fun o' z => he _ _ (hac x hx) z, r5⟩
  | q :: rest, i, acc, ix, t, s, hsz, hln, ht, hac, hit, hl, hm, hR => by
    obtain ⟨b, hb, hbS, hbI, htup, hqS, hqI, hk⟩ := ht 0 q rfl
    rw [List.length_cons] at hsz hln
    refine codeAny_builtin ud_entry ?_
    rw [Around.under_plainId ud_plain _]
    show wpAny _ A.in1 (pyNext (.ref I) >>= _) _ _ s
    refine wpAny_bind (wpAny_pyNext_list_item (x := .ref b) hit hl (by simpa using hb) fun h1 hit1 hs1 => ?_)
    have ht1 : IsTup h1 b #[.ref q.2.1, q.2.2] := htup.extBut hs1.extBut hbI
    have hl1 : h1.IsList l items := hl.extBut hs1.extBut hlI
    have kp1 : ∀ c o, c ≠ I → s.heap.get? c = some o → h1.get? c = some o := fun c o hc e => hs1.extBut c o hc e
    have hm1 : h1.DictOfH (tupleKind (mixKind prog w)) S acc := by
      obtain ⟨o, es, ep, ho, r1, r2, r3, r4, r5⟩ := hm
      exact ⟨o, es, ep, kp1 _ _ hSI ho, r1, r2, r3, fun x hx => tk_at (r4 x hx) fun o' z => kp1 _ _ (hac x hx) z, r5⟩
    have hk1 : IsTupleKey (mixKind prog w) h1 q.1 q.2.1 := tk_at hk fun o z => kp1 _ _ hqI z
    obtain ⟨o, ho, hc, n, hd⟩ := id ht1
    show wpAny _ A.in1 (holding [Value.ref b] _ >>= _) _ _ _
    refine wpAny_bind (wpAny_holding ?_)
    refine wpAny_bind (wpAny_tryCatch ?_)
    unfold Builtin.Dict.pairItems
    refine wpAny_bind (wpAny_typeOf (T := "tuple") ⟨o, ho, hc⟩ ?_)
    rw [if_pos (by first | decide | rfl | simp)]
    refine wpAny_bind (wpAny_seqItems ho hd (wpAny_pure ?_))
    show wpAny _ A.in1 (holding [Value.ref q.2.1, q.2.2] (dictSet S (.ref q.2.1) q.2.2)) _ _ _
    refine wpAny_holding (wpAny_dictSet_heap (knd := tupleKind (mixKind prog w)) (k := q.1) (tupleKind_room_in1 hu) hk1 hm1 (fun h2 hm2 hs2 => ?_) (by omega))
    refine wpAny_pure ⟨plainId_quiet ud_plain _, upd_loopT (items := items) hh hu hlI hSI hSl rest (i + 1) (storedH acc q.1 q.2.1 q.2.2) (ix + 1) 0 _ (show items.size = i + 1 + rest.length by omega) ?_ (fun j q' e => ?_) ?_ ?_ ?_ hm2 fun h' tk hd' k => ?_⟩
    · have z := storedH_len acc q.1 q.2.1 q.2.2
      omega
    · obtain ⟨b', hb', hbS', hbI', htup', hqS', hqI', hk'⟩ := ht (j + 1) q' (by simpa using e)
      refine ⟨b', ?_, hbS', hbI', (htup'.extBut hs1.extBut hbI').extBut hs2.extBut hbS', hqS', hqI', tk_at hk' fun o z => hs2.extBut _ o hqS' (kp1 _ _ hqI' z)⟩
      rw [show i + 1 + j = i + (j + 1) by omega]
      exact hb'
    · intro x hx
      unfold storedH at hx
      split at hx
      · obtain ⟨y, hy, rfl⟩ := List.mem_map.mp hx
        have z := hac y hy
        unfold putAt
        split
        · exact z
        · exact z
      · rcases List.mem_append.mp hx with hx | hx
        · exact hac x hx
        · rw [List.mem_singleton.mp hx]
          exact hqI
    · exact hit1.at fun o' e => hs2.extBut I o' (Ne.symm hSI) e
    · exact hl1.extBut hs2.extBut (Ne.symm hSl)
    · exact hR h' tk hd' fun c oc h3 h4 e => k c oc h3 h4 (hs2.extBut c oc h3 (hs1.extBut c oc h4 e))
theorem call_dict_pairsT {s : Shared} {l : Addr} {ol : Obj} {items : Array Value} {n : Nat} {prs : List (List Key × Addr × Value)} {Q : Value → Shared → Prop} (hh : A.handled = none) (hu : A.units + 2 < cLine) (hl : s.heap.get? l = some ol) (hc : ol.cls = .type "list") (hd : ol.dict = none)
    (hdat : ol.data = .seq items n) (hsz : items.size = prs.length) (hln : prs.length ≤ sizeLine)
    (ht : ∀ (j : Nat) (q : List Key × Addr × Value), prs[j]? = some q → ∃ (b : Addr), items[j]? = some (.ref b) ∧ IsTup s.heap b #[.ref q.2.1, q.2.2] ∧ IsTupleKey (mixKind prog w) s.heap q.1 q.2.1)
    (h : ∀ h' tk, h'.DictOfH (tupleKind (mixKind prog w)) s.heap.objs.size (mergedH [] prs) → (∀ b o, s.heap.get? b = some o → h'.get? b = some o) → Q (.ref s.heap.objs.size) { s with heap := h', toks := tk }) :
    wpAny (model prog w) A (call (.type "dict") [.ref l]) Q E s := by
  refine callType_codes (Q₁ := fun obj s₁ => obj = .ref s.heap.objs.size ∧ s₁ = { s with heap := s.heap.push { cls := .type "dict", data := .dict #[] } }) PySem.F.kt_called_dict (PySem.F.kt_typeCall_dict_1 _) PySem.F.entry_dict_init (kt_code_dict_new _ ⟨rfl, rfl⟩) ?_
  rintro obj s₁ ⟨rfl, rfl⟩
  have hnew0 : (s.heap.push { cls := .type "dict", data := .dict #[] }).DictOf (mixKind prog w) s.heap.objs.size [] := Heap.DictOf.new s.heap
  have hnew : (s.heap.push { cls := .type "dict", data := .dict #[] }).DictOfH (tupleKind (mixKind prog w)) s.heap.objs.size [] := ⟨_, #[], 0, Heap.get?_push_size _ rfl, ⟨rfl, rfl, rfl⟩, rfl, rfl, (fun x hx => nomatch hx), List.Pairwise.nil⟩
  have k0 : ∀ b o, s.heap.get? b = some o → (s.heap.push { cls := .type "dict", data := .dict #[] }).get? b = some o := fun b o e => Heap.get?_push_of_some _ e
  refine ⟨hnew0.typeIs, PySem.F.args_dict_init_2 _ _, ?_⟩
  unfold Builtin.«dict.__init__»
  refine wpAny_bind ?_
  unfold Builtin.Dict.selfAndRest
  refine wpAny_bind (wpAny_notOrdered_dict hnew0.typeIs ?_)
  show wpAny _ _ (pure (s.heap.objs.size, [Value.ref l])) _ _ _
  refine wpAny_pure ?_
  show wpAny _ _ (Builtin.Dict.updateFrom "dict.__init__" s.heap.objs.size (.ref l) [] .none) _ _ _
  unfold Builtin.Dict.updateFrom
  refine wpAny_bind (wpAny_typeOf (T := "list") ⟨ol, k0 _ _ hl, hc⟩ ?_)
  rw [if_pos (by first | decide | rfl | simp)]
  refine wpAny_bind (miss_list (k0 _ _ hl) hc hdat hd hh fun h1 tk1 hk1 => ?_)
  rw [if_pos (show (none : Option Value).isNone = true from rfl)]
  refine wpAny_bind (wpAny_rule ?_)
  have hl1 : h1.IsList l items := ⟨ol, hk1 _ _ (k0 _ _ hl), hc, n, hdat⟩
  have hS1 : s.heap.objs.size < h1.objs.size := by
    have e : (s.heap.push { cls := .type "dict", data := .dict #[] }).get? s.heap.objs.size = some { cls := .type "dict", data := .dict #[] } := Heap.get?_push_size _ rfl
    exact Heap.lt_size (hk1 _ _ e)
  refine wpAny_bind (wpAny_pyIter_list hl1 ?_)
  have k2 : ∀ b o, h1.get? b = some o → (h1.push { cls := .type "list_iterator", data := .fields #[.ref l, .int 0 0] }).get? b = some o := fun b o e => Heap.get?_push_of_some _ e
  have hlt : l < s.heap.objs.size := Heap.lt_size hl
  have hm0 : ({ s with heap := h1.push { cls := .type "list_iterator", data := .fields #[.ref l, .int 0 0] }, toks := tk1 } : Shared).heap.DictOfH (tupleKind (mixKind prog w)) s.heap.objs.size [] := by
    obtain ⟨o, es, ep, ho, r1, r2, r3, r4, r5⟩ := hnew
    exact ⟨o, es, ep, k2 _ _ (hk1 _ _ ho), r1, r2, r3, (fun x hx => nomatch hx), List.Pairwise.nil⟩
  have key := upd_loopT (prog := prog) (w := w) (A := A.in1) (R := wants (fun r s₂ => r = .none ∧ Q (.ref s.heap.objs.size) s₂) E) (S := s.heap.objs.size) (I := h1.objs.size) (l := l) (items := items) (res := Value.none) hh (by show A.units + 1 + 1 < cLine; omega)
    (Nat.ne_of_lt (Nat.lt_trans hlt hS1)) (Nat.ne_of_lt hS1) (Nat.ne_of_gt hlt) prs 0 [] 0 0
    { s with heap := h1.push { cls := .type "list_iterator", data := .fields #[.ref l, .int 0 0] }, toks := tk1 } (by rw [hsz, Nat.zero_add]) (by rw [List.length_nil, Nat.zero_add]; exact hln)
    (fun j q e => by
      obtain ⟨b, e1, e2, e3⟩ := ht j q e
      have hb : b < s.heap.objs.size := e2.lt
      have hq : q.2.1 < s.heap.objs.size := let ⟨_, _, _, z, _⟩ := e3; Heap.lt_size z
      exact ⟨b, by rw [Nat.zero_add]; exact e1, Nat.ne_of_lt hb, Nat.ne_of_lt (Nat.lt_trans hb hS1), e2.keeps fun c o z => k2 _ _ (hk1 _ _ (k0 _ _ z)), Nat.ne_of_lt hq, Nat.ne_of_lt (Nat.lt_trans hq hS1), tk_at e3 fun o z => k2 _ _ (hk1 _ _ (k0 _ _ z))⟩)
    (fun q hq => nomatch hq)
    ⟨_, Heap.get?_push_size _ rfl, rfl, rfl⟩ (hl1.at fun o e => k2 _ _ e) hm0
    (fun h' tk hd' k => ⟨rfl, h h' tk hd' fun b o e => k b o (Nat.ne_of_lt (Heap.lt_size e)) (Nat.ne_of_lt (Nat.lt_trans (Heap.lt_size e) hS1)) (k2 _ _ (hk1 _ _ (k0 _ _ e)))⟩)
  first
    | exact wpAny_pure ⟨plainId_quiet ud_plain _, key⟩
    | exact wpAny_bind (wpAny_pure (wpAny_pure ⟨plainId_quiet ud_plain _, key⟩))
end

def mergeT (kvs more : List (List Key × V)) : List (List Key × V) := more.foldl (fun acc kv => putK acc kv.1 kv.2) kvs
theorem mergeT_len : ∀ (more kvs : List (List Key × V)), (mergeT kvs more).length ≤ kvs.length + more.length
  | [], kvs => Nat.le_refl _
  | kv :: r, kvs => by
    have h := mergeT_len r (putK kvs kv.1 kv.2)
    have h2 := length_putK kvs kv.1 kv.2
    show (mergeT (putK kvs kv.1 kv.2) r).length ≤ kvs.length + (r.length + 1)
    omega
section
variable {X : Cx}
/-- the pairs in the heap -/
def PairsT (H : Hp) : List Addr → List (List Key × V) → Prop := Paired fun p kv => ∃ t, H p = some (.tup [.ref t, kv.2]) ∧ H t = some (.tup (kv.1.map kV))
theorem pairsT_of {pins : List (Addr × Obj)} {σ : L2.St} {H : Hp} {s : Shared} (I : Inv X pins σ H s) : ∀ {ps : List Addr} {kvs : List (List Key × V)}, PairsT H ps kvs →
    ∃ prs : List (List Key × Addr × Value), KT H kvs prs ∧ prs.length = ps.length ∧ ∀ (j : Nat) (q : List Key × Addr × Value), prs[j]? = some q → ∃ (b : Addr), ps[j]? = some b ∧ IsTup s.heap b #[.ref q.2.1, q.2.2] ∧ IsTupleKey (mixKind X.prog X.w) s.heap q.1 q.2.1
  | _, _, .nil => ⟨[], .nil, rfl, fun j q e => by simp at e⟩
  | _, _, .cons (a := p) (b := kv) h t => by
    obtain ⟨prs, r, hl, hp⟩ := pairsT_of I t
    obtain ⟨tk, hpt, htt⟩ := h
    obtain ⟨its, rv, ht, _⟩ := I.tuple (.inl (.inl hpt))
    obtain ⟨u, y, ei, ru, ry⟩ := vals2 rv
    subst ei
    obtain rfl : u = Value.ref tk := ru
    have kk := key_of I.hok htt
    refine ⟨(kv.1, tk, y) :: prs, .cons ⟨rfl, htt, ry⟩ r, by rw [List.length_cons, List.length_cons, hl], fun j q e => ?_⟩
    cases j with
    | zero =>
      have e' : (kv.1, tk, y) = q := Option.some.inj e
      subst e'
      exact ⟨p, rfl, ht, kk⟩
    | succ j =>
      obtain ⟨b, e1, e2, e3⟩ := hp j q (by simpa using e)
      exact ⟨b, by simpa using e1, e2, e3⟩
theorem KT.merge {H : Hp} : ∀ {more : List (List Key × V)} {rs : List (List Key × Addr × Value)} {kvs : List (List Key × V)} {xs : List (List Key × Addr × Value)}, KT H more rs → KT H kvs xs → KT H (mergeT kvs more) (mergedH xs rs) := by
  intro more rs kvs xs r
  unfold KT at r
  induction r generalizing kvs xs with
  | nil => exact fun h => h
  | cons a t ih =>
    rename_i kv q _ _
    intro h
    obtain ⟨k, b, v⟩ := q
    obtain ⟨e1, e2, e3⟩ := a
    have e1' : kv.1 = k := e1
    subst e1'
    exact ih (KT.put h kv.1 e2 e3)
/-- dict(ps) of pairs (a tuple of ints and texts, a value) -/
theorem call_dictT (hcalm : X.calm = true) (hu : X.A.units + 2 < cLine) : CallR X (.type "dict") (fun xs H Q => ∃ (a : Addr) (ps : List Addr) (kvs : List (List Key × V)), xs = [.ref a] ∧ SqL X.K H a (ps.map V.ref) ∧ PairsT H ps kvs ∧
    ∀ p, H p = none → Q (.ref p) (upd H p (.dT (mergeT [] kvs)))) := by
  intro pins s σ H xs us Q I r q
  obtain ⟨a, ps, kvs, ex, hq, hp, q⟩ := q
  subst ex
  obtain ⟨u, eu, rx⟩ := vals1 r
  subst eu
  cases rx
  obtain ⟨its, rv, pl, hz⟩ := I.list hq
  have ei := refs_at rv
  subst ei
  rw [List.length_map] at hz
  obtain ⟨prs, rel, hl, hpr⟩ := pairsT_of I hp
  obtain ⟨o, n, ho, hc, hd, hdat⟩ := pl
  refine call_dict_pairsT (prs := prs) (I.ok.hd hcalm) hu ho hc hd hdat (by simp [hl]) (by rw [hl]; exact hz) (fun j q' e => ?_) fun h' tk hd' k => ?_
  · obtain ⟨b, e1, e2, e3⟩ := hpr j q' e
    exact ⟨b, by simp [e1], e2, e3⟩
  · have hm : (s.heap.objs.size == sysModules) = false := beq_eq_false_iff_ne.mpr (Nat.ne_of_gt I.big)
    have hlen : (mergeT [] kvs).length ≤ sizeLine := by
      refine Nat.le_trans (mergeT_len kvs []) ?_
      have := Paired.length rel
      rw [List.length_nil, Nat.zero_add]
      omega
    have hno := I.hok.fresh (Nat.le_refl s.heap.objs.size)
    refine ⟨.ref s.heap.objs.size, upd H s.heap.objs.size (.dT (mergeT [] kvs)), I.laid (t' := tk) k (Nat.le_refl _) ?_, rfl, q _ hno⟩
    obtain ⟨q1, es, ep, h1, h2, h3, h4, h5, h6⟩ := hd'
    refine ⟨hlen, hm, _, (KT.merge rel .nil).keeps fun c ys ec => ?_, q1, es, ep, h1, h2, h3, h4, h6⟩
    rw [upd_ne (ne_of_none ec hno)]
    exact ec
end
end Lk
set_option maxRecDepth 100000
namespace Lk
open PySem PySem.Spec PyProof.Rows L2
/-! ### the order of tuples of texts -/
def lexS : List Str → List Str → Bool
  | [], [] => false
  | [], _ :: _ => true
  | _ :: _, [] => false
  | x :: xs, y :: ys => if x = y then lexS xs ys else decide (cds x < cds y)
theorem lexS_iff : ∀ {xs ys : List Str}, lexS xs ys = true ↔ xs.map cds < ys.map cds
  | [], [] => by simp [lexS]
  | [], _ :: _ => by simp [lexS]
  | _ :: _, [] => by simp [lexS]
  | x :: xs, y :: ys => by
    have ih := @lexS_iff xs ys
    rw [List.map_cons, List.map_cons, List.cons_lt_cons_iff]
    unfold lexS
    by_cases e : x = y
    · subst e
      rw [if_pos rfl, ih]
      constructor
      · exact fun h => .inr ⟨rfl, h⟩
      · rintro (h | h)
        · exact absurd h asc_irr
        · exact h.2
    · rw [if_neg e, decide_eq_true_iff]
      constructor
      · exact fun h => .inl h
      · rintro (h | h)
        · exact h
        · exact absurd (ext_cds h.1) e
theorem lexS_swo : SrtO.Swo lexS := by
  refine ⟨fun x y h => ?_, fun x y z h1 h2 => ?_⟩
  · have h' := lexS_iff.mp h
    rw [Bool.eq_false_iff, ne_eq, lexS_iff]
    exact List.lt_asymm h'
  · rw [Bool.eq_false_iff, ne_eq, lexS_iff] at h1 h2 ⊢
    exact List.le_trans (l₁ := x.map cds) (l₂ := y.map cds) (l₃ := z.map cds) h1 h2
section
open PySem.SeqAt
open PySem.AutoSeq1 (wpAny_loadPart')
open PySem.MeetsSeq PySem.MeetsSeq2 PySem.MeetsSeq3
theorem eqAt_str (A : Around) (s : Shared) (a : Str) (t : Tok) (c : Str) (u : Tok) : ∃ e, SeqAt.EqAt A s (.str a t) (.str c u) e ∧ (e = true ↔ a = c) :=
  ⟨(a == c), SeqAt.EqAt.str_str a t c u, by simp⟩
theorem rcLt_str (A : Around) (s : Shared) (a : Str) (t : Tok) (c : Str) (u : Tok) (prog : Program) (w : World) (E : Value → Shared → Prop) (Q : Value → Shared → Prop) (h : Q (.bool (decide (cds a < cds c))) s) :
    wpAny (model prog w) A (richCompare .Lt (.str a t) (.str c u)) Q E s :=
  (PyProof.Rows.lt_str h : wpAny (model prog w) A (compareOp .Lt (.str a t) (.str c u)) Q E s)
theorem strsAre_len {vs : List Value} {xs : List Str} (h : StrsAre vs xs) : vs.length = xs.length := by
  induction h with
  | nil => rfl
  | cons y t _ ih => rw [List.length_cons, List.length_cons, ih]
theorem tuple_lt_strs (l b : Addr) (items items2 : Array Value) (n n2 : Nat) (dd dd2 : Option Addr) (sl sl2 : Array (Option Value)) (ns ms : List Str) (hi : StrsAre items.toList ns) (hj : StrsAre items2.toList ms) :
    Meets (Builtin.«tuple.__lt__» ⟨[.ref l, .ref b], []⟩)
      (fun _ R s => s.heap.get? l = some { cls := .type "tuple", dict := dd, data := .seq items n, slots := sl } ∧ s.heap.get? b = some { cls := .type "tuple", dict := dd2, data := .seq items2 n2, slots := sl2 } ∧
        R (.ok (.ret (.bool (lexS ns ms)))) s) :=
  .of_wp fun prog w A R s h => by
    obtain ⟨hp, g, d, tk, os⟩ := s; obtain ⟨hl, hb, h⟩ := h
    have f2 := AutoSeq1.sub_tuple_tuple
    have z1 : items.size = ns.length := by rw [← strsAre_len hi]; simp
    have z2 : items2.size = ms.length := by rw [← strsAre_len hj]; simp
    wp_walk using wpAny_loadPart' hl, wpAny_loadPart' hb, wpAny_forIn_list _ (fun rest b s' => b.1 = none ∧ s' = ⟨hp, g, d, tk, os⟩ ∧ ∃ (vs ws : List Value) (ns' ms' : List Str), rest = vs.zip ws ∧
      StrsAre vs ns' ∧ StrsAre ws ms' ∧ ns'.length + items2.size = ms'.length + items.size ∧ R (.ok (.ret (.bool (lexS ns' ms')))) ⟨hp, g, d, tk, os⟩) _
    case turn =>
      rintro ⟨y, x⟩ rest b s' ⟨hb', rfl, vs, ws, ns', ms', hz, hvi, hwi, hlen, hR⟩
      cases hvi with
      | nil => rw [List.zip_nil_left] at hz; cases hz
      | cons a t hvi' =>
        cases hwi with
        | nil => rw [List.zip_nil_right] at hz; cases hz
        | cons c u hwi' =>
          rw [List.zip_cons_cons] at hz
          injection hz with hyx hrest
          injection hyx with hy hx
          subst hy hx
          unfold lexS at hR
          simp only [List.length_cons] at hlen
          obtain ⟨e, he, hiff⟩ := eqAt_str A.in1 ⟨hp, g, d, tk, os⟩ a t c u
          refine wpAny_bind (he prog w _ _ ?_)
          cases e with
          | true =>
            rw [if_pos (hiff.mp rfl)] at hR
            wp_walk
            exact ⟨rfl, rfl, _, _, _, _, hrest, hvi', hwi', by omega, hR⟩
          | false =>
            rw [if_neg (fun q => absurd (hiff.mpr q) Bool.false_ne_true)] at hR
            have hri := rcLt_str A.in1 ⟨hp, g, d, tk, os⟩ a t c u prog w
            wp_walk using hri
            exact ⟨_, rfl, by simpa using hR⟩
    case fin =>
      rintro ⟨b1, b2⟩ s' ⟨hb', rfl, vs, ws, ns', ms', hz, hvi, hwi, hlen, hR⟩
      simp only at hb'
      subst hb'
      have hv : lexS ns' ms' = decide (items.size < items2.size) := by
        cases hvi with
        | nil =>
          cases hwi with
          | nil =>
            simp only [List.length_nil] at hlen
            exact (decide_eq_false (by omega)).symm
          | cons c u hw =>
            simp only [List.length_nil, List.length_cons] at hlen
            exact (decide_eq_true (by omega)).symm
        | cons a t hv =>
          cases hwi with
          | nil =>
            simp only [List.length_nil, List.length_cons] at hlen
            exact (decide_eq_false (by omega)).symm
          | cons c u hw =>
            rw [List.zip_cons_cons] at hz
            cases hz
      rw [hv] at hR
      wp_walk
      exact ⟨_, rfl, by simpa [Builtin.Tuple.tupleCompareSizes] using hR⟩
    case h =>
      exact ⟨rfl, rfl, items.toList, items2.toList, ns, ms, rfl, hi, hj, by omega, h⟩
end
section
variable {prog : Program} {w : World} {A : Around} {E : Value → Shared → Prop} {s : Shared}
theorem lt_tupStrs {l b : Addr} {items items2 : Array Value} {ns ms : List Str} {Q : Value → Shared → Prop} (hl : IsTup s.heap l items) (hb : IsTup s.heap b items2) (hi : StrsAre items.toList ns) (hj : StrsAre items2.toList ms)
    (hu : A.units < cLine) (h : Q (.bool (lexS ns ms)) s) : wpAny (model prog w) A (compareOp .Lt (.ref l) (.ref b)) Q E s := by
  obtain ⟨⟨cls, dd, data, sl⟩, ho, hc, n, hd⟩ := id hl
  obtain ⟨⟨cls2, dd2, data2, sl2⟩, ho2, hc2, n2, hd2⟩ := id hb
  simp only at hc hd hc2 hd2
  subst hc hd hc2 hd2
  exact richCompare_meets_room (op := .Lt) ⟨_, ho, rfl⟩ ⟨_, ho2, rfl⟩ PySem.F.slot_tuple_lt PySem.F.entry_tuple_lt (PySem.F.args_tuple_lt_2 _ _) (tuple_lt_strs l b items items2 n n2 dd dd2 sl sl2 ns ms hi hj)
    ⟨ho, ho2, show Value.bool (lexS ns ms) ≠ Value.notImplemented ∧ Q (.bool (lexS ns ms)) s from ⟨(fun x => nomatch x), h⟩⟩ hu
/-- at v: a tuple of the texts xs -/
def TupS (h : Heap) (v : Value) (xs : List Str) : Prop := ∃ a its, v = .ref a ∧ IsTup h a its ∧ StrsAre its.toList xs
/-- one comparison by the tuples' own road -/
theorem lex_walk : ∀ (b : Bool) {vs us : List Value} {xs ys : List Str} (fin : Bool) (i : Nat), StrsAre vs xs → StrsAre us ys → (∀ (Z : True), (∃ d : Nat, True) → True) →
    (fin = lexS (xs.drop (min xs.length ys.length)) (ys.drop (min xs.length ys.length))) →
    PySem.W.KatLex prog w A b fin (fun r s' => s' = s ∧ r = lexS xs ys) (vs.zip us) i s
  | b, [], us, xs, ys, fin, i, h1, h2, _, hf => by
    cases h1
    rw [List.zip_nil_left]
    refine PySem.W.kat_nil ⟨rfl, ?_⟩
    simpa using hf
  | b, v :: vs, [], xs, ys, fin, i, h1, h2, _, hf => by
    cases h2
    rw [List.zip_nil_right]
    refine PySem.W.kat_nil ⟨rfl, ?_⟩
    simpa using hf
  | b, v :: vs, u :: us, xs, ys, fin, i, h1, h2, z, hf => by
    cases h1 with
    | cons x t h1 =>
      cases h2 with
      | cons y t2 h2 =>
        rw [List.zip_cons_cons]
        refine PySem.W.kat_cons (SeqAt.EqAt.str_str x t y t2 prog w _ _ ?_)
        refine PySem.W.kat_go (fun e1 => ?_) (fun e1 => ?_)
        · have ex : x = y := by simpa using e1
          subst ex
          refine PySem.W.kat_yes ?_
          have g : ∀ (a b : List Str), lexS (x :: a) (x :: b) = lexS a b := fun a b => by
            show (if x = x then lexS a b else _) = _
            rw [if_pos rfl]
          rw [g]
          refine lex_walk b fin (i + 1) h1 h2 z ?_
          simpa using hf
        · have ex : ¬ x = y := by simpa using e1
          refine PySem.W.kat_no ?_
          have g : ∀ (a b : List Str), lexS (x :: a) (y :: b) = decide (cds x < cds y) := fun a b => by
            show (if x = y then lexS a b else _) = _
            rw [if_neg ex]
          rw [g]
          cases (b && i == 0) with
          | true => exact oneLt_str ⟨rfl, rfl⟩
          | false => exact PySem.W.kat_one _ _ (PyProof.Rows.lt_str ⟨rfl, rfl⟩)
end
end Lk
set_option maxRecDepth 100000
namespace Lk
open PySem PySem.Spec PyProof.Rows L2
section
variable {prog : Program} {w : World} {A : Around} {E : Value → Shared → Prop} {s : Shared}
theorem TupS.at {h h' : Heap} {v : Value} {xs : List Str} (x : TupS h v xs) (k : ∀ b o, h.get? b = some o → o.cls = .type "tuple" → h'.get? b = some o) : TupS h' v xs := by
  obtain ⟨a, its, rfl, ⟨o, ho, hc, r⟩, i⟩ := x
  exact ⟨a, its, rfl, ⟨o, k a o ho hc, hc, r⟩, i⟩
theorem cmp_tuples {k : Value → List Str} {vs : List Value} (hp : ∀ v ∈ vs, TupS s.heap v (k v)) (b : Bool) : SrtO.Cmp prog w A s (tuples' b) (fun p => p.1 ∈ vs) (SrtO.lt2 fun v u => lexS (k v) (k u)) := by
  intro p q hm hm'
  obtain ⟨a, its, e, ⟨o, ho, hc, n, hd⟩, i⟩ := hp _ hm
  obtain ⟨a2, its2, e2, ⟨o2, ho2, hc2, n2, hd2⟩, i2⟩ := hp _ hm'
  show wpAny (model prog w) A (keyLt' (tuples' b) p.1 q.1) (fun r s' => s' = s ∧ r = lexS (k p.1) (k q.1)) (fun _ _ => False) s
  generalize k p.1 = xs at i ⊢
  generalize k q.1 = ys at i2 ⊢
  rw [e, e2]
  refine PySem.W.kat_lt ho hd ho2 hd2 (lex_walk b _ 0 i i2 (fun _ _ => trivial) ?_)
  have z1 : its.size = xs.length := by rw [← strsAre_len i]; simp
  have z2 : its2.size = ys.length := by rw [← strsAre_len i2]; simp
  rw [z1, z2]
  by_cases h : xs.length < ys.length
  · rw [decide_eq_true h, Nat.min_eq_left (Nat.le_of_lt h), List.drop_length]
    cases q : ys.drop xs.length with
    | nil =>
      have := congrArg List.length q
      rw [List.length_drop, List.length_nil] at this
      omega
    | cons y r => rfl
  · rw [decide_eq_false h, Nat.min_eq_right (by omega), List.drop_length]
    cases q : xs.drop ys.length with
    | nil => rfl
    | cons y r => rfl
theorem cmp_general {k : Value → List Str} {vs : List Value} (hu : A.units < cLine) (hp : ∀ v ∈ vs, TupS s.heap v (k v)) : SrtO.Cmp prog w A s general' (fun p => p.1 ∈ vs) (SrtO.lt2 fun v u => lexS (k v) (k u)) := by
  intro p q hm hm'
  obtain ⟨a, its, e, t1, i⟩ := hp _ hm
  obtain ⟨a2, its2, e2, t2, i2⟩ := hp _ hm'
  show wpAny (model prog w) A (oneLt' false p.1 q.1) (fun r s' => s' = s ∧ r = lexS (k p.1) (k q.1)) (fun _ _ => False) s
  rw [show lexS (k p.1) (k q.1) = lexS (k p.1) (k q.1) from rfl]
  generalize k p.1 = xs at i ⊢
  generalize k q.1 = ys at i2 ⊢
  rw [e, e2]
  exact PySem.W.kat_one _ _ (lt_tupStrs t1 t2 i i2 hu ⟨rfl, rfl⟩)
theorem cmp_one {k : Value → List Str} {vs : List Value} (hu : A.units < cLine) (hp : ∀ v ∈ vs, TupS s.heap v (k v)) : SrtO.Cmp prog w A s oneType' (fun p => p.1 ∈ vs) (SrtO.lt2 fun v u => lexS (k v) (k u)) := by
  intro p q hm hm'
  obtain ⟨a, its, e, t1, i⟩ := hp _ hm
  obtain ⟨a2, its2, e2, t2, i2⟩ := hp _ hm'
  show wpAny (model prog w) A (oneLt' true p.1 q.1) (fun r s' => s' = s ∧ r = lexS (k p.1) (k q.1)) (fun _ _ => False) s
  generalize k p.1 = xs at i ⊢
  generalize k q.1 = ys at i2 ⊢
  rw [e, e2, oneLt'_eq]
  simp only [if_true]
  refine wpAny_bind (wpAny_cRoomFor hu ?_)
  obtain ⟨⟨cls, dd, data, sl⟩, ho, hc, n, hd⟩ := id t1
  obtain ⟨⟨cls2, dd2, data2, sl2⟩, ho2, hc2, n2, hd2⟩ := id t2
  simp only at hc hd hc2 hd2
  subst hc hd hc2 hd2
  refine wpAny_bind (wpAny_callSpecialIfBound?_slot (T := "tuple") ⟨_, ho, rfl⟩ PySem.F.slot_tuple_lt (call_meets PySem.F.slot_tuple_lt ⟨_, ho, rfl⟩ PySem.F.entry_tuple_lt (PySem.F.args_tuple_lt_2 _ _) (tuple_lt_strs a a2 its its2 n n2 dd dd2 sl sl2 xs ys i i2) ⟨ho, ho2, ?_⟩))
  exact wpAny_truthy_bool ⟨rfl, rfl⟩
/-- the first texts -/
theorem firstsS {h : Heap} {k : Value → List Str} : ∀ vs : List Value, (∀ v ∈ vs, TupS h v (k v)) → (∀ v ∈ vs, k v ≠ []) → ∃ fs, PySem.W.KatTups h vs fs ∧ fs.length = vs.length ∧ ∀ f ∈ fs, ∃ x t, f = Value.str x t
  | [], _, _ => ⟨[], PySem.W.KatTups.nil, rfl, fun f hf => by simp at hf⟩
  | v :: vs, x, ne => by
    obtain ⟨fs, h1, h2, h3⟩ := firstsS vs (fun u hu => x u (List.mem_cons_of_mem _ hu)) fun u hu => ne u (List.mem_cons_of_mem _ hu)
    obtain ⟨a, its, rfl, ⟨o, ho, hc, n, hd⟩, i⟩ := x v (List.mem_cons_self ..)
    have nk := ne _ (List.mem_cons_self ..)
    generalize k (Value.ref a) = xs at i nk
    obtain ⟨its⟩ := its
    cases i with
    | nil => exact absurd rfl nk
    | cons y t i =>
      refine ⟨.str y t :: fs, PySem.W.KatTups.cons ho hc hd rfl h1, by rw [List.length_cons, List.length_cons, h2], fun f hm => ?_⟩
      rcases List.mem_cons.mp hm with rfl | hm
      · exact ⟨y, t, rfl⟩
      · exact h3 f hm
/-- the firsts, where some tuple may be empty -/
theorem firstsO {k : Value → List Str} : ∀ (vs : List Value) {Q : List (Option Value) → Shared → Prop}, (∀ v ∈ vs, TupS s.heap v (k v)) →
    (∀ fs : List (Option Value), fs.map Option.isSome = vs.map (fun v => !(k v).isEmpty) → Q fs s) → wpAny (model prog w) A (vs.mapM firstOfTuple') Q E s
  | [], Q, _, h => by rw [List.mapM_nil]; exact wpAny_pure (h [] rfl)
  | v :: vs, Q, x, h => by
    obtain ⟨a, its, e, ⟨o, ho, hc, n, hd⟩, i⟩ := x v (List.mem_cons_self ..)
    have hx := x v (List.mem_cons_self ..)
    rw [List.mapM_cons]
    refine wpAny_bind ?_
    rw [PySem.W.kas_first_eq]
    have L : PySem.W.Looks (model prog w) s.heap (typeOf v) o.cls := by
      rw [e]
      exact (PySem.W.Looks.ld ho).andThen .now
    refine wpAny_bind (PySem.W.Looks.here L ?_)
    rw [hc, if_neg (by first | decide | simp)]
    rw [e]
    refine wpAny_bind (listItems_at ho hd (wpAny_pure ?_))
    refine wpAny_bind (firstsO vs (fun u hu => x u (List.mem_cons_of_mem _ hu)) fun fs hf => wpAny_pure (h _ ?_))
    rw [List.map_cons, List.map_cons, hf]
    refine congrArg (fun z => z :: _) ?_
    generalize k v = xs at i
    obtain ⟨its⟩ := its
    cases i with
    | nil => rfl
    | cons y t i => rfl
theorem kind_empty {k : Value → List Str} {vs : List Value} (h2 : 2 ≤ vs.length) (hp : ∀ v ∈ vs, TupS s.heap v (k v)) (he : ∃ v ∈ vs, k v = []) {Q : SortKind → Shared → Prop} (κ : SortKind) (hκ : κ = if (vs.head?.any fun v => !(k v).isEmpty) = true then general' else oneType')
    (h : Q κ s) : wpAny (model prog w) A (keyKind' vs.toArray) Q E s := by
  rw [keyKind'_eq, List.mapM_toArray, map_eq_pure_bind]
  refine wpAny_bind (wpAny_bind (firstsO vs hp fun fs hf => wpAny_pure ?_))
  have hall : (fs.toArray.all fun x => x.isSome) = false := by
    rw [Bool.eq_false_iff]
    intro z
    obtain ⟨v, hv, ev⟩ := he
    obtain ⟨i, hi, rfl⟩ := List.getElem_of_mem hv
    have e1 := congrArg (fun l : List Bool => l[i]?) hf
    simp only [List.getElem?_map, List.getElem?_eq_getElem hi, Option.map_some, ev] at e1
    have z2 : fs.all (fun x => x.isSome) = true := by simpa using z
    cases q : fs[i]? with
    | none => rw [q] at e1; cases e1
    | some f =>
      rw [q] at e1
      have := List.all_eq_true.mp z2 f (List.mem_of_getElem? q)
      have e3 : f.isSome = false := Option.some.inj e1
      rw [this] at e3
      cases e3
  rw [hall, if_neg Bool.false_ne_true]
  obtain ⟨v, r, rfl⟩ : ∃ v r, vs = v :: r := by
    match vs, h2 with
    | v :: r, _ => exact ⟨v, r, rfl⟩
  obtain ⟨f, fr, rfl⟩ : ∃ f fr, fs = f :: fr := by
    match fs, hf with
    | f :: fr, _ => exact ⟨f, fr, rfl⟩
  have hf1 : f.isSome = !(k v).isEmpty := by
    rw [List.map_cons, List.map_cons] at hf
    exact (List.cons.inj hf).1
  have h0 : (f :: fr).toArray[0]? = some f := by simp
  rw [h0]
  have hb : ((some f).bind id).isSome = !(k v).isEmpty := by
    rw [← hf1]
    rfl
  have hh : ((v :: r).head?.any fun v => !(k v).isEmpty) = !(k v).isEmpty := rfl
  rw [hh] at hκ
  rw [hb]
  cases q : (k v).isEmpty with
  | false =>
    rw [q] at hκ
    rw [if_pos (by rfl)] at hκ ⊢
    rw [hκ] at h
    exact wpAny_pure h
  | true =>
    rw [q] at hκ
    rw [if_neg (by decide)] at hκ ⊢
    rw [hκ] at h
    have hT : ∀ u ∈ v :: r, PySem.W.Looks (model prog w) s.heap (typeOf u) (.type "tuple") := fun u hu => by
      obtain ⟨a, its, e, ⟨o, ho, hc, n, hd⟩, i⟩ := hp u hu
      rw [e, ← hc]
      exact (PySem.W.Looks.ld ho).andThen .now
    rw [oneTypeOnly'_eq, List.mapM_toArray, map_eq_pure_bind]
    refine wpAny_bind (wpAny_bind (wpAny_bind (PySem.W.kas_mapM (r := Value.type "tuple") _ (fun u hu Q' hq => (hT u hu).here hq) (wpAny_pure ?_))))
    have hall2 : ((List.map (fun _ => Value.type "tuple") (v :: r)).toArray.all fun x => x == Value.type "tuple") = true := by
      simp only [List.all_toArray, List.all_map, List.all_eq_true]
      intro _ _
      first | rfl | decide | simp
    have h0 : (List.map (fun _ => Value.type "tuple") (v :: r)).toArray[0]? = some (Value.type "tuple") := by simp
    rw [h0]
    simp only [hall2, if_true]
    exact wpAny_pure (wpAny_pure h)
theorem sortable_tups {a : Addr} {vs : List Value} {k : Value → List Str} (hu : A.units < cLine) (h2 : 2 ≤ vs.length) (hp : ∀ v ∈ vs, TupS s.heap v (k v)) (ha : ∀ o, s.heap.get? a = some o → o.cls ≠ .type "tuple") :
    SrtO.SortableO prog w A s a vs fun v u => lexS (k v) (k u) := by
  intro h' keep
  have hp' : ∀ v ∈ vs, TupS h' v (k v) := fun v hm => (hp v hm).at fun b o e c => keep b o (fun z => by subst z; exact ha o e c) e
  by_cases he : ∃ v ∈ vs, k v = []
  · refine ⟨if (vs.head?.any fun v => !(k v).isEmpty) = true then general' else oneType', fun Q E hq => kind_empty h2 hp' he _ rfl hq, ?_⟩
    split
    · exact cmp_general hu hp'
    · exact cmp_one hu hp'
  · obtain ⟨fs, h1, h3, h4⟩ := firstsS vs hp' fun v hv z => he ⟨v, hv, z⟩
    refine ⟨tuples' true, fun Q E hq => ?_, cmp_tuples hp' true⟩
    refine PySem.W.kat_kind (T := .type "str") h1 (by omega) (fun f hm => ?_) (by rfl) ?_
    · obtain ⟨x, t, rfl⟩ := h4 f hm
      exact PySem.W.Looks.now
    · have e : (Value.type "str" != Value.type "tuple") = true := by first | decide +kernel | rfl | decide
      rw [e]
      exact hq
end
/-- sorted(xs), xs a list of tuples of texts (k says which) -/
def rSortedTS (K : PySem.W.Frag) : List V → Hp → VK → Prop := fun vs H Q => ∃ (a : Addr) (xs : List V) (k : V → List Str), vs = [V.ref a] ∧ SqL K H a xs ∧ (∀ x ∈ xs, ∃ t, x = V.ref t ∧ H t = some (.tup ((k x).map V.str))) ∧
  ∀ (ys : List V) (p : Addr), ys.Perm xs → ys.Pairwise (fun x y => lexS (k y) (k x) = false) → H p = none → Q (.ref p) (upd H p (.lst ys))
section
variable {X : Cx}
theorem strsAre_vals {us : List Value} {zs : List Str} (h : Vals (zs.map V.str) us) : StrsAre us zs := by
  induction zs generalizing us with
  | nil =>
    cases h
    exact .nil
  | cons z zs ih =>
    cases h with
    | cons r t =>
      obtain ⟨tk, rfl⟩ := r
      exact .cons z tk (ih t)
theorem cr_sortedTS (hu : X.A.units + 2 < cLine) : CallR X (.builtin "sorted") (rSortedTS X.K) := by
  intro pins s σ H vs us Q I r h
  obtain ⟨a, xs, k, rfl, hs, hx, q⟩ := h
  obtain ⟨its, rv, hl, hz⟩ := I.list hs
  obtain ⟨u, rfl, ru⟩ := vals1 r
  obtain rfl : u = Value.ref a := ru
  obtain ⟨e1, e2⟩ := refs_back rv fun x m => by
    obtain ⟨t, e, _⟩ := hx x m
    exact ⟨t, e⟩
  have hT : ∀ v ∈ its, TupS s.heap v (k (backV v)) := fun v hv => by
    obtain ⟨t, rfl⟩ := e2 v hv
    have hm : V.ref t ∈ xs := by rw [e1]; exact List.mem_map.mpr ⟨_, hv, rfl⟩
    obtain ⟨t', e, ht⟩ := hx _ hm
    cases e
    obtain ⟨_, its2, r2, o, ho, hc, n, hd⟩ := I.hok _ _ ht
    exact ⟨t, its2.toArray, rfl, ⟨o, ho, hc, n, hd⟩, (show StrsAre its2 (k (V.ref t)) from strsAre_vals r2)⟩
  refine SrtO.sorted_ord (ltv := fun v u => lexS (k (backV v)) (k (backV u))) ⟨fun x y => lexS_swo.asym _ _, fun x y z => lexS_swo.tr _ _ _⟩ hl.isList (by rw [← rv.length]; exact hz) (fun h2 h₁ a' ha kk => ?_) fun out hs' hb => ?_
  · refine sortable_tups (s := { s with heap := h₁ }) (by show X.A.units + 1 + 1 < cLine; omega) h2 (fun v hm => (hT v hm).at fun b o e _ => (kk b o e).2) fun o e => ?_
    have e' : some o = some (seqObj "list" its.toArray 0) := e.symm.trans ha
    cases e'
    intro c
    exact absurd (Value.type.inj c) (by decide)
  · have h3 : ∀ u ∈ out, ∃ a, u = Value.ref a := fun u hu => e2 u (hb.perm.mem_iff.mp hu)
    have hpm : (out.map backV).Perm xs := by
      rw [e1]
      exact hb.perm.map backV
    obtain ⟨n, hn⟩ := PyProof.Rows.sortedAll_at s.heap its out.toArray
    refine ⟨.ref (s.heap.objs.size + 1), upd H (s.heap.objs.size + 1) (.lst (out.map backV)), I.laid (t' := s.toks) (fun b o e => PyProof.Rows.sortedAll_old e) (Nat.le_succ _) ⟨?_, out, n, vals_back h3, hn⟩, rfl, q _ _ hpm ?_ (I.hok.fresh (Nat.le_succ _))⟩
    · rw [hpm.length_eq]
      exact hz
    · exact List.pairwise_map.mpr hs'
end
end Lk
set_option maxRecDepth 100000
namespace Lk
open PySem PySem.Spec PyProof.Rows L2
/-! ### data of texts -/
def dS (xs : List Str) : List PyData := xs.map PyData.str
def dT (xs : List Str) : PyData := .tuple (dS xs)
theorem dp_strs {K : PySem.W.Frag} {H : Hp} : ∀ xs : List Str, DpAll K H (xs.map V.str) (dS xs)
  | [] => .nil
  | x :: r => .cons (.str x) (dp_strs r)
theorem dp_tup {K : PySem.W.Frag} {H : Hp} {t : Addr} {xs : List Str} (h : H t = some (.tup (xs.map V.str))) : Dp K H (.ref t) (dT xs) := .tup (.inl (.inl h)) (dp_strs xs)
theorem dp_lstS {K : PySem.W.Frag} {H : Hp} {t : Addr} {xs : List Str} (h : H t = some (.lst (xs.map V.str))) : Dp K H (.ref t) (.list (dS xs)) := .lst (.inl (.inl h)) (dp_strs xs)
def OkS (xs : List Str) : Prop := ∀ x ∈ xs, PyData.strOk x = true
theorem lay_dS : ∀ xs : List Str, OkS xs → PyData.canLayAll0 (dS xs) = true
  | [], _ => rfl
  | x :: r, h => by
    have := lay_dS r fun y hy => h y (List.mem_cons_of_mem _ hy)
    have h0 := h x (List.mem_cons_self ..)
    simpa [dS, PyData.canLayAll0, PyData.canLay0, h0] using this
theorem dep_dS : ∀ xs : List Str, PyData.depthAll (dS xs) ≤ 1
  | [] => by simp [dS, PyData.depthAll]
  | x :: r => by
    have := dep_dS r
    simp only [dS, List.map_cons, PyData.depthAll, PyData.depth] at this ⊢
    omega
theorem lay_dT (xs : List Str) (h : OkS xs) : (dT xs).canLay0 = true := by simp [dT, PyData.canLay0, lay_dS xs h]
theorem dep_dT (xs : List Str) : (dT xs).depth ≤ 2 := by
  have := dep_dS xs
  simp only [dT, PyData.depth]
  omega
theorem sh_dT (xs : List Str) (h : OkS xs) : SeqAt.shaped (dT xs) = true := by
  have := dep_dT xs
  simp [SeqAt.shaped, lay_dT xs h]
  omega
theorem sh_dSl (xs : List Str) (h : OkS xs) : SeqAt.shaped (.list (dS xs)) = true := by
  have := dep_dS xs
  simp [SeqAt.shaped, PyData.canLay0, PyData.depth, lay_dS xs h]
  omega
def dTs (gs : List (List Str)) : List PyData := gs.map dT
theorem lay_dTs : ∀ gs : List (List Str), (∀ g ∈ gs, OkS g) → PyData.canLayAll0 (dTs gs) = true
  | [], _ => rfl
  | g :: r, h => by
    have := lay_dTs r fun y hy => h y (List.mem_cons_of_mem _ hy)
    simp only [dTs, List.map_cons, PyData.canLayAll0] at this ⊢
    rw [lay_dT g (h g (List.mem_cons_self ..)), this]
    rfl
theorem dep_dTs : ∀ gs : List (List Str), PyData.depthAll (dTs gs) ≤ 2
  | [] => by simp [dTs, PyData.depthAll]
  | g :: r => by
    have h1 := dep_dTs r
    have h2 := dep_dT g
    simp only [dTs, List.map_cons, PyData.depthAll] at h1 ⊢
    omega
theorem sh_dTsl (gs : List (List Str)) (h : ∀ g ∈ gs, OkS g) : SeqAt.shaped (.list (dTs gs)) = true := by
  have := dep_dTs gs
  simp [SeqAt.shaped, PyData.canLay0, PyData.depth, lay_dTs gs h]
  omega
theorem eqv_dS : ∀ xs ys : List Str, PyData.eqvAll (dS xs) (dS ys) = decide (xs = ys)
  | [], [] => by simp [dS, PyData.eqvAll]
  | [], _ :: _ => by simp [dS, PyData.eqvAll]
  | _ :: _, [] => by simp [dS, PyData.eqvAll]
  | x :: xs, y :: ys => by
    have ih := eqv_dS xs ys
    simp only [dS] at ih
    simp only [dS, List.map_cons, PyData.eqvAll, PyData.eqv, ih]
    by_cases e : x = y
    · subst e
      simp
    · simp [e]
theorem eqv_dT (xs ys : List Str) : PyData.eqv (dT xs) (dT ys) = decide (xs = ys) := by
  show PyData.eqv (.tuple _) (.tuple _) = _
  simp only [PyData.eqv]
  exact eqv_dS xs ys
theorem eqv_lnil (ds : List PyData) : PyData.eqv (.list ds) (.list []) = ds.isEmpty := by
  cases ds <;> simp [PyData.eqv, PyData.eqvAll]
theorem inV_str (x : Str) (xs : List Str) : inV (.str x) (xs.map V.str) = decide (x ∈ xs) := by
  induction xs with
  | nil => simp [inV]
  | cons y r ih =>
    unfold inV at ih ⊢
    rw [List.map_cons, List.any_cons, ih]
    by_cases e : y = x
    · subst e
      simp [eqV]
    · have e2 : ¬ x = y := fun z => e z.symm
      simp [eqV, e, e2]
theorem flat_strs (xs : List Str) : (xs.map V.str).all flatV = true := by
  simp [List.all_map, flatV]
/-! ### the texts at a reference -/
def strOf : V → Option Str
  | .str x => some x
  | _ => none
def strsAt (H : Hp) : V → List Str
  | .ref b => match H b with
    | some (.tup xs) => xs.filterMap strOf
    | _ => []
  | _ => []
theorem strsAt_eq {H : Hp} {b : Addr} {xs : List Str} (h : H b = some (.tup (xs.map V.str))) : strsAt H (.ref b) = xs := by
  show (match H b with | some (.tup xs) => xs.filterMap strOf | _ => []) = xs
  rw [h]
  show (xs.map V.str).filterMap strOf = xs
  induction xs with
  | nil => rfl
  | cons x r ih =>
    rw [List.map_cons, List.filterMap_cons]
    show x :: (r.map V.str).filterMap strOf = _
    have e : (r.map V.str).filterMap strOf = r := by
      clear ih h
      induction r with
      | nil => rfl
      | cons y r ih =>
        rw [List.map_cons, List.filterMap_cons]
        show y :: (r.map V.str).filterMap strOf = _
        rw [ih]
    rw [e]
/-! ### what is greatest among sets of names -/
def subB (g f : List Str) : Bool := (g.filter fun n => !decide (n ∈ f)).isEmpty
theorem subB_iff {g f : List Str} : subB g f = true ↔ ∀ n ∈ g, n ∈ f := by
  unfold subB
  rw [List.isEmpty_iff, List.filter_eq_nil_iff]
  constructor
  · intro h n hn
    have := h n hn
    simpa using this
  · intro h n hn
    simp [h n hn]
def aboveB (f g : List Str) : Bool := !decide (f = g) && subB g f
def maxB (gs : List (List Str)) (g : List Str) : Bool := (gs.filter fun f => aboveB f g).isEmpty
/-- a set within another one, other than it, has fewer names (both parts of one list) -/
theorem sub_len {g f sv : List Str} (hg : g.Sublist sv) (hf : f.Sublist sv) (n : sv.Nodup) (h : ∀ x ∈ g, x ∈ f) (ne : f ≠ g) : g.length < f.length := by
  have key : ∀ {l : List Str}, l.Sublist sv → l = sv.filter fun x => decide (x ∈ l) := by
    intro l hl
    clear h ne hg hf
    induction hl with
    | slnil => rfl
    | @cons l m a hl ih =>
      have na := (List.nodup_cons.mp n).1
      have ia := ih (List.nodup_cons.mp n).2
      rw [List.filter_cons_of_neg (by simpa using fun z => na (hl.subset z))]
      exact ia
    | @cons_cons l m a hl ih =>
      have na := (List.nodup_cons.mp n).1
      have ia := ih (List.nodup_cons.mp n).2
      rw [List.filter_cons_of_pos (by simp)]
      refine congrArg (fun z => a :: z) (ia.trans ?_)
      refine List.filter_congr fun x hx => ?_
      have : ¬ x = a := fun z => na (z ▸ hx)
      simp [this]
  have e : g.Sublist f := by
    rw [key hg, key hf]
    have e2 : (sv.filter fun x => decide (x ∈ g)) = (sv.filter fun x => decide (x ∈ f)).filter fun x => decide (x ∈ g) := by
      rw [List.filter_filter]
      refine List.filter_congr fun x _ => ?_
      by_cases hx : x ∈ g
      · simp [hx, h x hx]
      · simp [hx]
    rw [e2]
    exact List.filter_sublist
  rcases Nat.lt_or_ge g.length f.length with l | l
  · exact l
  · exact absurd (e.eq_of_length_le l).symm ne
theorem max_ex {gs : List (List Str)} {sv : List Str} (hs : ∀ g ∈ gs, g.Sublist sv) (n : sv.Nodup) (ne : gs ≠ []) : ∃ g ∈ gs, maxB gs g = true := by
  obtain ⟨m, hm, hmax⟩ : ∃ m ∈ gs, ∀ g ∈ gs, g.length ≤ m.length := by
    clear hs
    induction gs with
    | nil => exact absurd rfl ne
    | cons g r ih =>
      by_cases e : r = []
      · subst e
        exact ⟨g, by simp, by simp⟩
      · obtain ⟨m, hm, h⟩ := ih e
        by_cases l : m.length ≤ g.length
        · exact ⟨g, by simp, fun x hx => by
            rcases List.mem_cons.mp hx with rfl | hx
            · exact Nat.le_refl _
            · exact Nat.le_trans (h x hx) l⟩
        · exact ⟨m, List.mem_cons_of_mem _ hm, fun x hx => by
            rcases List.mem_cons.mp hx with rfl | hx
            · omega
            · exact h x hx⟩
  refine ⟨m, hm, ?_⟩
  unfold maxB
  rw [List.isEmpty_iff, List.filter_eq_nil_iff]
  intro f hf h
  unfold aboveB at h
  rw [Bool.and_eq_true, Bool.not_eq_true', decide_eq_false_iff_not, subB_iff] at h
  have := sub_len (hs m hm) (hs f hf) n h.2 h.1
  have := hmax f hf
  omega
/-! ### the keys of a dict made of pairs -/
theorem any_mem (kvs : List (List Key × V)) (k : List Key) : (kvs.any fun kv => decide (kv.1 = k)) = true ↔ k ∈ kvs.map (·.1) := by
  simp only [List.any_eq_true, decide_eq_true_iff, List.mem_map]
theorem putK_old {kvs : List (List Key × V)} {k : List Key} (v : V) (h : k ∈ kvs.map (·.1)) : (putK kvs k v).map (·.1) = kvs.map (·.1) := by
  unfold putK
  rw [if_pos ((any_mem kvs k).mpr h), List.map_map]
  refine List.map_congr_left fun kv _ => ?_
  show (if kv.1 = k then (kv.1, v) else kv).1 = kv.1
  split <;> rfl
theorem putK_app {kvs : List (List Key × V)} {k : List Key} (v : V) (h : ¬ k ∈ kvs.map (·.1)) : (putK kvs k v).map (·.1) = kvs.map (·.1) ++ [k] := by
  unfold putK
  rw [if_neg (fun z => h ((any_mem kvs k).mp z)), List.map_append]
  rfl
theorem mergeT_keys : ∀ (more kvs : List (List Key × V)), (kvs.map (·.1)).Nodup → ((mergeT kvs more).map (·.1)).Nodup ∧ ∀ k, k ∈ (mergeT kvs more).map (·.1) ↔ k ∈ kvs.map (·.1) ∨ k ∈ more.map (·.1)
  | [], kvs, n => ⟨n, fun k => by simp [mergeT]⟩
  | q :: r, kvs, n => by
    by_cases h : q.1 ∈ kvs.map (·.1)
    · have hk := putK_old (kvs := kvs) q.2 h
      obtain ⟨h1, h2⟩ := mergeT_keys r (putK kvs q.1 q.2) (by rw [hk]; exact n)
      refine ⟨h1, fun k => ?_⟩
      have h3 := h2 k
      rw [hk] at h3
      show k ∈ (mergeT (putK kvs q.1 q.2) r).map (·.1) ↔ _
      rw [h3, List.map_cons, List.mem_cons]
      constructor
      · rintro (a | a)
        · exact .inl a
        · exact .inr (.inr a)
      · rintro (a | a | a)
        · exact .inl a
        · rw [a]; exact .inl h
        · exact .inr a
    · have hk := putK_app (kvs := kvs) q.2 h
      obtain ⟨h1, h2⟩ := mergeT_keys r (putK kvs q.1 q.2) (by
        rw [hk, List.nodup_append]
        exact ⟨n, by simp, fun a ha b hb e => h (by rw [List.mem_singleton.mp hb] at e; rw [← e]; exact ha)⟩)
      refine ⟨h1, fun k => ?_⟩
      have h3 := h2 k
      rw [hk] at h3
      show k ∈ (mergeT (putK kvs q.1 q.2) r).map (·.1) ↔ _
      rw [h3, List.map_cons, List.mem_cons, List.mem_append, List.mem_singleton]
      constructor
      · rintro ((a | a) | a)
        · exact .inl a
        · exact .inr (.inl a)
        · exact .inr (.inr a)
      · rintro (a | a | a)
        · exact .inl (.inl a)
        · exact .inl (.inr a)
        · exact .inr a
end Lk
set_option maxRecDepth 100000
namespace Lk
open PySem PySem.Spec PyProof.Rows L2
abbrev sMax : Stmt := topS 11
abbrev nMax : List Str := ["_law_groups_here", "_law_group", "_law_distinct", "_law_found", "_law_far", "_law_name"]
theorem scMax : FnScope nMax ["_law_groups_here"] (defScope sMax) := ⟨rfl, rfl, rfl, by decide +kernel, rfl, by decide +kernel, by decide +kernel⟩
def scFar : Scope := { kind := .function, names := [(".0", .local), ("_law_far", .cell), ("_law_group", .cell)], isGenerator := false, isCoroutine := false }
/-! ### sets of names in the heap -/
def GL (H : Hp) : List Addr → List (List Str) → Prop := Paired fun t g => TS H t g
theorem GL.same {H H' : Hp} {as : List Addr} {gs : List (List Str)} (h : GL H as gs) (s : Same H H') : GL H' as gs := Paired.mapP h fun t g q => s t _ q
theorem GL.get {H : Hp} : ∀ {as : List Addr} {gs : List (List Str)} {i : Nat} {t : Addr}, GL H as gs → as[i]? = some t → ∃ g, gs[i]? = some g ∧ TS H t g
  | _, _, _, _, .nil, e => by simp at e
  | _, _, 0, _, .cons r _, e => by simp at e; subst e; exact ⟨_, rfl, r⟩
  | _, _, i + 1, _, .cons _ t, e => by
    obtain ⟨g, h1, h2⟩ := GL.get (i := i) t (by simpa using e)
    exact ⟨g, by simpa using h1, h2⟩
theorem GL.at {H : Hp} {as : List Addr} {gs : List (List Str)} (h : GL H as gs) : as.map (fun b => strsAt H (.ref b)) = gs := by
  unfold GL at h
  induction h with
  | nil => rfl
  | cons r _ ih => rw [List.map_cons, strsAt_eq r, ih]
theorem GL.mem {H : Hp} {as : List Addr} {gs : List (List Str)} (h : GL H as gs) {b : Addr} (hb : b ∈ as) : TS H b (strsAt H (.ref b)) := by
  obtain ⟨i, hi, rfl⟩ := List.getElem_of_mem hb
  obtain ⟨g, _, q⟩ := h.get (List.getElem?_eq_getElem hi)
  rw [strsAt_eq q]
  exact q
theorem GL.length {H : Hp} {as : List Addr} {gs : List (List Str)} (h : GL H as gs) : as.length = gs.length := Paired.length h
/-- what is left of sets of names -/
structure MaxOf (gs ms : List (List Str)) : Prop where
  ne : ms ≠ []
  sub : ∀ m ∈ ms, m ∈ gs
  asc : ms.Pairwise fun a b => lexS a b = true
  anti : ∀ m ∈ ms, ∀ m' ∈ ms, subB m m' = true → m' = m
  len : ms.length ≤ gs.length
theorem lexS_total {x y : List Str} (h : lexS y x = false) (ne : x ≠ y) : lexS x y = true := by
  cases q : lexS x y with
  | true => rfl
  | false =>
    rw [Bool.eq_false_iff, ne_eq, lexS_iff] at h q
    have e := List.le_antisymm (as := x.map cds) (bs := y.map cds) h q
    refine absurd ?_ ne
    clear h q ne
    induction x generalizing y with
    | nil =>
      cases y with
      | nil => rfl
      | cons _ _ => simp at e
    | cons a r ih =>
      cases y with
      | nil => simp at e
      | cons b t =>
        rw [List.map_cons, List.map_cons] at e
        rw [ext_cds (List.cons.inj e).1, ih (List.cons.inj e).2]
theorem keys_sets {gs : List (List Str)} : ∀ ks : List (List Key), (∀ k ∈ ks, k ∈ gs.map (·.map Sum.inr)) → ∃ gk : List (List Str), ks = gk.map (·.map Sum.inr) ∧ ∀ g ∈ gk, g ∈ gs
  | [], _ => ⟨[], rfl, fun _ h => nomatch h⟩
  | k :: r, h => by
    obtain ⟨gk, e, hg⟩ := keys_sets r fun k hk => h k (List.mem_cons_of_mem _ hk)
    obtain ⟨g, hg0, rfl⟩ := List.mem_map.mp (h k (List.mem_cons_self ..))
    exact ⟨g :: gk, by rw [e]; rfl, fun x hx => by
      rcases List.mem_cons.mp hx with rfl | hx
      · exact hg0
      · exact hg x hx⟩
theorem kv_map (g : List Str) : (g.map (Sum.inr : Str → Key)).map kV = g.map V.str := by
  rw [List.map_map]
  rfl
theorem isKeys_gl {H : Hp} : ∀ {kvs : List (List Key × V)} {bs : List Addr} {gk : List (List Str)}, IsKeys H kvs bs → kvs.map (·.1) = gk.map (·.map Sum.inr) → GL H bs gk
  | _, _, gk, .nil, e => by
    cases gk with
    | nil => exact .nil
    | cons _ _ => simp at e
  | _, _, gk, .cons r t, e => by
    cases gk with
    | nil => simp at e
    | cons g gk =>
      rw [List.map_cons, List.map_cons] at e
      refine .cons ?_ (isKeys_gl t (List.cons.inj e).2)
      have e1 := (List.cons.inj e).1
      have r' := r
      rw [e1, kv_map] at r'
      exact r'
theorem dp_refs {K : PySem.W.Frag} {H : Hp} {k : V → List Str} : ∀ vs : List V, (∀ v ∈ vs, ∃ t, v = .ref t ∧ TS H t (k v)) → DpAll K H vs (dTs (vs.map k))
  | [], _ => .nil
  | v :: r, h => by
    obtain ⟨t, rfl, q⟩ := h v (List.mem_cons_self ..)
    exact .cons (dp_tup q) (dp_refs r fun v hv => h v (List.mem_cons_of_mem _ hv))
def kvOf (g : List Str) : List Key × V := (g.map Sum.inr, .bl true)
theorem max_of {gs gs2 : List (List Str)} {sv : List Str} (ne : gs2 ≠ []) (sub : ∀ g ∈ gs2, g ∈ gs) (hs : ∀ g ∈ gs, g.Sublist sv) (n : sv.Nodup) (nd : gs2.Nodup) (srt : gs2.Pairwise fun x y => lexS y x = false) (hl : gs2.length ≤ gs.length) :
    MaxOf gs (gs2.filter fun g => maxB gs2 g) := by
  refine ⟨?_, fun m hm => sub m (List.mem_filter.mp hm).1, ?_, fun m hm m' hm' h => ?_, Nat.le_trans (List.length_filter_le _ _) hl⟩
  · obtain ⟨g, hg, hx⟩ := max_ex (fun g hg => hs g (sub g hg)) n ne
    exact List.ne_nil_of_mem (List.mem_filter.mpr ⟨hg, hx⟩)
  · refine List.Pairwise.sublist List.filter_sublist ?_
    exact List.Pairwise.imp (fun {a b} h => lexS_total h.1 h.2) (List.Pairwise.and srt nd)
  · have h1 := (List.mem_filter.mp hm).2
    have h2 := (List.mem_filter.mp hm').1
    unfold maxB at h1
    rw [List.isEmpty_iff, List.filter_eq_nil_iff] at h1
    have h3 := h1 m' h2
    unfold aboveB at h3
    rw [h, Bool.and_true, Bool.not_eq_true', decide_eq_false_iff_not] at h3
    exact Decidable.byContradiction fun z => h3 z
def spMax (K : PySem.W.Frag) : Sp := fun vs H Q _ => ∃ (a : Addr) (as : List Addr) (gs : List (List Str)) (sv : List Str), vs = [.ref a] ∧ H a = some (.lst (as.map V.ref)) ∧ GL H as gs ∧ gs ≠ [] ∧ gs.length ≤ 100 ∧ (∀ g ∈ gs, g.Sublist sv) ∧ sv.Nodup ∧ OkS sv ∧ sv.length ≤ 12 ∧
  ∀ H' t bs ms, H t = none → H' t = some (.tup (bs.map V.ref)) → GL H' bs ms → MaxOf gs ms → Same H H' → Q (.ref t) H'
theorem sFill {D : Addr} {H H' : Hp} {o : HO} (k : Same H H') (h : H D = Option.none) : Same H (upd H' D o) := fun b u e => by
  rw [upd_ne (ne_of_none e h)]
  exact k b u e
section
variable {P : Program} {w : World} {K : PySem.W.Frag} {mg : Str → Option Value} {base : Heap}
theorem ok_max {f : Addr} {fd : FuncData} {k : Nat} (F : Fun K "_law_maximal" "_law_maximal" sMax f fd)
    (ms : mg "sorted" = none) (ml : mg "list" = none) (md : mg "dict" = none) (mt : mg "tuple" = none) : FnOk P w K mg base CX0 (k + 1) f fd ["_law_groups_here"] (spMax K) := by
  refine F.ok scMax (fun vs H Q E h => ?_) (fun cdv A outer s H vs Q E hr h => ?_)
  · obtain ⟨a, as, gs, sv, rfl, _⟩ := h
    rfl
  · obtain ⟨a, as, gs, sv, rfl, hL, hG, hne, hlen, hsub, hnd, hok, h12, q⟩ := h
    have nd := scMax.nd
    refine ⟨_, pss_cons (ps_set (i := 2) nd rfl (.inl rfl) (pe_callB (cr_sortedTS (by have := hr.units; exact Nat.lt_of_le_of_lt (by exact Nat.add_le_add_left (by decide : 2 ≤ 64) _) this)) (by rfl) ms (by decide +kernel) (pa_cons
        (pe_callTy (call_list_dT rfl) (by rfl) ml (by decide +kernel) (pa_cons
          (pe_callTy (call_dictT rfl (by have := hr.units; exact Nat.lt_of_le_of_lt (by exact Nat.add_le_add_left (by decide : 2 ≤ 64) _) this)) (by rfl) md (by decide +kernel) (pa_cons
            (pe_lc (own := [("_law_group", 1)]) (g := gName 1) (tt := tYes) rfl nd (pi_list (pv 0)) (blkOk_by (own := [("_law_group", 1)]) (N := nMax) (sc := defScope sMax) (by decide +kernel))
              (fun _ _ _ _ _ => pg_name (i := 1) nd rfl (.inl rfl)) (fun _ _ _ _ _ => pts_nil) (fun _ _ _ _ _ => pe_tup (pa_cons (pv 1) (pa_cons pe_bl pa_nil)))) pa_nil)) pa_nil)) pa_nil)))
      (pss_cons (ps_set (i := 3) nd rfl (.inl rfl) (pe_lst pa_nil))
      (pss_cons (ps_for PassesOwn.never rfl (pi_list (pv 2)) (pg_name (i := 1) nd rfl (.inr rfl))
        (pss_one (ps_if (pt_cmpR (op_eqD hr.units)
          (pe_lc (own := [("_law_far", 4)]) (g := gName 4) rfl nd (pi_list (pv 2)) (blkOk_by (own := [("_law_far", 4)]) (N := nMax) (sc := defScope sMax) (by decide +kernel))
            (fun _ _ _ _ _ => pg_name (i := 4) nd rfl (.inr rfl)) (fun _ _ _ _ _ => pts_one (PW.pt (pw_and (pt_cmpR (show OpR _ (compareOp .NotEq) (rNeD K) from op_neD hr.units) (pv 4) (pv 1) (nomark _)) (pw_and1 (pt_cmpR (show OpR _ (compareOp .Eq) (rEqD K) from op_eqD hr.units)
              (pe_lc (own := [("_law_name", 5)]) (g := gName 5) rfl nd (show PI _ _ _ (iTup K (tVar 1)) from pi_tup (pv 1)) (blkOk_by (own := [("_law_name", 5)]) (N := nMax) (sc := scFar) (by decide +kernel))
                (fun _ _ _ _ _ => pg_name (i := 5) nd rfl (.inl rfl)) (fun _ _ _ _ _ => pts_one (pt_cmpR (show OpR _ (compareOp .NotIn) (rIn K true) from op_notIn_seq) (pv 5) (pv 4) (by rfl))) (fun _ _ _ _ _ => pv 5))
              (pe_lst pa_nil) (nomark _)))))) (fun _ _ _ _ _ => pv 4))
          (pe_lst pa_nil) (nomark _)) (pss_one (ps_expr (pe_bm PySem.F.plainAttrs_list PySem.F.slot_list_append PySem.F.type_list_append mt_append (pv 3) (pa_cons (pv 1) pa_nil)))) pss_nil)))
      (pss_one (ps_ret (pe_callTy call_tuple_of (by rfl) mt (by decide +kernel) (pa_cons (pv 3) pa_nil)))))), ?_⟩
    have hD0 : SqL K H a (as.map V.ref) := .inl (.inl hL)
    have hal := hG.length
    -- the pairs
    refine ⟨.ref a, rfl, a, rfl, ⟨_, hD0⟩, fun D nD => ?_⟩
    refine lc_list (K := K) (a := a) (xs := as.map V.ref) (fun i H' => ∃ ps : List Addr, ps.length = i ∧ PairsT H' ps ((gs.take i).map kvOf) ∧ H' D = some (.lst (ps.map V.ref)) ∧ Same H H') ⟨[], rfl, .nil, upd_same, sUpd nD⟩ (fun i H' _ hW => ?_) (fun i x H' hx hW => ?_) (fun H' hW => ?_)
    · obtain ⟨ps, _, _, _, sm⟩ := hW
      exact sm.seq hD0
    · obtain ⟨ps, hps, hP, eD, sm⟩ := hW
      obtain ⟨t, rfl, et⟩ : ∃ t, x = .ref t ∧ as[i]? = some t := by
        rw [List.getElem?_map] at hx
        cases e : as[i]? with
        | none => rw [e] at hx; cases hx
        | some y => rw [e] at hx; exact ⟨y, (Option.some.inj hx).symm, rfl⟩
      obtain ⟨g, eg, tg⟩ := hG.get et
      have hi : i < as.length := (List.getElem?_eq_some_iff.mp et).1
      refine ⟨rfl, ?_⟩
      refine ⟨_, rfl, by show 2 ≤ sizeLine; rw [sizeLine_eq]; decide, fun p np => ?_⟩
      have nDp : D ≠ p := ne_of_none eD np
      have s2 : Same H (upd H' p (.tup [.ref t, .bl true])) := sm.trans (sUpd np)
      refine ⟨_, (by rw [upd_ne nDp]; exact eD), by rw [List.length_map, sizeLine_eq]; omega, ps ++ [p], by rw [List.length_append, hps]; rfl, ?_, by rw [upd_same, List.map_append]; rfl, sFill s2 nD⟩
      rw [List.take_add_one, eg, List.map_append]
      have keep : ∀ b o, (∃ xs, o = HO.tup xs) → H' b = some o → (upd (upd H' p (.tup [.ref t, .bl true])) D (.lst (ps.map V.ref ++ [.ref p]))) b = some o := fun b o ho e => by
        obtain ⟨xs, rfl⟩ := ho
        rw [upd_ne (ne_of e eD (by intro z; cases z)), upd_ne (ne_of_none e np)]
        exact e
      refine Paired.snoc (Paired.mapP hP fun b kv ⟨t', h1, h2⟩ => ⟨t', keep _ _ ⟨_, rfl⟩ h1, keep _ _ ⟨_, rfl⟩ h2⟩) ⟨t, ?_, ?_⟩
      · rw [upd_ne nDp.symm, upd_same]
        rfl
      · refine keep _ _ ⟨_, rfl⟩ ?_
        show H' t = some (.tup ((g.map Sum.inr).map kV))
        rw [kv_map]
        exact sm _ _ tg
    · obtain ⟨ps, hps, hP, eD, sm⟩ := hW
      rw [List.length_map, hal, List.take_length] at hP
      -- dict, list
      refine ⟨D, ps, _, rfl, .inl (.inl eD), hP, fun d nd' => ?_⟩
      refine ⟨d, _, rfl, .inl upd_same, fun l bs nl hk => ?_⟩
      obtain ⟨kn, km⟩ := mergeT_keys (gs.map kvOf) [] .nil
      have km2 : (gs.map kvOf).map (·.1) = gs.map (·.map Sum.inr) := by rw [List.map_map]; rfl
      obtain ⟨gk, ek, hgk⟩ := keys_sets (gs := gs) ((mergeT [] (gs.map kvOf)).map (·.1)) fun k hk => by
        have z := (km k).mp hk
        rw [km2] at z
        rcases z with z | z
        · simp at z
        · exact z
      have gl := isKeys_gl hk ek
      have gkn : gk.Nodup := by
        rw [ek] at kn
        exact List.Pairwise.of_map _ (fun a b h e => h (by rw [e])) kn
      have gkne : gk ≠ [] := by
        intro z
        obtain ⟨g, r, rfl⟩ : ∃ g r, gs = g :: r := by
          match gs, hne with
          | g :: r, _ => exact ⟨g, r, rfl⟩
        have z2 := (km (g.map Sum.inr)).mpr (.inr (by rw [km2]; exact List.mem_cons_self ..))
        rw [ek, z] at z2
        simp at z2
      have s3 : Same H (upd H' d (.dT (mergeT [] (gs.map kvOf)))) := sm.trans (sUpd nd')
      have glH : GL (upd (upd H' d (.dT (mergeT [] (gs.map kvOf)))) l (.lst (bs.map V.ref))) bs gk := gl.same (sUpd nl)
      have s4 : Same H (upd (upd H' d (.dT (mergeT [] (gs.map kvOf)))) l (.lst (bs.map V.ref))) := s3.trans (sUpd nl)
      have el : (upd (upd H' d (.dT (mergeT [] (gs.map kvOf)))) l (.lst (bs.map V.ref))) l = some (.lst (bs.map V.ref)) := upd_same
      generalize upd (upd H' d (.dT (mergeT [] (gs.map kvOf)))) l (.lst (bs.map V.ref)) = H4 at glH s4 el
      -- sorted
      refine ⟨l, _, strsAt H4, rfl, .inl (.inl el), fun x hx => ?_, fun ys p hperm hsort np => ?_⟩
      · obtain ⟨b, hb, rfl⟩ := List.mem_map.mp hx
        exact ⟨b, rfl, glH.mem hb⟩
      obtain ⟨k, hk'⟩ : ∃ k, k = strsAt H4 := ⟨_, rfl⟩
      rw [← hk'] at hsort
      have hys : ∀ y ∈ ys, ∃ t, y = .ref t ∧ TS H4 t (k y) := fun y hy => by
        obtain ⟨b, hb, rfl⟩ := List.mem_map.mp (hperm.mem_iff.mp hy)
        rw [hk']
        exact ⟨b, rfl, glH.mem hb⟩
      have pg : (ys.map k).Perm gk := by
        have z := hperm.map k
        rw [List.map_map] at z
        rw [← glH.at, hk'.symm]
        exact z
      have lgk : gk.length ≤ gs.length := by
        have z := mergeT_len (gs.map kvOf) []
        have z2 := congrArg List.length ek
        rw [List.length_map, List.length_map] at z2
        rw [List.length_map, List.length_nil] at z
        omega
      have lys : ys.length ≤ 100 := by
        have z := pg.length_eq
        rw [List.length_map] at z
        omega
      have hkl : ∀ y ∈ ys, k y ∈ gs := fun y hy => hgk _ (pg.mem_iff.mp (List.mem_map_of_mem hy))
      have hksv : ∀ y ∈ ys, (k y).Sublist sv := fun y hy => hsub _ (hkl y hy)
      have hkok : ∀ y ∈ ys, OkS (k y) := fun y hy x hx => hok x ((hksv y hy).subset hx)
      have hk12 : ∀ y ∈ ys, (k y).length ≤ 12 := fun y hy => Nat.le_trans (hksv y hy).length_le h12
      have s5 : Same H (upd H4 p (.lst ys)) := s4.trans (sUpd np)
      have s45 : Same H4 (upd H4 p (.lst ys)) := sUpd np
      have ep : (upd H4 p (.lst ys)) p = some (.lst ys) := upd_same
      generalize upd H4 p (.lst ys) = H5 at s5 s45 ep
      have hp5 : SqL K H5 p ys := .inl (.inl ep)
      -- found = []
      refine ⟨Nat.zero_le _, fun L nL => ?_⟩
      refine ⟨.ref p, rfl, p, rfl, ⟨_, (sUpd nL).seq hp5⟩, for_list (xs := ys) (fun i σ H' => ∃ y1, σ = [some (.ref a), y1, some (.ref p), some (.ref L), none, none] ∧ H' L = some (.lst ((ys.take i).filter fun v => maxB (ys.map k) (k v))) ∧ Same H5 H')
        ⟨none, rfl, upd_same, sUpd nL⟩ (fun i σ H' _ hW => ?_) (fun i x σ H' hx hW => ?_) (fun σ H' hW => ?_)⟩
      · obtain ⟨y1, _, _, sm⟩ := hW
        exact sm.seq hp5
      · obtain ⟨y1, rfl, eL, sm⟩ := hW
        have hxm : x ∈ ys := List.mem_of_getElem? hx
        have hi : i < ys.length := (List.getElem?_eq_some_iff.mp hx).1
        obtain ⟨t, rfl, tx⟩ := hys x hxm
        have tx5 : TS H5 t (k (.ref t)) := s45 _ _ tx
        -- those above
        refine ⟨.ref p, rfl, p, rfl, ⟨_, sm.seq hp5⟩, fun D2 nD2 => ?_⟩
        refine lc_list (K := K) (a := p) (xs := ys) (fun j H2 => H2 D2 = some (.lst ((ys.take j).filter fun v => aboveB (k v) (k (.ref t)))) ∧ Same H' H2) ⟨upd_same, sUpd nD2⟩ (fun j H2 _ hW => (sm.trans hW.2).seq hp5) (fun j y H2 hy hW => ?_) (fun H2 hW => ?_)
        · obtain ⟨eD2, sm2⟩ := hW
          have hym : y ∈ ys := List.mem_of_getElem? hy
          have hj : j < ys.length := (List.getElem?_eq_some_iff.mp hy).1
          obtain ⟨t2, rfl, ty⟩ := hys y hym
          have s52 : Same H5 H2 := sm.trans sm2
          have ty2 : TS H2 t2 (k (.ref t2)) := s52 _ _ (s45 _ _ ty)
          have tx2 : TS H2 t (k (.ref t)) := s52 _ _ tx5
          have tk : ys.take (j + 1) = ys.take j ++ [.ref t2] := by rw [List.take_add_one, hy]; rfl
          refine ⟨rfl, ?_⟩
          refine ⟨_, rfl, _, rfl, dT (k (.ref t2)), dT (k (.ref t)), dp_tup ty2, dp_tup tx2, sh_dT _ (hkok _ hym), sh_dT _ (hkok _ hxm), _, rfl, ?_⟩
          rw [eqv_dT]
          by_cases e0 : k (.ref t2) = k (.ref t)
          · rw [decide_eq_true e0]
            refine iteF (iteF ?_)
            refine ⟨?_, sm2⟩
            rw [tk, List.filter_append, List.filter_cons_of_neg (by simp [aboveB, e0])]
            simpa using eD2
          · rw [decide_eq_false e0]
            refine iteT ?_
            -- the names that are missing
            refine ⟨_, rfl, t, rfl, ⟨_, .inl (.inl tx2)⟩, fun D3 nD3 => ?_⟩
            refine lc_tup (K := K) (a := t) (xs := (k (.ref t)).map V.str) (fun m H3 => H3 D3 = some (.lst ((((k (.ref t)).take m).filter fun n => !decide (n ∈ k (.ref t2))).map V.str)) ∧ Same H2 H3) ⟨upd_same, sUpd nD3⟩ (fun m H3 _ hW => .inl (.inl (hW.2 _ _ tx2))) (fun m z H3 hz hW => ?_) (fun H3 hW => ?_)
            · obtain ⟨eD3, sm3⟩ := hW
              obtain ⟨n, rfl, en⟩ : ∃ n, z = .str n ∧ (k (.ref t))[m]? = some n := by
                rw [List.getElem?_map] at hz
                cases e : (k (.ref t))[m]? with
                | none => rw [e] at hz; cases hz
                | some y => rw [e] at hz; exact ⟨y, (Option.some.inj hz).symm, rfl⟩
              have tkm : (k (.ref t)).take (m + 1) = (k (.ref t)).take m ++ [n] := by rw [List.take_add_one, en]; rfl
              refine ⟨rfl, ?_⟩
              refine ⟨_, rfl, _, rfl, t2, _, rfl, .inr (.inl (.inl (sm3 _ _ ty2))), rfl, flat_strs _, _, rfl, ?_⟩
              rw [inV_str]
              by_cases hn : n ∈ k (.ref t2)
              · rw [decide_eq_true hn]
                refine iteF ?_
                refine ⟨?_, sm3⟩
                rw [tkm, List.filter_append, List.filter_cons_of_neg (by simp [hn])]
                simpa using eD3
              · rw [decide_eq_false hn]
                refine iteT ?_
                refine ⟨_, rfl, _, eD3, ?_, ?_, sFill sm3 nD3⟩
                · rw [List.length_map, sizeLine_eq]
                  have z1 := List.length_filter_le (fun n => !decide (n ∈ k (.ref t2))) ((k (.ref t)).take m)
                  have z2 : ((k (.ref t)).take m).length ≤ m := List.length_take_le _ _
                  have z3 := (List.getElem?_eq_some_iff.mp en).1
                  have z4 := hk12 _ hxm
                  omega
                · rw [upd_same, tkm, List.filter_append, List.filter_cons_of_pos (by simp [hn]), List.map_append]
                  rfl
            · obtain ⟨eD3, sm3⟩ := hW
              rw [List.length_map, List.take_length] at eD3
              refine ⟨Nat.zero_le _, fun o no => ?_⟩
              have hokf : OkS ((k (.ref t)).filter fun n => !decide (n ∈ k (.ref t2))) := fun x hx => hkok _ hxm x (List.mem_filter.mp hx).1
              have eD3' : (upd H3 o (.lst [])) D3 = some (.lst (((k (.ref t)).filter fun n => !decide (n ∈ k (.ref t2))).map V.str)) := by
                rw [upd_ne (ne_of_none eD3 no)]
                exact eD3
              refine ⟨_, .list [], dp_lstS eD3', .lst (.inl (.inl upd_same)) .nil, sh_dSl _ hokf, rfl, _, rfl, ?_⟩
              rw [eqv_lnil]
              have sm4 : Same H2 (upd H3 o (.lst [])) := sm3.trans (sUpd no)
              have eab : aboveB (k (.ref t2)) (k (.ref t)) = (dS ((k (.ref t)).filter fun n => !decide (n ∈ k (.ref t2)))).isEmpty := by
                unfold aboveB subB
                rw [decide_eq_false e0]
                simp [dS]
              by_cases hb : aboveB (k (.ref t2)) (k (.ref t)) = true
              · rw [← eab, hb]
                refine iteT ?_
                refine ⟨_, rfl, _, sm4 _ _ eD2, ?_, ?_, sFill (sm2.trans sm4) nD2⟩
                · rw [sizeLine_eq]
                  have z1 := List.length_filter_le (fun v => aboveB (k v) (k (.ref t))) (ys.take j)
                  have z2 : (ys.take j).length ≤ j := List.length_take_le _ _
                  omega
                · rw [upd_same, tk, List.filter_append, List.filter_cons_of_pos (p := fun v => aboveB (k v) (k (.ref t))) hb]
                  rfl
              · rw [← eab, Bool.eq_false_iff.mpr hb]
                refine iteF ?_
                refine ⟨?_, sm2.trans sm4⟩
                rw [tk, List.filter_append, List.filter_cons_of_neg (p := fun v => aboveB (k v) (k (.ref t))) hb]
                simpa using sm4 _ _ eD2
        · obtain ⟨eD2, sm2⟩ := hW
          rw [List.take_length] at eD2
          refine ⟨Nat.zero_le _, fun o no => ?_⟩
          have s52 : Same H5 (upd H2 o (.lst [])) := sm.trans (sm2.trans (sUpd no))
          have eD2' : (upd H2 o (.lst [])) D2 = some (.lst (ys.filter fun v => aboveB (k v) (k (.ref t)))) := by
            rw [upd_ne (ne_of_none eD2 no)]
            exact eD2
          have hcs : ∀ v ∈ ys.filter (fun v => aboveB (k v) (k (.ref t))), v ∈ ys := fun v hv => (List.mem_filter.mp hv).1
          refine ⟨_, .list [], .lst (.inl (.inl eD2')) (dp_refs (k := k) _ fun v hv => ?_), .lst (.inl (.inl upd_same)) .nil, sh_dTsl _ (fun g hg => ?_), rfl, _, rfl, ?_⟩
          · obtain ⟨t', e', q'⟩ := hys v (hcs v hv)
            exact ⟨t', e', s52 _ _ (s45 _ _ q')⟩
          · obtain ⟨v, hv, rfl⟩ := List.mem_map.mp hg
            exact hkok v (hcs v hv)
          rw [eqv_lnil]
          have emx : maxB (ys.map k) (k (.ref t)) = (dTs ((ys.filter fun v => aboveB (k v) (k (.ref t))).map k)).isEmpty := by
            unfold maxB dTs
            rw [List.filter_map]
            simp [Function.comp_def]
          have tk : ys.take (i + 1) = ys.take i ++ [.ref t] := by rw [List.take_add_one, hx]; rfl
          have sm6 : Same H' (upd H2 o (.lst [])) := sm2.trans (sUpd no)
          by_cases hb : maxB (ys.map k) (k (.ref t)) = true
          · rw [← emx, hb]
            refine iteT ?_
            refine ⟨_, rfl, .inl ⟨rfl, _, .inl (.inl (sm6 _ _ eL))⟩, _, rfl, L, _, _, rfl, rfl, sm6 _ _ eL, ?_, _, rfl, ?_, sFill (sm.trans sm6) nL⟩
            · rw [sizeLine_eq]
              have z1 := List.length_filter_le (fun v => maxB (ys.map k) (k v)) (ys.take i)
              have z2 : (ys.take i).length ≤ i := List.length_take_le _ _
              omega
            · rw [upd_same, tk, List.filter_append, List.filter_cons_of_pos (p := fun v => maxB (ys.map k) (k v)) hb]
              rfl
          · rw [← emx, Bool.eq_false_iff.mpr hb]
            refine iteF ?_
            refine ⟨_, rfl, ?_, sm.trans sm6⟩
            rw [tk, List.filter_append, List.filter_cons_of_neg (p := fun v => maxB (ys.map k) (k v)) hb]
            simpa using sm6 _ _ eL
      · obtain ⟨y1, rfl, eL, sm⟩ := hW
        rw [List.take_length] at eL
        refine ⟨_, rfl, L, _, rfl, .inl ⟨.inl (.inl eL), fun r nr => ?_⟩⟩
        -- what comes out
        have hfs : ∀ v ∈ ys.filter (fun v => maxB (ys.map k) (k v)), v ∈ ys := fun v hv => (List.mem_filter.mp hv).1
        obtain ⟨bs', eb, glb⟩ : ∃ bs' : List Addr, ys.filter (fun v => maxB (ys.map k) (k v)) = bs'.map V.ref ∧ GL H4 bs' ((ys.filter fun v => maxB (ys.map k) (k v)).map k) := by
          generalize ys.filter (fun v => maxB (ys.map k) (k v)) = zs at hfs
          induction zs with
          | nil => exact ⟨[], rfl, .nil⟩
          | cons z zs ih =>
            obtain ⟨bs', e1, e2⟩ := ih fun v hv => hfs v (List.mem_cons_of_mem _ hv)
            obtain ⟨t', e', q'⟩ := hys z (hfs z (List.mem_cons_self ..))
            exact ⟨t' :: bs', by rw [e1, e']; rfl, .cons q' e2⟩
        have sH : Same H4 (upd H' r (.tup (ys.filter fun v => maxB (ys.map k) (k v)))) := s45.trans (sm.trans (sUpd nr))
        have em : (ys.filter fun v => maxB (ys.map k) (k v)).map k = (ys.map k).filter fun g => maxB (ys.map k) g := by
          rw [List.filter_map]
          rfl
        refine q _ r bs' _ ((s5.trans sm).free nr) (by rw [upd_same, eb]) ?_ (max_of (gs2 := ys.map k) ?_ (fun g hg => ?_) hsub hnd ?_ ?_ ?_) ((s5.trans sm).trans (sUpd nr))
        · rw [← em]
          exact glb.same sH
        · intro z
          have z2 := pg.length_eq
          rw [z] at z2
          exact gkne (List.length_eq_zero_iff.mp z2.symm)
        · exact hgk _ (pg.mem_iff.mp hg)
        · exact pg.nodup_iff.mpr gkn
        · exact List.pairwise_map.mpr hsort
        · rw [pg.length_eq]
          exact lgk
end
end Lk
set_option maxRecDepth 100000
namespace Lk
open PySem PySem.Spec PyProof.Rows L2
abbrev sSch : Stmt := topS 12
abbrev nSch : List Str := ["_law_source_here", "_law_most", "_law_names_here", "_law_count", "_law_left", "_law_servers", "_law_clients", "_law_observing", "_law_failing", "_law_prime", "_law_n"]
theorem scSch : FnScope nSch ["_law_source_here", "_law_most"] (defScope sSch) := ⟨rfl, rfl, rfl, by decide +kernel, rfl, by decide +kernel, by decide +kernel⟩
theorem cLenK {X : Cx} (K : PySem.W.Frag) (hK : X.K = K) : CallR X (.builtin "len") (fun xs H Q => ∃ x n, xs = [x] ∧ LenV K x H n ∧ Q (.int n) H) := by
  subst hK
  exact call_len
section
variable {X : Cx} {T : String} {name : Str} {id : String} {r : V → List V → Hp → VK → Prop} {o e : Expr} {es : List Expr} {to : TE} {t : TA} {apos cpos : Pos}
theorem peBmK (K : PySem.W.Frag) (hK : X.K = K) (pa : PlainAttrs T) (slot : Slot T name id) (hty : typeOf (.builtin id) = pure (.type "method_descriptor")) (hm : MtR X id r) (ho : PE X o to) (ha : PA X (e :: es) t)
    (hbase : attributeBase o name X.env (eval o X.env) = eval o X.env := by rfl)
    (hfew : ((backTo cpos (starEach (e :: es) X.env)).all (fun x => !x.1) && (backToKw cpos (keywordEach [] X.env)).all (fun x => x.1.isSome)
      && decide ((e :: es).length + ([] : List Keyword).length + (if ([] : List Keyword).isEmpty then 0 else 1) < 30)) = true := by rfl)
    (hline : (apos.endLine == cpos.line) = true := by rfl) (hs : starEach (e :: es) X.env = (false, eval e X.env) :: starEach es X.env := by rfl) (hplain : (backTo cpos (starEach es X.env)).any (·.1) = false := by rfl) :
    PE X (.Call (.Attribute o name apos) (e :: es) [] cpos) (tBM K T r to t) := by
  subst hK
  exact pe_bm pa slot hty hm ho ha hbase hfew hline hs hplain
end
/-- tuples stand -/
def Tp (H H' : Hp) : Prop := ∀ b xs, H b = some (.tup xs) → H' b = some (.tup xs)
theorem Tp.refl {H : Hp} : Tp H H := fun _ _ e => e
theorem Tp.trans {H H1 H2 : Hp} (a : Tp H H1) (b : Tp H1 H2) : Tp H H2 := fun x xs e => b x xs (a x xs e)
theorem Kp.tp {p c : Addr} {H H' : Hp} {n : Nat} (k : Kp p c H H') (s : Src H p c n) : Tp H H' := fun b xs e => k b _ (s.netp e) (s.netc e) e
theorem Same.tp {H H' : Hp} (k : Same H H') : Tp H H' := fun b xs e => k b _ e
theorem Tp.lst {H : Hp} {l : Addr} {xs ys : List V} (e : H l = some (.lst xs)) : Tp H (upd H l (.lst ys)) := fun b zs q => by
  rw [upd_ne (ne_of q e (by intro z; cases z))]
  exact q
theorem GL.tp {H H' : Hp} {as : List Addr} {gs : List (List Str)} (h : GL H as gs) (s : Tp H H') : GL H' as gs := Paired.mapP h fun t g q => s t _ q
structure SchOk (pr : Int) (sv cl : List Str) (ob fl : List (List Str)) : Prop where
  hpr : pr ∈ [2, 3, 5, 7, 101, 997, 499, 11]
  sasc : Asc sv
  slo : 2 ≤ sv.length
  shi : sv.length ≤ 5
  snm : ∀ x ∈ sv, IsNm x
  casc : Asc cl
  clo : 1 ≤ cl.length
  chi : cl.length ≤ 4
  cnm : ∀ x ∈ cl, IsNm x
  dis : ∀ x ∈ cl, x ∉ sv
  hob : ∃ gs, gs.length ≤ 6 ∧ (∀ g ∈ gs, g.Sublist sv) ∧ MaxOf gs ob
  hfl : ∃ gf, gf.length ≤ 6 ∧ (∀ g ∈ gf, ∃ o ∈ ob, g.Sublist o) ∧ MaxOf gf fl
structure SchAt (H : Hp) (t : Addr) (pr : Int) (sv cl : List Str) (ob fl : List (List Str)) (ts tc to tf : Addr) (obs fls : List Addr) : Prop where
  t : H t = some (.tup [.int pr, .ref ts, .ref tc, .ref to, .ref tf])
  s : TS H ts sv
  c : TS H tc cl
  o : H to = some (.tup (obs.map V.ref))
  os : GL H obs ob
  f : H tf = some (.tup (fls.map V.ref))
  fs : GL H fls fl
theorem okS_nm {xs : List Str} (h : ∀ x ∈ xs, IsNm x) : OkS xs := fun x hx => by
  have z := (h x hx).2.2
  unfold PyData.strOk
  rw [← Array.all_toList, List.all_eq_true]
  intro c hc
  have := z c hc
  exact decide_eq_true (by omega)
/-- some of the names at each turn -/
def SomeI (H0 Hx : Hp) (D p c : Addr) (ok : List Str → Prop) (m s i : Nat) (H' : Hp) : Prop :=
  ∃ (as : List Addr) (gs : List (List Str)), as.length = i ∧ GL H' as gs ∧ (∀ g ∈ gs, ok g) ∧ H' D = some (.lst (as.map V.ref)) ∧ Src H' p c (m + s * i) ∧ Kp p c H0 H' ∧ Tp Hx H'
theorem some_step {H0 Hx H4 H5 : Hp} {D p c t : Addr} {ok : List Str → Prop} {m s i : Nat} {as : List Addr} {gs : List (List Str)} {y : List Str} (ha : as.length = i) (hG : GL H4 as gs) (ho : ∀ g ∈ gs, ok g) (oy : ok y) (nDp : D ≠ p) (nDc : D ≠ c)
    (eD : H5 D = some (.lst (as.map V.ref))) (tS : TS H5 t y) (T45 : Tp H4 H5) (S5 : Src H5 p c (m + s * (i + 1))) (K5 : Kp p c H0 H5) (nD0 : H0 D = none) (T4 : Tp Hx H4) :
    SomeI H0 Hx D p c ok m s (i + 1) (upd H5 D (.lst (as.map V.ref ++ [.ref t]))) := by
  refine ⟨as ++ [t], gs ++ [y], by rw [List.length_append, ha]; rfl, Paired.snoc (GL.tp hG (T45.trans (Tp.lst eD))) (Tp.lst eD _ _ tS), fun g hg => ?_, by rw [upd_same, List.map_append]; rfl, S5.set nDp nDc, K5.fill nD0, (T4.trans T45).trans (Tp.lst eD)⟩
  rcases List.mem_append.mp hg with hg | hg
  · exact ho g hg
  · rw [List.mem_singleton.mp hg]
    exact oy
def spSch : Sp := fun vs H Q _ => ∃ (p c : Addr) (n : Nat), vs = [.ref p, .int 5] ∧ Src H p c n ∧ n ≤ 800000 ∧
  ∀ H' t pr sv cl ob fl ts tc to tf obs fls, SchOk pr sv cl ob fl → SchAt H' t pr sv cl ob fl ts tc to tf obs fls → Src H' p c (n + 200) → Kp p c H H' → Q (.ref t) H'
theorem erase_perm {α : Type} : ∀ (l : List α) (j : Nat) (h : j < l.length), (l[j] :: l.eraseIdx j).Perm l
  | x :: r, 0, _ => by simp
  | x :: r, j + 1, h => by
    have h' : j < r.length := by simpa using h
    have ih := erase_perm r j h'
    show (r[j] :: x :: r.eraseIdx j).Perm (x :: r)
    exact (List.Perm.swap _ _ _).trans (ih.cons x)
theorem erase_map {α β : Type} (f : α → β) : ∀ (l : List α) (j : Nat), (l.map f).eraseIdx j = (l.eraseIdx j).map f
  | [], _ => by simp
  | x :: r, 0 => rfl
  | x :: r, j + 1 => by
    show f x :: (r.map f).eraseIdx j = f x :: (r.eraseIdx j).map f
    rw [erase_map f r j]
/-- names drawn out of a list: what is out, what is left -/
def PopI (H0 Hx : Hp) (l D p c : Addr) (xs : List Str) (m i : Nat) (H' : Hp) : Prop :=
  ∃ lf sv : List Str, (sv ++ lf).Perm xs ∧ sv.length = i ∧ lf.length + i = xs.length ∧ H' l = some (.lst (lf.map V.str)) ∧ H' D = some (.lst (sv.map V.str)) ∧ Src H' p c (m + i) ∧ Kp p c H0 H' ∧ Tp Hx H'
theorem pop_step {H0 Hx H5 : Hp} {l D p c : Addr} {xs lf sv : List Str} {m i j : Nat} (hp : (sv ++ lf).Perm xs) (hs : sv.length = i) (hl : lf.length + i = xs.length) (hj : j < lf.length) (nlp : l ≠ p) (nlc : l ≠ c) (nDp : D ≠ p) (nDc : D ≠ c) (nDl : D ≠ l)
    (el : H5 l = some (.lst (lf.map V.str))) (eD : H5 D = some (.lst (sv.map V.str))) (S5 : Src H5 p c (m + i + 1)) (K5 : Kp p c H0 H5) (n0 : H0 l = none) (nD0 : H0 D = none) (T5 : Tp Hx H5) :
    PopI H0 Hx l D p c xs m (i + 1) (upd (upd H5 l (.lst ((lf.map V.str).eraseIdx j))) D (.lst (sv.map V.str ++ [.str lf[j]]))) := by
  refine ⟨lf.eraseIdx j, sv ++ [lf[j]], ?_, by rw [List.length_append, hs]; rfl, ?_, ?_, ?_, (S5.set nlp nlc).set nDp nDc, (K5.fill n0).fill nD0, (T5.trans (Tp.lst el)).trans (Tp.lst (xs := sv.map V.str) ?_)⟩
  · refine List.Perm.trans ?_ hp
    rw [List.append_assoc]
    exact List.Perm.append_left _ (erase_perm lf j hj)
  · rw [List.length_eraseIdx_of_lt hj]
    omega
  · rw [upd_ne nDl.symm, upd_same, erase_map]
  · rw [upd_same, List.map_append]
    rfl
  · rw [upd_ne nDl]
    exact eD
section
variable {P : Program} {w : World} {K : PySem.W.Frag} {mg : Str → Option Value} {base : Heap}
theorem ok_sch {f fD fP fN fS fM : Addr} {fd fdD fdP fdN fdS fdM : FuncData} {k : Nat} (F : Fun K "_law_drawn_scheme" "_law_drawn_scheme" sSch f fd)
    (D : FnOk P w K mg base CX0 (k + 1) fD fdD ["_law_source_here", "_law_limit"] spDraw) (gD : mg "_law_draw" = some (.ref fD)) (kD : PySem.W.keepIn K (.ref fD) = true) (bD : Binds K fdD ["_law_source_here", "_law_limit"] [])
    (P' : FnOk P w K mg base CX0 (k + 2) fP fdP ["_law_source_here", "_law_options"] (spPick K)) (gP : mg "_law_pick" = some (.ref fP)) (kP : PySem.W.keepIn K (.ref fP) = true) (bP : Binds K fdP ["_law_source_here", "_law_options"] [])
    (N' : FnOk P w K mg base CX0 (k + 3) fN fdN ["_law_source_here", "_law_count"] spNames) (gN : mg "_law_names" = some (.ref fN)) (kN : PySem.W.keepIn K (.ref fN) = true) (bN : Binds K fdN ["_law_source_here", "_law_count"] [])
    (S' : FnOk P w K mg base CX0 (k + 2) fS fdS ["_law_source_here", "_law_names_here"] spSome) (gS : mg "_law_some" = some (.ref fS)) (kS : PySem.W.keepIn K (.ref fS) = true) (bS : Binds K fdS ["_law_source_here", "_law_names_here"] [])
    (M' : FnOk P w K mg base CX0 (k + 1) fM fdM ["_law_groups_here"] (spMax K)) (gM : mg "_law_maximal" = some (.ref fM)) (kM : PySem.W.keepIn K (.ref fM) = true) (bM : Binds K fdM ["_law_groups_here"] [])
    (mr : mg "range" = none) (ms : mg "sorted" = none) (mt : mg "tuple" = none) (ml : mg "list" = none) (mn : mg "len" = none) : FnOk P w K mg base CX0 (k + 4) f fd ["_law_source_here", "_law_most"] spSch := by
  refine F.ok scSch (fun vs H Q E h => ?_) (fun cdv A outer s H vs Q E hr h => ?_)
  · obtain ⟨p, c, n, rfl, _⟩ := h
    rfl
  · obtain ⟨p, c, n, rfl, hS, hn, q⟩ := h
    have nd := scSch.nd
    refine ⟨_, pss_cons (ps_par (i := 2) (j := 3) (by rfl) nd rfl rfl (by decide) rfl rfl (pa_cons (pe_call N' (hr.mono (by omega)) (by rfl) gN kN bN .nil pass0 (pa_cons (pv 0) (pa_cons pe_int pa_nil)))
        (pa_cons (pe_op op_add pe_int (pe_call D (hr.mono (by omega)) (by rfl) gD kD bD .nil pass0 (pa_cons (pv 0) (pa_cons (pe_op op_sub (pv 1) pe_int) pa_nil)))) pa_nil)) (by rfl))
      (pss_cons (ps_set (i := 4) nd rfl (.inr rfl) (pe_callTy call_list_of (by rfl) ml (by decide +kernel) (pa_cons (pv 2) pa_nil)))
      (pss_cons (ps_set (i := 5) nd rfl (.inr rfl) (pe_callTy call_tuple_of (by rfl) mt (by decide +kernel) (pa_cons (pe_callB cr_sortedS (by rfl) ms (by decide +kernel) (pa_cons
          (pe_lc (own := [("_law_n", 10)]) (g := gName 10) (tt := tYes) rfl nd (pi_range1 (by rfl) mr (pa_cons (pv 3) pa_nil)) (blkOk_by (own := [("_law_n", 10)]) (N := nSch) (sc := defScope sSch) (by decide +kernel))
            (fun _ _ _ _ _ => pg_name (i := 10) nd rfl (.inl rfl)) (fun _ _ _ _ _ => pts_nil) (fun _ _ _ _ _ => peBmK K rfl PySem.F.plainAttrs_list PySem.F.slot_list_pop PySem.F.type_list_pop mt_popAt (pv 4) (pa_cons (pe_call D (hr.mono (by omega)) (by rfl) gD kD bD .nil pass0 (pa_cons (pv 0) (pa_cons (pe_callB (cLenK K rfl) (by rfl) mn PySem.boot_len (pa_cons (pv 4) pa_nil)) pa_nil))) pa_nil))) pa_nil)) pa_nil)))
      (pss_cons (ps_set (i := 6) nd rfl (.inl rfl) (pe_callTy call_tuple_of (by rfl) mt (by decide +kernel) (pa_cons (pe_callB cr_sortedS (by rfl) ms (by decide +kernel) (pa_cons
          (pe_lc (own := [("_law_n", 10)]) (g := gName 10) (tt := tYes) rfl nd (pi_range1 (by rfl) mr (pa_cons (pe_op op_add pe_int (pe_call D (hr.mono (by omega)) (by rfl) gD kD bD .nil pass0 (pa_cons (pv 0) (pa_cons pe_int pa_nil)))) pa_nil)) (blkOk_by (own := [("_law_n", 10)]) (N := nSch) (sc := defScope sSch) (by decide +kernel))
            (fun _ _ _ _ _ => pg_name (i := 10) nd rfl (.inl rfl)) (fun _ _ _ _ _ => pts_nil) (fun _ _ _ _ _ => peBmK K rfl PySem.F.plainAttrs_list PySem.F.slot_list_pop PySem.F.type_list_pop mt_popAt (pv 4) (pa_cons (pe_call D (hr.mono (by omega)) (by rfl) gD kD bD .nil pass0 (pa_cons (pv 0) (pa_cons (pe_callB (cLenK K rfl) (by rfl) mn PySem.boot_len (pa_cons (pv 4) pa_nil)) pa_nil))) pa_nil))) pa_nil)) pa_nil)))
      (pss_cons (ps_set (i := 7) nd rfl (.inr rfl) (pe_call M' (hr.mono (by omega)) (by rfl) gM kM bM .nil pass0 (pa_cons
          (pe_lc (own := [("_law_n", 10)]) (g := gName 10) (tt := tYes) rfl nd (pi_range1 (by rfl) mr (pa_cons (pe_op op_add pe_int (pe_call D (hr.mono (by omega)) (by rfl) gD kD bD .nil pass0 (pa_cons (pv 0) (pa_cons pe_int pa_nil)))) pa_nil)) (blkOk_by (own := [("_law_n", 10)]) (N := nSch) (sc := defScope sSch) (by decide +kernel))
            (fun _ _ _ _ _ => pg_name (i := 10) nd rfl (.inl rfl)) (fun _ _ _ _ _ => pts_nil) (fun _ _ _ _ _ => pe_call S' (hr.mono (by omega)) (by rfl) gS kS bS .nil pass0 (pa_cons (pv 0) (pa_cons (pv 5) pa_nil)))) pa_nil)))
      (pss_cons (ps_setLc (i := 8) (own := [("_law_n", 10)]) (g := gName 10) (tt := tYes) rfl nd rfl rfl (sw_true rfl rfl rfl (by decide +kernel)) (pi_range1 (by rfl) mr (pa_cons (pe_op op_add pe_int (pe_call D (hr.mono (by omega)) (by rfl) gD kD bD .nil pass0 (pa_cons (pv 0) (pa_cons pe_int pa_nil)))) pa_nil)) (blkOk_by (own := [("_law_n", 10)]) (N := nSch) (sc := defScope sSch) (by decide +kernel))
            (fun _ _ _ _ _ => pg_name (i := 10) nd rfl (.inl rfl)) (fun _ _ _ _ _ => pts_nil) (fun _ _ _ _ _ => pe_call S' (hr.mono (by omega)) (by rfl) gS kS bS .nil pass0 (pa_cons (pv 0) (pa_cons (pe_call P' (hr.mono (by omega)) (by rfl) gP kP bP .nil pass0 (pa_cons (pv 0) (pa_cons (pv 7) pa_nil))) pa_nil))))
      (pss_cons (ps_set (i := 9) nd rfl (.inl rfl) (pe_call P' (hr.mono (by omega)) (by rfl) gP kP bP .nil pass0 (pa_cons (pv 0) (pa_cons (pe_lst (pa_cons pe_int (pa_cons pe_int (pa_cons pe_int (pa_cons pe_int (pa_cons pe_int (pa_cons pe_int (pa_cons pe_int (pa_cons pe_int pa_nil))))))))) pa_nil))))
      (pss_one (ps_ret (pe_tup (pa_cons (pv 9) (pa_cons (pv 5) (pa_cons (pv 6) (pa_cons (pv 7) (pa_cons (pe_call M' (hr.mono (by omega)) (by rfl) gM kM bM .nil pass0 (pa_cons (pv 8) pa_nil)) pa_nil)))))))))))))), ?_⟩
    -- the names, the servers' number
    refine ⟨.ref p, rfl, p, c, n, rfl, hS, by omega, fun H1 l0 xs nl0 el0 hN S1 K1 => ?_⟩
    refine ⟨.ref p, rfl, .int 5, rfl, 5, 1, rfl, rfl, p, c, n + 7, 4, rfl, S1, by omega, by decide, by decide, fun H2 r r0 r1 S2 K2 => ?_⟩
    obtain ⟨rn, rfl⟩ : ∃ m : Nat, r = m := ⟨r.toNat, by omega⟩
    refine ⟨2, rn, rfl, rfl, _, _, rfl, ?_⟩
    have nl0p : l0 ≠ p := by
      obtain ⟨g, k, ns, e, _⟩ := hS
      exact (ne_of_none e nl0).symm
    have nl0c : l0 ≠ c := by
      obtain ⟨g, k, ns, _, e, _⟩ := hS
      exact (ne_of_none e nl0).symm
    have el2 : H2 l0 = some (.lst (xs.map V.str)) := K2 _ _ nl0p nl0c el0
    have KH2 : Kp p c H H2 := K1.trans K2
    -- left = list(names)
    refine ⟨_, rfl, l0, _, rfl, .inl (.inl (.inl el2)), fun l nl => ?_⟩
    have nlp := S2.nep nl
    have nlc := S2.nec nl
    have S3 : Src (upd H2 l (.lst (xs.map V.str))) p c (n + 8) := S2.upd nl
    have K3 : Kp p c H2 (upd H2 l (.lst (xs.map V.str))) := .new nl
    have el3 : (upd H2 l (.lst (xs.map V.str))) l = some (.lst (xs.map V.str)) := upd_same
    generalize upd H2 l (.lst (xs.map V.str)) = H3 at S3 K3 el3
    have lx := hN.len
    -- the servers
    refine ⟨_, rfl, 2 + rn, rfl, by omega, by omega, fun D nD => ?_⟩
    have nDp := S3.nep nD
    have nDc := S3.nec nD
    have nDl : D ≠ l := fun e => by rw [e, el3] at nD; cases nD
    have nD2 : H2 D = none := K3.none S3 nD
    refine lc_range (lo := 0) (n := (2 + (rn : Int)).toNat) (PopI H2 H2 l D p c xs (n + 8)) ⟨xs, [], by simp, rfl, rfl, by rw [upd_ne nDl.symm]; exact el3, upd_same, S3.upd nD, K3.fill nD2, (K3.tp S2).trans (Same.tp (sUpd nD))⟩ (fun i H' hi hW => ?_) (fun H' hW => ?_)
    · obtain ⟨lf, sv, hp, hs, hl, eL, eD, S4, K4, T4⟩ := hW
      refine ⟨rfl, ?_⟩
      refine ⟨_, rfl, .inl ⟨rfl, _, .inl (.inl eL)⟩, .ref p, rfl, _, rfl, _, _, rfl, .inl ⟨_, .inl (.inl eL), rfl⟩, p, c, n + 8 + i, _, rfl, S4, by omega, ?_, ?_, fun H5 r r0 r1 S5 K5 => ?_⟩
      · rw [List.length_map]; omega
      · rw [List.length_map, Int.natAbs_natCast]
        exact Nat.lt_of_lt_of_le (show lf.length < 2 ^ 4 by omega) (Nat.pow_le_pow_right (by decide) (by decide))
      · rw [List.length_map] at r1
        obtain ⟨j, rfl⟩ : ∃ m : Nat, r = m := ⟨r.toNat, by omega⟩
        have hj : j < lf.length := by omega
        have eL5 := K5 _ _ nlp nlc eL
        have eD5 := K5 _ _ nDp nDc eD
        refine ⟨l, _, j, j, .str lf[j], rfl, rfl, eL5, by omega, by omega, by rw [List.length_map]; exact seqIndex_of (by omega) (by omega), by rw [List.getElem?_map, List.getElem?_eq_getElem hj]; rfl, ?_⟩
        refine ⟨_, by rw [upd_ne nDl]; exact eD5, by rw [List.length_map, sizeLine_eq]; omega, ?_⟩
        exact pop_step hp hs hl hj nlp nlc nDp nDc nDl eL5 eD5 S5 (K4.trans K5) nl nD2 (T4.trans (K5.tp S4))
    · obtain ⟨lf, sv0, hp, hs, hl, eL, eD, S4, K4, T4⟩ := hW
      have hxs : xs.Nodup := hN.asc.nodup
      have hnd0 : (sv0 ++ lf).Nodup := hp.nodup_iff.mpr hxs
      have hi2 : (2 + (rn : Int)).toNat = 2 + rn := by omega
      rw [hi2] at hs hl S4
      refine ⟨D, sv0, rfl, .inl (.inl eD), by omega, fun sv ls pm srt nls => ?_⟩
      refine ⟨ls, _, rfl, .inl ⟨.inl (.inl upd_same), fun ts nts => ?_⟩⟩
      have sasc : Asc sv := sorted_asc pm srt (List.nodup_append.mp hnd0).1
      have smem : ∀ x ∈ sv, x ∈ xs := fun x hx => hp.mem_iff.mp (List.mem_append_left _ (pm.mem_iff.mp hx))
      have lmem : ∀ x ∈ lf, x ∈ xs ∧ x ∉ sv := fun x hx => ⟨hp.mem_iff.mp (List.mem_append_right _ hx), fun z => (List.nodup_append.mp hnd0).2.2 x (pm.mem_iff.mp z) x hx rfl⟩
      have slen : sv.length = 2 + rn := by rw [pm.length_eq, hs]
      have S6 : Src (upd (upd H' ls (.lst (sv.map V.str))) ts (.tup (sv.map V.str))) p c (n + 8 + (2 + rn)) := (S4.upd nls).upd nts
      have K6 : Kp p c H2 (upd (upd H' ls (.lst (sv.map V.str))) ts (.tup (sv.map V.str))) := (K4.trans (.new nls)).trans (.new nts)
      have t6 : TS (upd (upd H' ls (.lst (sv.map V.str))) ts (.tup (sv.map V.str))) ts sv := upd_same
      have l6 : (upd (upd H' ls (.lst (sv.map V.str))) ts (.tup (sv.map V.str))) l = some (.lst (lf.map V.str)) := by
        have e1 : (upd H' ls (.lst (sv.map V.str))) l = some (.lst (lf.map V.str)) := by rw [upd_ne (ne_of_none eL nls)]; exact eL
        rw [upd_ne (ne_of_none e1 nts)]
        exact e1
      generalize upd (upd H' ls (.lst (sv.map V.str))) ts (.tup (sv.map V.str)) = H6 at S6 K6 t6 l6
      -- the clients
      refine ⟨.ref p, rfl, p, c, _, 4, rfl, S6, by omega, by decide, by decide, fun H7 r r0 r1 S7 K7 => ?_⟩
      obtain ⟨cn, rfl⟩ : ∃ m : Nat, r = m := ⟨r.toNat, by omega⟩
      refine ⟨1, cn, rfl, rfl, 1 + cn, rfl, by omega, by omega, fun D2 nD2 => ?_⟩
      have t7 := t6.kp S6 K7
      have l7 := K7 _ _ nlp nlc l6
      have nD2p := S7.nep nD2
      have nD2c := S7.nec nD2
      have nD2l : D2 ≠ l := fun e => by rw [e, l7] at nD2; cases nD2
      have K27 : Kp p c H2 H7 := K6.trans K7
      have nD22 : H2 D2 = none := K27.none S7 nD2
      refine lc_range (lo := 0) (n := (1 + (cn : Int)).toNat) (PopI H2 H7 l D2 p c lf (n + 8 + (2 + rn) + 1)) ⟨lf, [], by simp, rfl, rfl, by rw [upd_ne nD2l.symm]; exact l7, upd_same, S7.upd nD2, K27.fill nD22, Same.tp (sUpd nD2)⟩ (fun i H' hi hW => ?_) (fun H' hW => ?_)
      · obtain ⟨lf2, sv2, hp2, hs2, hl2, eL, eD, S4, K4, T4⟩ := hW
        refine ⟨rfl, ?_⟩
        refine ⟨_, rfl, .inl ⟨rfl, _, .inl (.inl eL)⟩, .ref p, rfl, _, rfl, _, _, rfl, .inl ⟨_, .inl (.inl eL), rfl⟩, p, c, n + 8 + (2 + rn) + 1 + i, _, rfl, S4, by omega, ?_, ?_, fun H5 r r0 r1 S5 K5 => ?_⟩
        · rw [List.length_map]; omega
        · rw [List.length_map, Int.natAbs_natCast]
          exact Nat.lt_of_lt_of_le (show lf2.length < 2 ^ 4 by omega) (Nat.pow_le_pow_right (by decide) (by decide))
        · rw [List.length_map] at r1
          obtain ⟨j, rfl⟩ : ∃ m : Nat, r = m := ⟨r.toNat, by omega⟩
          have hj : j < lf2.length := by omega
          have eL5 := K5 _ _ nlp nlc eL
          have eD5 := K5 _ _ nD2p nD2c eD
          refine ⟨l, _, j, j, .str lf2[j], rfl, rfl, eL5, by omega, by omega, by rw [List.length_map]; exact seqIndex_of (by omega) (by omega), by rw [List.getElem?_map, List.getElem?_eq_getElem hj]; rfl, ?_⟩
          refine ⟨_, by rw [upd_ne nD2l]; exact eD5, by rw [List.length_map, sizeLine_eq]; omega, ?_⟩
          exact pop_step hp2 hs2 hl2 hj nlp nlc nD2p nD2c nD2l eL5 eD5 S5 (K4.trans K5) nl nD22 (T4.trans (K5.tp S4))
      · obtain ⟨lf2, cl0, hp2, hs2, hl2, eL2, eD2, S8, K8, T8⟩ := hW
        have hi3 : (1 + (cn : Int)).toNat = 1 + cn := by omega
        rw [hi3] at hs2 hl2 S8
        have hnd2 : (cl0 ++ lf2).Nodup := hp2.nodup_iff.mpr (List.nodup_append.mp hnd0).2.1
        refine ⟨D2, cl0, rfl, .inl (.inl eD2), by omega, fun cl lc pm2 srt2 nlc2 => ?_⟩
        refine ⟨lc, _, rfl, .inl ⟨.inl (.inl upd_same), fun tc ntc => ?_⟩⟩
        have casc : Asc cl := sorted_asc pm2 srt2 (List.nodup_append.mp hnd2).1
        have cmem : ∀ x ∈ cl, x ∈ lf := fun x hx => hp2.mem_iff.mp (List.mem_append_left _ (pm2.mem_iff.mp hx))
        have clen : cl.length = 1 + cn := by rw [pm2.length_eq, hs2]
        have S9 : Src (upd (upd H' lc (.lst (cl.map V.str))) tc (.tup (cl.map V.str))) p c (n + 8 + (2 + rn) + 1 + (1 + cn)) := (S8.upd nlc2).upd ntc
        have K9 : Kp p c H2 (upd (upd H' lc (.lst (cl.map V.str))) tc (.tup (cl.map V.str))) := (K8.trans (.new nlc2)).trans (.new ntc)
        have T9 : Tp H7 (upd (upd H' lc (.lst (cl.map V.str))) tc (.tup (cl.map V.str))) := T8.trans ((Same.tp (sUpd nlc2)).trans (Same.tp (sUpd ntc)))
        have tc9 : TS (upd (upd H' lc (.lst (cl.map V.str))) tc (.tup (cl.map V.str))) tc cl := upd_same
        have ts9 : TS (upd (upd H' lc (.lst (cl.map V.str))) tc (.tup (cl.map V.str))) ts sv := T9 _ _ t7
        generalize upd (upd H' lc (.lst (cl.map V.str))) tc (.tup (cl.map V.str)) = H9 at S9 K9 tc9 ts9
        have snm : ∀ x ∈ sv, IsNm x := fun x hx => hN.nm x (smem x hx)
        have cnm : ∀ x ∈ cl, IsNm x := fun x hx => hN.nm x (lmem x (cmem x hx)).1
        -- the observer sets
        refine ⟨.ref p, rfl, p, c, _, 6, rfl, S9, by omega, by decide, by decide, fun H10 r r0 r1 S10 K10 => ?_⟩
        obtain ⟨on, rfl⟩ : ∃ m : Nat, r = m := ⟨r.toNat, by omega⟩
        refine ⟨1, on, rfl, rfl, 1 + on, rfl, by omega, by omega, fun D3 nD3 => ?_⟩
        have nD3p := S10.nep nD3
        have nD3c := S10.nec nD3
        have K210 : Kp p c H2 H10 := K9.trans K10
        have nD32 : H2 D3 = none := K210.none S10 nD3
        have ts10 := ts9.kp S9 K10
        have tc10 := tc9.kp S9 K10
        refine lc_range (lo := 0) (n := (1 + (on : Int)).toNat) (SomeI H2 H10 D3 p c (fun g => g.Sublist sv) (n + 8 + (2 + rn) + 1 + (1 + cn) + 1) 13) ⟨[], [], rfl, .nil, by simp, upd_same, S10.upd nD3, K210.fill nD32, Same.tp (sUpd nD3)⟩ (fun i H' hi hW => ?_) (fun H' hW => ?_)
        · obtain ⟨as, gs, ha, hG, ho, eD, S4, K4, T4⟩ := hW
          refine ⟨rfl, ?_⟩
          refine ⟨.ref p, rfl, .ref ts, rfl, p, c, ts, _, sv, rfl, T4 _ _ ts10, by omega, S4, by omega, fun H5 t ys nt tt sub S5 K5 => ?_⟩
          refine ⟨_, K5 _ _ nD3p nD3c eD, by rw [List.length_map, sizeLine_eq]; omega, ?_⟩
          exact some_step ha hG ho sub nD3p nD3c (K5 _ _ nD3p nD3c eD) tt (K5.tp S4) (S5.mono (by omega)) (K4.trans K5) nD32 T4
        · obtain ⟨as, gs, ha, hG, ho, eD, S11, K11, T11⟩ := hW
          have hi4 : (1 + (on : Int)).toNat = 1 + on := by omega
          rw [hi4] at ha S11
          have hgl := hG.length
          refine ⟨D3, as, gs, sv, rfl, eD, hG, fun z => by have z2 := congrArg List.length z; rw [List.length_nil] at z2; omega, by omega, ho, sasc.nodup, okS_nm snm, by omega, fun H12 to obs ob nto eto glo mxo sm12 => ?_⟩
          have obl : 0 < ob.length := by
            cases h : ob with
            | nil => exact absurd h mxo.ne
            | cons _ _ => simp
          have obh := mxo.len
          have hob := glo.length
          have S12 : Src H12 p c (n + 8 + (2 + rn) + 1 + (1 + cn) + 1 + 13 * (1 + on)) := by
            obtain ⟨g, k, ns, e1, e2, r⟩ := S11
            exact ⟨g, k, ns, sm12 _ _ e1, sm12 _ _ e2, r⟩
          have K212 : Kp p c H2 H12 := K11.trans (Kp.of sm12)
          have T1012 : Tp H10 H12 := T11.trans (Same.tp sm12)
          -- the fault sets
          refine ⟨.ref p, rfl, p, c, _, 6, rfl, S12, by omega, by decide, by decide, fun H13 r r0 r1 S13 K13 => ?_⟩
          obtain ⟨fn, rfl⟩ : ∃ m : Nat, r = m := ⟨r.toNat, by omega⟩
          refine ⟨1, fn, rfl, rfl, 1 + fn, rfl, by omega, by omega, fun D4 nD4 => ?_⟩
          have nD4p := S13.nep nD4
          have nD4c := S13.nec nD4
          have K213 : Kp p c H2 H13 := K212.trans K13
          have nD42 : H2 D4 = none := K213.none S13 nD4
          have T1213 := K13.tp S12
          have eto13 := T1213 _ _ eto
          have glo13 := glo.tp T1213
          have obS : ∀ o ∈ ob, o.Sublist sv := fun o hx => ho o (mxo.sub o hx)
          refine lc_range (lo := 0) (n := (1 + (fn : Int)).toNat) (SomeI H2 H13 D4 p c (fun g => ∃ o ∈ ob, g.Sublist o) (n + 8 + (2 + rn) + 1 + (1 + cn) + 1 + 13 * (1 + on) + 1) 14) ⟨[], [], rfl, .nil, by simp, upd_same, S13.upd nD4, K213.fill nD42, Same.tp (sUpd nD4)⟩ (fun i H' hi hW => ?_) (fun H' hW => ?_)
          · obtain ⟨as2, gs2, ha2, hG2, ho2, eD2, S4, K4, T4⟩ := hW
            refine ⟨rfl, ?_⟩
            refine ⟨.ref p, rfl, .ref p, rfl, .ref to, rfl, p, c, _, .ref to, ob.length, fun i => .ref (obs.getD i 0), rfl, S4, by omega, obl, by omega, fun Hz hz => ?_, fun H5 j hj S5 K5 => ?_⟩
            · have e : Hz to = some (.tup (obs.map V.ref)) := hz _ _ (S4.netp (T4 _ _ eto13)) (S4.netc (T4 _ _ eto13)) (T4 _ _ eto13)
              refine ⟨.inr ⟨_, .inl (.inl e), by rw [List.length_map, hob]⟩, .inr (.inl ⟨to, _, rfl, .inl (.inl e), by rw [List.length_map, hob], fun i v hv => ?_⟩)⟩
              rw [List.getElem?_map] at hv
              cases q2 : obs[i]? with
              | none => rw [q2] at hv; cases hv
              | some a =>
                rw [q2] at hv
                show V.ref (obs.getD i 0) = v
                rw [List.getD_eq_getElem?_getD, q2]
                exact Option.some.inj hv
            · obtain ⟨o, eo, to'⟩ := glo13.get (List.getElem?_eq_getElem (show j < obs.length by omega))
              have eg : obs.getD j 0 = obs[j] := by rw [List.getD_eq_getElem?_getD, List.getElem?_eq_getElem (show j < obs.length by omega)]; rfl
              have to2 : TS H13 (obs.getD j 0) o := by rw [eg]; exact to'
              have hom : o ∈ ob := List.mem_of_getElem? eo
              have T5 := K5.tp S4
              refine ⟨p, c, obs.getD j 0, _, o, rfl, T5 _ _ (T4 _ _ to2), Nat.le_trans (obS o hom).length_le (by omega), S5, by omega, fun H6 t ys nt tt sub S6 K6 => ?_⟩
              have eD6 := K6 _ _ nD4p nD4c (K5 _ _ nD4p nD4c eD2)
              refine ⟨_, eD6, by rw [List.length_map, sizeLine_eq]; omega, ?_⟩
              exact some_step ha2 hG2 ho2 ⟨o, hom, sub⟩ nD4p nD4c eD6 tt (T5.trans (K6.tp S5)) (S6.mono (by omega)) (K4.trans (K5.trans K6)) nD42 T4
          · obtain ⟨as2, gs2, ha2, hG2, ho2, eD2, S14, K14, T14⟩ := hW
            have hi5 : (1 + (fn : Int)).toNat = 1 + fn := by omega
            rw [hi5] at ha2 S14
            have hgl2 := hG2.length
            -- the prime
            refine ⟨.ref p, rfl, by show 8 ≤ sizeLine; rw [sizeLine_eq]; decide, fun o no => ?_⟩
            have nop := S14.nep no
            have noc := S14.nec no
            refine ⟨p, c, _, .ref o, 8, fun i => .int (([2, 3, 5, 7, 101, 997, 499, 11] : List Int).getD i 0), rfl, S14.upd no, by omega, by decide, by decide, fun Hz hz => ?_, fun H15 j hj S15 K15 => ?_⟩
            · have e : Hz o = some (.lst [.int 2, .int 3, .int 5, .int 7, .int 101, .int 997, .int 499, .int 11]) := hz _ _ nop noc upd_same
              refine ⟨.inl ⟨_, .inl (.inl e), rfl⟩, .inl ⟨o, _, rfl, .inl (.inl e), rfl, fun i v hv => ?_⟩⟩
              have hi : i < 8 := (List.getElem?_eq_some_iff.mp hv).1
              have : i = 0 ∨ i = 1 ∨ i = 2 ∨ i = 3 ∨ i = 4 ∨ i = 5 ∨ i = 6 ∨ i = 7 := by omega
              rcases this with rfl | rfl | rfl | rfl | rfl | rfl | rfl | rfl <;> exact Option.some.inj hv
            have K1415 : Kp p c H' H15 := (Kp.new no).trans K15
            have T1415 : Tp H' H15 := (Same.tp (sUpd no)).trans (K15.tp (S14.upd no))
            have eD15 : H15 D4 = some (.lst (as2.map V.ref)) := K1415 _ _ nD4p nD4c eD2
            -- what is handed back
            refine ⟨_, rfl, .ref ts, rfl, .ref tc, rfl, .ref to, rfl, .ref D4, rfl, D4, as2, gs2, sv, rfl, eD15, hG2.tp T1415, fun z => by have z2 := congrArg List.length z; rw [List.length_nil] at z2; omega, by omega, fun g hg => ?_, sasc.nodup, okS_nm snm, by omega, fun H16 tf fls fl ntf etf glf mxf sm16 => ?_⟩
            · obtain ⟨o, ho', hs'⟩ := ho2 g hg
              exact hs'.trans (obS o ho')
            refine ⟨by show 5 ≤ sizeLine; rw [sizeLine_eq]; decide, fun t nt => ?_⟩
            have S16 : Src H16 p c (n + 200) := by
              obtain ⟨g, k, ns, e1, e2, r1, r2, r3, r4, r5⟩ := S15
              exact ⟨g, k, ns, sm16 _ _ e1, sm16 _ _ e2, r1, r2, r3, by omega, r5⟩
            have T1316 : Tp H13 H16 := T14.trans (T1415.trans (Same.tp sm16))
            have T1016 : Tp H10 H16 := T1012.trans (T1213.trans T1316)
            have T16 : Tp H16 (upd H16 t (.tup [.int (([2, 3, 5, 7, 101, 997, 499, 11] : List Int).getD j 0), .ref ts, .ref tc, .ref to, .ref tf])) := Same.tp (sUpd nt)
            refine q _ t (([2, 3, 5, 7, 101, 997, 499, 11] : List Int).getD j 0) sv cl ob fl ts tc to tf obs fls ?_ ?_ (S16.upd nt) ((((KH2.trans K14).trans K1415).trans (Kp.of sm16)).trans (.new nt))
            · refine ⟨?_, sasc, by omega, by omega, snm, casc, by omega, by omega, cnm, fun x hx => (lmem x (cmem x hx)).2, ⟨gs, by omega, ho, mxo⟩, ⟨gs2, by omega, ho2, mxf⟩⟩
              rw [List.getD_eq_getElem?_getD, List.getElem?_eq_getElem (show j < 8 from hj)]
              exact List.getElem_mem _
            · exact ⟨upd_same, T16 _ _ (T1016 _ _ ts10), T16 _ _ (T1016 _ _ tc10), T16 _ _ (T1316 _ _ eto13), glo13.tp (T1316.trans T16), T16 _ _ etf, glf.tp T16⟩
end
end Lk
set_option maxRecDepth 100000
set_option maxHeartbeats 2000000
namespace Lk
open PySem PySem.Spec PyProof.Rows L2
section
variable {X : Cx} {pins : List (Addr × Obj)} {σ : L2.St} {H H1 : Hp} {s s1 : Shared}
/-- a list or a tuple is gone through -/
theorem iter_seq {a : Addr} {xs : List V} (I1 : Inv X pins σ H1 s1) (h : SqL X.K H1 a xs ∨ SqT X.K H1 a xs) :
    ∃ its : List Value, Vals xs its ∧ (∃ ob n, s1.heap.get? a = some ob ∧ ob.data = .seq its.toArray n) ∧
      ∀ (A : Around) (E : Value → Shared → Prop) (Q : Value → Shared → Prop), (∀ (o : Obj) (St : Nat → Heap → Prop), (∀ A' : Around, A'.handled = none → Walks X.prog X.w A' s1.heap.objs.size [s1.heap.objs.size, a] [s1.heap.objs.size] its.toArray.size (fun i v => its.toArray[i]? = some v) St) →
        St 0 (s1.heap.push o) → Q (.ref s1.heap.objs.size) { s1 with heap := s1.heap.push o }) → wpAny (model X.prog X.w) A (pyIter (.ref a)) Q E s1 := by
  rcases h with h | h
  · obtain ⟨its, rv, hl, hz⟩ := I1.list h
    have hIL := hl.isList
    obtain ⟨ob, e, hc, n, hd⟩ := _root_.id hIL
    have hlt : a < s1.heap.objs.size := Heap.lt_size e
    refine ⟨its, rv, ⟨ob, n, e, hd⟩, fun A E Q hQ => wpAny_pyIter_list hIL (hQ _ _ (fun A' hA => Walks.list hA _ _ (Nat.ne_of_lt hlt) _) ⟨⟨_, Heap.get?_push_size _ rfl, rfl, rfl⟩, ?_⟩)⟩
    exact ⟨ob, Heap.get?_push_of_some _ e, hc, n, hd⟩
  · obtain ⟨its, rv, ht, hz⟩ := I1.tuple h
    obtain ⟨ob, e, hc, n, hd⟩ := _root_.id ht
    have hlt : a < s1.heap.objs.size := Heap.lt_size e
    refine ⟨its, rv, ⟨ob, n, e, hd⟩, fun A E Q hQ => wpAny_pyIter_tuple ht (hQ _ _ (fun A' hA => Walks.tuple hA _ _ (Nat.ne_of_lt hlt) _) ⟨⟨_, Heap.get?_push_size _ rfl, rfl, rfl⟩, ?_⟩)⟩
    exact ⟨ob, Heap.get?_push_of_some _ e, hc, n, hd⟩
/-- what the tests and the element of a generator expression are worth -/
structure EltOk (X : Cx) (s1 : Shared) (P : Addr) (scope : Scope) (x : Str) (ifs : List Expr) (elt : Expr) (xs : List V) (pz : Nat → Bool) (F : Nat → Value → Prop) : Prop where
  tests : ∀ (cenv : Env) (A' : Around) (E' : Value → Shared → Prop) (i : Nat) (y : V) (v : Value) (s₂ : Shared) (m₂ : Str → Option Value), cenv.scope = scope → cenv.cells = cloFrom X.env.cells scope.names [] → A'.handled = none →
    xs[i]? = some y → RelV y v → (∀ b o, b ≠ P → s1.heap.get? b = some o → s₂.heap.get? b = some o) → s₂.heap.Ns cenv.locals m₂ → m₂ x = some v →
    wpAny (model X.prog X.w) A' (forIn ifs true fun c r => if r = true then do let ok ← isTrue c cenv (eval c cenv); pure (ForInStep.yield ok) else pure (ForInStep.yield r)) (fun ok s₃ => ok = pz i ∧ Keeps s₂ s₃) E' s₂
  elt : ∀ (cenv : Env) (A' : Around) (E' : Value → Shared → Prop) (i : Nat) (y : V) (v : Value) (s₂ : Shared) (m₂ : Str → Option Value), cenv.scope = scope → cenv.cells = cloFrom X.env.cells scope.names [] → A'.handled = none →
    xs[i]? = some y → RelV y v → (∀ b o, b ≠ P → s1.heap.get? b = some o → s₂.heap.get? b = some o) → s₂.heap.Ns cenv.locals m₂ → m₂ x = some v →
    wpAny (model X.prog X.w) A' (eval elt cenv) (fun z s₃ => F i z ∧ Keeps s₂ s₃) E' s₂
/-- the generator g, ready to be walked -/
def ReadyG (X : Cx) (pins : List (Addr × Obj)) (σ : L2.St) (H1 : Hp) (P : Addr) (n : Nat) (pz : Nat → Bool) (F : Nat → Value → Prop) (g : Addr) (s5 : Shared) : Prop :=
  ∃ (fp wr : List Addr) (G : Array GenState → Array GenState → Prop) (St : Nat → Shared → Prop),
    WalksS X.prog X.w X.A.in4 g fp wr G (passing pz n 0).length (fun j y => ∃ i, (passing pz n 0)[j]? = some i ∧ F i y) St ∧ St 0 s5 ∧ (∀ b ∈ fp, b < s5.heap.objs.size) ∧ g ∈ fp ∧ (∀ i s9, St i s9 → s9.TypeIs (.ref g) "generator") ∧
    ∀ s', Moved wr G s5 s' → ∃ H2, GxR.Tabbed P H1 H2 ∧ Inv X pins σ H2 s'
theorem gen_seq {c P : Addr} {elt iter : Expr} {ifs : List Expr} {x : Str} {px gpos : Pos} {scope : Scope} {te : TE} {k : Nat} {Q' : Value → Shared → Prop}
    (hr : Room k X.A) (TB : GxR.TabB X.base X.mg c P) (hcode : X.env.code = .ref c) (S : GxR.GenS X.env scope x) (hi : PE X iter te)
    (hs : ∀ v, genFold iter X.env v = pure v) (I : Inv X pins σ H s)
    {R : V → Hp → Prop} (h : te σ H R) (hR : ∀ v H1, R v H1 → ∃ (a : Addr) (xs : List V) (pz : Nat → Bool) (F : Nat → Value → Prop), v = .ref a ∧ (SqL X.K H1 a xs ∨ SqT X.K H1 a xs) ∧ GxR.TabG H1 P ∧ (∀ s1, Inv X pins σ H1 s1 → EltOk X s1 P scope x ifs elt xs pz F) ∧
      ∀ g s5, ReadyG X pins σ H1 P xs.length pz F g s5 → Q' (.ref g) s5) :
    wpAny (model X.prog X.w) X.A (eval (.GeneratorExp elt [⟨.Name x px, iter, ifs, 0⟩] scope gpos) X.env) Q' X.xe s := by
  refine wpAny_GeneratorExp_walksQ hr.hd S.co (closure_ok S.free) S.cell S.dot S.loc S.kind (by have := hr.dp; omega) ?_ hs
  refine thn (hi.run pins s σ H _ I h) fun xv s1 ⟨v, H1, I1, r1, q1⟩ => ?_
  obtain ⟨yl, xs, pz, F, rfl, hyl, ⟨ps, hP, ht⟩, hel, hQ⟩ := hR v H1 q1
  obtain rfl : xv = Value.ref yl := r1
  obtain ⟨its, rv, ⟨oba, na, hoa, hda⟩, hit⟩ := iter_seq I1 hyl
  have hlen : its.length = xs.length := by rw [← rv.length]
  have hat : ∀ (i : Nat) (v : Value), its.toArray[i]? = some v → ∃ y, xs[i]? = some y ∧ RelV y v := fun i v hv => by
    have hv2 : its[i]? = some v := by simpa using hv
    have hi2 : i < its.length := (List.getElem?_eq_some_iff.mp hv2).1
    obtain ⟨u, hu, ru⟩ := rv.get (List.getElem?_eq_getElem (show i < xs.length by omega))
    rw [hv2] at hu
    cases hu
    exact ⟨_, List.getElem?_eq_getElem _, ru⟩
  refine hit _ _ _ fun o St0 W0 hst0 => ?_
  have hylt : yl < s1.heap.objs.size := Heap.lt_size hoa
  have hPs : s1.heap.get? P = some { cls := .none, data := .fields ps } := I1.hok P _ hP
  have hPlt : P < s1.heap.objs.size := Heap.lt_size hPs
  have hP2 : (s1.heap.push o).get? P = some { cls := .none, data := .fields ps } := Heap.get?_push_of_some _ hPs
  have cd : PySem.W.CodeHd (s1.heap.push o) c P := TB.code.keeps fun b u e => Heap.get?_push_of_some _ (I1.bk b u e)
  have lim2 : (s1.heap.push o).NoLimit := I1.nolimit.push o
  have cont : ∀ (code : Value) (h3 : Heap) (tk : Nat) (ps' : Array Value), Heap.ExtBut P (s1.heap.push o) h3 → (s1.heap.push o).objs.size ≤ h3.objs.size → h3.get? P = some { cls := .none, data := .fields ps' } → (∃ more, ps' = ps ++ more) → TriplesOk ps'.toList →
      wpAny (model X.prog X.w) X.A (builtinsFor X.env.globals X.env.builtins) (fun bi s₄ =>
        ∃ Ia fp wr n₀ Pf St₀ pz F, Value.ref s1.heap.objs.size = .ref Ia ∧ (∀ A' : Around, A'.handled = none → Walks X.prog X.w A' Ia fp wr n₀ Pf St₀) ∧ St₀ 0 s₄.heap ∧ (∀ b ∈ fp, b < s₄.heap.objs.size) ∧ s₄.heap.NoLimit ∧ cStatics ∉ wr ∧
          (∀ href : Heap, (∀ b o, s₄.heap.get? b = some o → href.get? b = some o) →
            QuietGen X.prog X.w (genEnv scope (cloFrom X.env.cells scope.names []) s₄.heap.objs.size code bi X.env) x ifs elt (List.range s₄.heap.objs.size) wr Pf pz F href) ∧
          (∀ a h₅ tk gs, gs.bare = true → s₄.heap.objs.size < a → h₅.objs.size = a + 1 → (∀ b o, s₄.heap.get? b = some o → h₅.get? b = some o) →
            WalksS X.prog X.w X.A.in4 a (a :: s₄.heap.objs.size :: List.range s₄.heap.objs.size) (s₄.heap.objs.size :: wr) (GenOnlyQ s₄.gens.size) (passing pz n₀ 0).length
              (fun j y => ∃ i, (passing pz n₀ 0)[j]? = some i ∧ F i y) (GenAt X.prog X.w X.A.in4 a s₄.gens.size s₄.heap.objs.size (List.range s₄.heap.objs.size) wr pz n₀ F) →
            GenAt X.prog X.w X.A.in4 a s₄.gens.size s₄.heap.objs.size (List.range s₄.heap.objs.size) wr pz n₀ F 0 { s₄ with gens := s₄.gens.push gs, toks := tk, heap := h₅ } →
            Q' (.ref a) { s₄ with gens := s₄.gens.push gs, toks := tk, heap := h₅ })) X.xe { s1 with heap := h3, toks := tk } := by
    intro code h3 tk ps' hx hsz hP3 hmore ht3
    obtain ⟨bm, ob, e1, e2, e3, e4, e5, e6, e7, e8⟩ := TB.bm
    have hcP : cStatics ≠ P := fun e => by
      obtain ⟨_, hns, _⟩ := I1.nolimit
      obtain ⟨o', es, ep, ho, hd, _⟩ := hns
      rw [e, hPs] at ho
      cases ho
      cases hd
    have hcl : cStatics < s1.heap.objs.size := let ⟨_, hns, _⟩ := I1.nolimit; hns.lt
    have sz2 : (s1.heap.push o).objs.size = s1.heap.objs.size + 1 := Heap.size_push ..
    have keep3 : ∀ b u, b ≠ P → s1.heap.get? b = some u → h3.get? b = some u := fun b u hb e => hx b u hb (Heap.get?_push_of_some _ e)
    refine wpAny_builtinsFor (m := X.mg) (by rw [I1.ok.glob]; exact ((I1.mod.glob.keeps I1.bk).push o).extBut hx TB.gP) e1 e2 (keep3 _ _ e4 (I1.bk _ _ e5)) e6 e7 e8 ?_
    have hylP : yl ≠ P := fun z => by
      rw [z, hPs] at hoa
      cases hoa
      cases hda
    have hst3 : St0 0 h3 := by
      refine (W0 X.A hr.hd).frame _ _ _ hst0 fun b hb u e => ?_
      rcases List.mem_cons.mp hb with z | z
      · exact hx _ u (by rw [z]; exact Nat.ne_of_gt hPlt) e
      · rw [List.mem_singleton.mp z] at e ⊢
        exact hx _ u hylP e
    refine ⟨s1.heap.objs.size, [s1.heap.objs.size, yl], [s1.heap.objs.size], its.toArray.size, (fun i v => its.toArray[i]? = some v), St0, pz, F, rfl, W0, hst3, ?_, lim2.extBut hx hcP, ?_, ?_, ?_⟩
    · intro b hb
      rcases List.mem_cons.mp hb with z | z
      · rw [z]
        show s1.heap.objs.size < h3.objs.size
        omega
      · rw [List.mem_singleton.mp z]
        have e9 : s1.heap.objs.size ≤ h3.objs.size := by omega
        exact Nat.lt_of_lt_of_le hylt e9
    · intro z
      rcases List.mem_cons.mp z with z | z
      · exact Nat.ne_of_lt hcl z
      · cases z
    · intro href hhref
      have he := hel s1 I1
      have kk : ∀ s₂ : Shared, (∀ b ∈ List.range h3.objs.size, b ∉ [s1.heap.objs.size] → ∀ o, href.get? b = some o → s₂.heap.get? b = some o) → ∀ b o, b ≠ P → s1.heap.get? b = some o → s₂.heap.get? b = some o := fun s₂ hk b u hb e => by
        have hlt := Heap.lt_size e
        refine hk b (List.mem_range.mpr (Nat.lt_of_lt_of_le hlt (show s1.heap.objs.size ≤ h3.objs.size by omega))) (fun z => ?_) u (hhref b u (keep3 b u hb e))
        rw [List.mem_singleton.mp z] at hlt
        exact Nat.lt_irrefl _ hlt
      refine ⟨fun A' E' i v s₂ m₂ hA hPv hn hm hk => ?_, fun A' E' i v s₂ m₂ hA hPv hp hn hm hk => ?_⟩
      · obtain ⟨y, hy, ry⟩ := hat i v hPv
        exact he.tests _ A' E' i y v s₂ m₂ rfl rfl hA hy ry (kk s₂ hk) hn hm
      · obtain ⟨y, hy, ry⟩ := hat i v hPv
        exact he.elt _ A' E' i y v s₂ m₂ rfl rfl hA hy ry (kk s₂ hk) hn hm
    · intro g h5 tk5 gs hgb hag hsz5 hk5 W5 hgat
      have hn5 : its.toArray.size = xs.length := by rw [List.size_toArray, hlen]
      rw [hn5] at W5 hgat
      refine hQ g _ ⟨_, _, _, _, W5, hgat, ?_, List.mem_cons_self, fun i s9 h9 => ?_, fun s' hm => ?_⟩
      · intro b hb
        show b < h5.objs.size
        have e5 : h5.objs.size = g + 1 := hsz5
        have h8 : h3.objs.size < g := hag
        rw [e5]
        rcases List.mem_cons.mp hb with z | z
        · rw [z]
          exact Nat.lt_succ_self g
        · rcases List.mem_cons.mp z with z | z
          · rw [z]
            exact Nat.lt_succ_of_lt h8
          · have z2 := List.mem_range.mp z
            have h7 : b < h3.objs.size := z2
            exact Nat.lt_succ_of_lt (Nat.lt_trans h7 h8)
      · obtain ⟨hg9, _⟩ := h9
        exact hg9.typeIs
      · obtain ⟨more, em⟩ := hmore
        have nwr : ∀ b u, s1.heap.get? b = some u → b ∉ h3.objs.size :: [s1.heap.objs.size] := fun b u e hb => by
          have hl := Heap.lt_size e
          rcases List.mem_cons.mp hb with z | z
          · rw [z] at hl
            have h9 : (h3.objs.size : Nat) < s1.heap.objs.size := hl
            omega
          · rcases List.mem_cons.mp z with z | z
            · rw [z] at hl
              exact Nat.lt_irrefl _ hl
            · cases z
        have J := GxR.inv_tab (more := more) (h' := s'.heap) (g' := s'.gens) (d' := s'.drawn) (t' := s'.toks) I1 hP (fun b u hb e => hm.heap b u (nwr b u e) (hk5 b u (keep3 b u hb e)))
          (by rw [← em]; exact hm.heap P _ (nwr P _ hPs) (hk5 P _ hP3)) (AllBare.movedS (I1.bare.push hgb) hm)
        rw [GxR.sh_eta s1 s' hm.os] at J
        refine ⟨upd H1 P (.tbl (ps ++ more)), ⟨⟨ps ++ more, upd_same, by rw [← em]; exact ht3⟩, fun b hb => upd_ne hb⟩, J⟩
  refine ⟨lim2, ?_⟩
  cases hf : codeAmong gpos ps.toList with
  | none =>
    refine wpAny_genexprCodeX hcode (cd.code hP2 ht) (cd.tab hP2) hf fun c' h' tk hx hge hlt hco' _ htab' _ => ?_
    obtain ⟨o1, vs, f1, tf, fl, tg, inF, tx, tt, op, _, _, _, _, _, _, _, _, _, htr, _⟩ := hco'
    exact cont _ h' tk _ hx (Nat.le_trans hge (Nat.le_of_lt hlt)) htab'.2 ⟨_, rfl⟩ htr
  | some cv =>
    refine wpAny_genexprCode_hit hcode (cd.code hP2 ht) hf ?_
    exact cont cv (s1.heap.push o) s1.toks ps (Heap.ExtBut.refl _ _) (Nat.le_refl _) hP2 ⟨#[], by simp⟩ ht
end
end Lk
set_option maxRecDepth 100000
set_option maxHeartbeats 2000000
namespace Lk
open PySem PySem.Spec PyProof.Rows L2
section
variable {X : Cx} {pins : List (Addr × Obj)} {σ : L2.St} {H H1 : Hp} {s s1 s₂ : Shared}
/-- a cell of the def, as the generator's frame finds it -/
theorem cell_of {P : Addr} {j : Nat} {y : Str} {v : V} {ps : Array Value} (I : Inv X pins σ H1 s1) (hP : H1 P = some (.tbl ps)) (hN : X.N[j]? = some y) (hk : X.env.scope.names.lookup y = some .cell) (hσ : σ[j]? = some (some v)) :
    ∃ u c, RelV v u ∧ X.env.cells.lookup y = some c ∧ ∀ s₂ : Shared, (∀ b o, b ≠ P → s1.heap.get? b = some o → s₂.heap.get? b = some o) → s₂.heap.IsCell c (some u) := by
  obtain ⟨m, hn, hl⟩ := I.loc
  obtain ⟨u, r, l⟩ := hl j y v hN hσ (.inr (.inl hk))
  have hPs : s1.heap.get? P = some { cls := .none, data := .fields ps } := I.hok P _ hP
  rcases l with ⟨hk2, _⟩ | ⟨_, c, hc, o, ho, hd⟩
  · have : X.env.scope.names.lookup y = some .local := hk2
    rw [hk] at this
    cases this
  · refine ⟨u, c, r, hc, fun s₂ kp => ⟨o, kp c o (fun z => ?_) ho, hd⟩⟩
    rw [z, hPs] at ho
    cases ho
    cases hd
/-- a list or a tuple of texts, as the generator's frame finds it -/
theorem seq_of {P b : Addr} {ys : List V} {ps : Array Value} (I : Inv X pins σ H1 s1) (hP : H1 P = some (.tbl ps)) (h : SqL X.K H1 b ys ∨ SqT X.K H1 b ys) :
    ∃ its : List Value, Vals ys its ∧ ∀ s₂ : Shared, (∀ b o, b ≠ P → s1.heap.get? b = some o → s₂.heap.get? b = some o) → s₂.heap.IsList b its.toArray ∨ IsTup s₂.heap b its.toArray := by
  have hPs : s1.heap.get? P = some { cls := .none, data := .fields ps } := I.hok P _ hP
  rcases h with h | h
  · obtain ⟨its, rv, hl, hz⟩ := I.list h
    obtain ⟨ob, e, hc, n, hd⟩ := _root_.id hl.isList
    refine ⟨its, rv, fun s₂ kp => .inl ⟨ob, kp b ob (fun z => ?_) e, hc, n, hd⟩⟩
    rw [z, hPs] at e
    cases e
    cases hd
  · obtain ⟨its, rv, hl, hz⟩ := I.tuple h
    obtain ⟨ob, e, hc, n, hd⟩ := _root_.id hl
    refine ⟨its, rv, fun s₂ kp => .inr ⟨ob, kp b ob (fun z => ?_) e, hc, n, hd⟩⟩
    rw [z, hPs] at e
    cases e
    cases hd
theorem in_at {prog : Program} {w : World} {A : Around} {E : Value → Shared → Prop} {Q : Value → Shared → Prop} {b : Addr} {x : V} {v : Value} {ys : List V} {its : List Value} (h : s.heap.IsList b its.toArray ∨ IsTup s.heap b its.toArray) (rv : Vals ys its) (rx : RelV x v) (fx : flatV x = true) (fs : ys.all flatV = true)
    (hQ : Q (.bool (inV x ys)) s) : wpAny (model prog w) A (compareOp .In v (.ref b)) Q E s := by
  rcases h with h | h
  · refine SeqAt.in_listAt (eqU x) h (fun w hw => mem_eqAt rx fx rv fs w (by simpa using hw)) ?_
    rw [show its.toArray.any (eqU x) = its.any (eqU x) by simp, any_eqU rv fs]
    exact hQ
  · refine SeqAt.in_tupleAt (eqU x) h (fun w hw => mem_eqAt rx fx rv fs w (by simpa using hw)) ?_
    rw [show its.toArray.any (eqU x) = its.any (eqU x) by simp, any_eqU rv fs]
    exact hQ
theorem notIn_at {prog : Program} {w : World} {A : Around} {E : Value → Shared → Prop} {Q : Value → Shared → Prop} {b : Addr} {x : V} {v : Value} {ys : List V} {its : List Value} (h : s.heap.IsList b its.toArray ∨ IsTup s.heap b its.toArray) (rv : Vals ys its) (rx : RelV x v) (fx : flatV x = true) (fs : ys.all flatV = true)
    (hQ : Q (.bool (!inV x ys)) s) : wpAny (model prog w) A (compareOp .NotIn v (.ref b)) Q E s := by
  rcases h with h | h
  · refine SeqAt.notIn_listAt (eqU x) h (fun w hw => mem_eqAt rx fx rv fs w (by simpa using hw)) ?_
    rw [show its.toArray.any (eqU x) = its.any (eqU x) by simp, any_eqU rv fs]
    exact hQ
  · refine SeqAt.notIn_tupleAt (eqU x) h (fun w hw => mem_eqAt rx fx rv fs w (by simpa using hw)) ?_
    rw [show its.toArray.any (eqU x) = its.any (eqU x) by simp, any_eqU rv fs]
    exact hQ
theorem gen_name {prog : Program} {w : World} {A : Around} {E : Value → Shared → Prop} {Q : Value → Shared → Prop} {cenv : Env} {x : Str} {px : Pos} {v : Value} {m : Str → Option Value} (hk : cenv.scope.kind = .function) (hl : cenv.scope.names.lookup x = some .local) (hn : s.heap.Ns cenv.locals m) (hm : m x = some v) (hd : (x == ("__debug__" : Str)) = false) (h : Q v s) :
    wpAny (model prog w) A (eval (.Name x px) cenv) Q E s := wpAny_Name (wpAny_loadName_local hk (show cenv.scope.names.lookup x = some .local from hl) hn hm h) hd
theorem gen_free {prog : Program} {w : World} {A : Around} {E : Value → Shared → Prop} {Q : Value → Shared → Prop} {cenv : Env} {y : Str} {py : Pos} {v : Value} {c : Addr} (hk : cenv.scope.kind = .function) (hl : cenv.scope.names.lookup y = some .free) (hc : cenv.cells.lookup y = some c) (hv : s.heap.IsCell c (some v)) (hd : (y == ("__debug__" : Str)) = false) (hcd : (y == ("__classdict__" : Str)) = false) (h : Q v s) :
    wpAny (model prog w) A (eval (.Name y py) cenv) Q E s := wpAny_Name (wpAny_loadName_free hk hl hc hv h hcd) hd

/-- all(x in y for x in it) -/
def tAllIn (K : PySem.W.Frag) (P : Addr) (j : Nat) (te : TE) : TE := fun σ H Q => te σ H fun v H1 => ∃ (a b : Addr) (xs ys : List Str), v = .ref a ∧ (SqL K H1 a (xs.map V.str) ∨ SqT K H1 a (xs.map V.str)) ∧ σ[j]? = some (some (.ref b)) ∧
  (SqL K H1 b (ys.map V.str) ∨ SqT K H1 b (ys.map V.str)) ∧ GxR.TabG H1 P ∧ ∀ H2, GxR.Tabbed P H1 H2 → Q (.bl (xs.all fun n => decide (n ∈ ys))) H2
theorem pe_allIn {c P : Addr} {iter : Expr} {x y : Str} {px p p1 p2 p3 pos gpos : Pos} {scope : Scope} {te : TE} {k j : Nat}
    (hr : Room k X.A) (hg : Gl X "all") (hm : X.mg "all" = none) (hb : bootBuiltins "all" = some (.builtin "all")) (TB : GxR.TabB X.base X.mg c P) (hcode : X.env.code = .ref c) (S : GxR.GenS X.env scope x) (hi : PE X iter te)
    (hN : X.N[j]? = some y) (hk : X.env.scope.names.lookup y = some .cell) (hy : scope.names.lookup y = some .free) (hcl : ∀ cells : List (Str × Addr), (cloFrom cells scope.names []).lookup y = some ((cells.lookup y).getD 0))
    (hs : ∀ v, genFold iter X.env v = pure v) (hdx : (x == ("__debug__" : Str)) = false := by decide) (hdy : (y == ("__debug__" : Str)) = false := by decide) (hcy : (y == ("__classdict__" : Str)) = false := by decide)
    (he : starEach [.GeneratorExp (.Compare (.Name x p1) [.In] [.Name y p2] p3) [⟨.Name x px, iter, [], 0⟩] scope gpos] X.env = (false, eval (.GeneratorExp (.Compare (.Name x p1) [.In] [.Name y p2] p3) [⟨.Name x px, iter, [], 0⟩] scope gpos) X.env) :: starEach [] X.env := by rfl) :
    PE X (.Call (.Name "all" p) [.GeneratorExp (.Compare (.Name x p1) [.In] [.Name y p2] p3) [⟨.Name x px, iter, [], 0⟩] scope gpos] [] pos) (tAllIn X.K P j te) := by
  refine ⟨fun pins s σ H Q I h => ?_⟩
  refine wpAny_Call_Name_kw (ld_blt I hg hm hb ?_)
  refine PyProof.Rows.callWith_builtin1 ?_ he (by rfl)
  rw [he]
  show wpAny _ _ (spliced ((false, eval (.GeneratorExp (.Compare (.Name x p1) [.In] [.Name y p2] p3) [⟨.Name x px, iter, [], 0⟩] scope gpos) X.env) :: backTo pos (starEach [] X.env))) _ _ s
  refine Calls.spliced_cons (gen_seq hr TB hcode S hi hs I h fun v H1 hR => ?_)
  obtain ⟨a, b, xs, ys, rfl, hxs, hσ, hys, ⟨ps, hP, ht⟩, q⟩ := hR
  refine ⟨a, xs.map V.str, fun _ => true, fun i z => ∃ n, xs[i]? = some n ∧ z = .bool (decide (n ∈ ys)), rfl, hxs, ⟨ps, hP, ht⟩, fun s1 I1 => ?_, fun g s5 hG => ?_⟩
  · obtain ⟨u, cc, ru, hcc, hcell⟩ := cell_of I1 hP hN hk hσ
    obtain rfl : u = Value.ref b := ru
    obtain ⟨its, rv, hseq⟩ := seq_of I1 hP hys
    refine ⟨fun cenv A' E' i y v s₂ m₂ hsc hce hA hy' ry kp hn hm' => ?_, fun cenv A' E' i y' v s₂ m₂ hsc hce hA hy' ry kp hn hm' => ?_⟩
    · simp only [List.forIn_nil]
      exact wpAny_pure ⟨rfl, GxR.keeps_refl _⟩
    · obtain ⟨n, rfl, en⟩ : ∃ n, y' = .str n ∧ xs[i]? = some n := by
        rw [List.getElem?_map] at hy'
        cases e : xs[i]? with
        | none => rw [e] at hy'; cases hy'
        | some z => rw [e] at hy'; exact ⟨z, (Option.some.inj hy').symm, rfl⟩
      refine wpAny_Compare1 (gen_name (by rw [hsc]; exact S.kind) (by rw [hsc]; exact S.loc) hn hm' hdx ?_)
      refine gen_free (c := cc) (by rw [hsc]; exact S.kind) (by rw [hsc]; exact hy) (by rw [hce, hcl, hcc]; rfl) (hcell s₂ kp) hdy hcy ?_
      refine in_at (hseq s₂ kp) rv ry rfl (flat_strs ys) ?_
      rw [inV_str]
      exact ⟨⟨n, en, rfl⟩, GxR.keeps_refl _⟩
  · obtain ⟨fp, wr, G, St, W, hst, hfp, hg', hT, hI⟩ := hG
    have hp : passing (fun _ => true) (xs.map V.str).length 0 = List.range xs.length := by rw [GxR.passing_true, List.length_map]
    rw [hp] at W
    refine Calls.spliced_nil ?_
    refine call_all_walkS (W.in4_1.self 0 _ _ _ hst ⟨g, fp, wr, G, _, _, St, fun i => decide (∃ n, xs[i]? = some n ∧ n ∈ ys), rfl, W.in4_1, hst, ?_, fun s' hmv => ?_⟩)
    · intro j z sj Qj Ej hz hQj
      obtain ⟨i, hij, n, en, rfl⟩ := hz
      obtain ⟨hj, ej⟩ := List.getElem?_eq_some_iff.mp hij
      rw [List.getElem_range] at ej
      subst ej
      have e9 : decide (∃ n, xs[j]? = some n ∧ n ∈ ys) = decide (n ∈ ys) := by
        rw [en]
        simp
      have hQ2 : Qj (decide (∃ n, xs[j]? = some n ∧ n ∈ ys)) sj := hQj
      rw [e9] at hQ2
      exact wpAny_truthy_bool hQ2
    · obtain ⟨H2, hT2, J⟩ := hI s' hmv
      refine ⟨.bl _, H2, J, ?_, q H2 hT2⟩
      show Value.bool _ = Value.bool _
      refine congrArg Value.bool ?_
      rw [List.length_range, Bool.eq_iff_iff, List.all_eq_true, List.all_eq_true]
      constructor
      · intro h x hx
        obtain ⟨i, hi, e⟩ := List.getElem_of_mem hx
        have z := h i (List.mem_range.mpr hi)
        rw [List.getElem?_eq_getElem hi, e] at z
        simpa using z
      · intro h i hi
        have hi' := List.mem_range.mp hi
        rw [List.getElem?_eq_getElem hi']
        have z := h xs[i] (List.getElem_mem hi')
        simpa using z
end
end Lk
set_option maxRecDepth 100000
set_option maxHeartbeats 2000000
namespace Lk
open PySem PySem.Spec PyProof.Rows L2
theorem vals_by : ∀ {xs : List V} {us : List Value}, xs.length = us.length → (∀ (j : Nat) (x : V) (u : Value), xs[j]? = some x → us[j]? = some u → RelV x u) → Vals xs us
  | [], [], _, _ => .nil
  | [], _ :: _, h, _ => by simp at h
  | _ :: _, [], h, _ => by simp at h
  | x :: xs, u :: us, h, f => .cons (f 0 x u rfl rfl) (vals_by (by simpa using h) fun j y v h1 h2 => f (j + 1) y v (by simpa using h1) (by simpa using h2))
section
variable {X : Cx} {pins : List (Addr × Obj)} {σ : L2.St} {H H1 : Hp} {s s1 s₂ : Shared}
theorem tup_of {P b : Addr} {ys : List V} {ps : Array Value} (I : Inv X pins σ H1 s1) (hP : H1 P = some (.tbl ps)) (h : SqT X.K H1 b ys) :
    ∃ its : List Value, Vals ys its ∧ ∀ s₂ : Shared, (∀ b o, b ≠ P → s1.heap.get? b = some o → s₂.heap.get? b = some o) → IsTup s₂.heap b its.toArray := by
  have hPs : s1.heap.get? P = some { cls := .none, data := .fields ps } := I.hok P _ hP
  obtain ⟨its, rv, hl, hz⟩ := I.tuple h
  obtain ⟨ob, e, hc, n, hd⟩ := _root_.id hl
  refine ⟨its, rv, fun s₂ kp => ⟨ob, kp b ob (fun z => ?_) e, hc, n, hd⟩⟩
  rw [z, hPs] at e
  cases e
  cases hd
/-- tuple(x for x in it if x not in y[z]) -/
def tTupNot (K : PySem.W.Frag) (P : Addr) (j l : Nat) (te : TE) : TE := fun σ H Q => te σ H fun v H1 => ∃ (a b d : Addr) (i : Nat) (zs : List V) (xs ys : List Str), v = .ref a ∧ SqT K H1 a (xs.map V.str) ∧ xs.length ≤ sizeLine ∧ σ[j]? = some (some (.ref b)) ∧ σ[l]? = some (some (.int (i : Int))) ∧
  SqT K H1 b zs ∧ zs.length ≤ 1000 ∧ zs[i]? = some (.ref d) ∧ SqT K H1 d (ys.map V.str) ∧ GxR.TabG H1 P ∧ ∀ H2 t, GxR.Tabbed P H1 H2 → H2 t = none → Q (.ref t) (upd H2 t (.tup ((xs.filter fun n => !decide (n ∈ ys)).map V.str)))
theorem pe_tupNot {c P : Addr} {iter : Expr} {x y z : Str} {px p p1 p2 p3 p4 p5 p6 pos gpos : Pos} {scope : Scope} {te : TE} {k j l : Nat}
    (hr : Room k X.A) (hg : Gl X "tuple") (hm : X.mg "tuple" = none) (hb : bootBuiltins "tuple" = some (.type "tuple")) (TB : GxR.TabB X.base X.mg c P) (hcode : X.env.code = .ref c) (S : GxR.GenS X.env scope x) (hi : PE X iter te)
    (hN : X.N[j]? = some y) (hk : X.env.scope.names.lookup y = some .cell) (hy : scope.names.lookup y = some .free) (hcl : ∀ cells : List (Str × Addr), (cloFrom cells scope.names []).lookup y = some ((cells.lookup y).getD 0))
    (hN2 : X.N[l]? = some z) (hk2 : X.env.scope.names.lookup z = some .cell) (hy2 : scope.names.lookup z = some .free) (hcl2 : ∀ cells : List (Str × Addr), (cloFrom cells scope.names []).lookup z = some ((cells.lookup z).getD 0))
    (hs : ∀ v, genFold iter X.env v = pure v) (hdx : (x == ("__debug__" : Str)) = false := by decide) (hdy : (y == ("__debug__" : Str)) = false := by decide) (hcy : (y == ("__classdict__" : Str)) = false := by decide) (hdz : (z == ("__debug__" : Str)) = false := by decide) (hcz : (z == ("__classdict__" : Str)) = false := by decide)
    (he : starEach [.GeneratorExp (.Name x p6) [⟨.Name x px, iter, [.Compare (.Name x p1) [.NotIn] [.Subscript (.Name y p2) (.Name z p3) p4] p5], 0⟩] scope gpos] X.env = (false, eval (.GeneratorExp (.Name x p6) [⟨.Name x px, iter, [.Compare (.Name x p1) [.NotIn] [.Subscript (.Name y p2) (.Name z p3) p4] p5], 0⟩] scope gpos) X.env) :: starEach [] X.env := by rfl) :
    PE X (.Call (.Name "tuple" p) [.GeneratorExp (.Name x p6) [⟨.Name x px, iter, [.Compare (.Name x p1) [.NotIn] [.Subscript (.Name y p2) (.Name z p3) p4] p5], 0⟩] scope gpos] [] pos) (tTupNot X.K P j l te) := by
  refine ⟨fun pins s σ H Q I h => ?_⟩
  refine wpAny_Call_Name_kw (ld_blt I hg hm hb ?_)
  refine PyProof.Rows.callWith_type1 ?_ he (by rfl)
  rw [he]
  show wpAny _ _ (spliced ((false, eval (.GeneratorExp (.Name x p6) [⟨.Name x px, iter, [.Compare (.Name x p1) [.NotIn] [.Subscript (.Name y p2) (.Name z p3) p4] p5], 0⟩] scope gpos) X.env) :: backTo pos (starEach [] X.env))) _ _ s
  refine Calls.spliced_cons (gen_seq hr TB hcode S hi hs I h fun v H1 hR => ?_)
  obtain ⟨a, b, d, i0, zs, xs, ys, rfl, hxs, hxl, hσ, hσ2, hb', hzl, hzi, hd', ⟨ps, hP, ht⟩, q⟩ := hR
  refine ⟨a, xs.map V.str, fun i => !decide (xs.getD i "" ∈ ys), fun i u => ∃ n t, xs[i]? = some n ∧ u = .str n t, rfl, .inr hxs, ⟨ps, hP, ht⟩, fun s1 I1 => ?_, fun g s5 hG => ?_⟩
  · obtain ⟨u, cc, ru, hcc, hcell⟩ := cell_of I1 hP hN hk hσ
    obtain rfl : u = Value.ref b := ru
    obtain ⟨u2, cc2, ru2, hcc2, hcell2⟩ := cell_of I1 hP hN2 hk2 hσ2
    obtain ⟨tk, rfl⟩ : ∃ t, u2 = Value.int i0 t := ru2
    obtain ⟨its, rv, hseq⟩ := seq_of I1 hP (.inr hd')
    obtain ⟨itb, rvb, hseqb⟩ := tup_of I1 hP hb'
    have lay : ∀ (i : Nat) (y' : V) (v : Value), (xs.map V.str)[i]? = some y' → RelV y' v → ∃ n t, xs[i]? = some n ∧ v = .str n t := fun i y' v hy' ry => by
      rw [List.getElem?_map] at hy'
      cases e : xs[i]? with
      | none => rw [e] at hy'; cases hy'
      | some n =>
        rw [e] at hy'
        obtain rfl := Option.some.inj hy'
        obtain ⟨t, rfl⟩ := ry
        exact ⟨n, t, rfl, rfl⟩
    refine ⟨fun cenv A' E' i y' v s₂ m₂ hsc hce hA hy' ry kp hn hm' => ?_, fun cenv A' E' i y' v s₂ m₂ hsc hce hA hy' ry kp hn hm' => ?_⟩
    · obtain ⟨n, t, en, rfl⟩ := lay i y' v hy' ry
      refine wpAny_tests_one (wpAny_isTrue_Compare1 (gen_name (by rw [hsc]; exact S.kind) (by rw [hsc]; exact S.loc) hn hm' hdx ?_))
      refine Subscript_ (gen_free (c := cc) (by rw [hsc]; exact S.kind) (by rw [hsc]; exact hy) (by rw [hce, hcl, hcc]; rfl) (hcell s₂ kp) hdy hcy ?_)
      refine gen_free (c := cc2) (by rw [hsc]; exact S.kind) (by rw [hsc]; exact hy2) (by rw [hce, hcl2, hcc2]; rfl) (hcell2 s₂ kp) hdz hcz ?_
      obtain ⟨w, ew, rw'⟩ := rvb.get hzi
      obtain rfl : w = Value.ref d := rw'
      have hlen : zs.length = itb.length := rvb.length
      have hi0 : i0 < zs.length := (List.getElem?_eq_some_iff.mp hzi).1
      have hT : IsTup s₂.heap b itb.toArray := hseqb s₂ kp
      refine subscriptTail_builtinR (x := .ref d) hT.typeIs slot_tuple_getitem.lookup (getItem_tuple (j := i0) (Q := fun r s' => r = .ref d ∧ _) hT (by omega) (by omega) (by rw [List.size_toArray, ← hlen]; exact seqIndex_of (by omega) (by omega)) (by simpa using ew) ⟨rfl, ?_⟩) (by rfl)
      refine notIn_at (hseq s₂ kp) rv (x := .str n) ⟨t, rfl⟩ rfl (flat_strs ys) ?_
      rw [inV_str]
      refine wpAny_truthy_bool ⟨?_, GxR.keeps_refl _⟩
      rw [List.getD_eq_getElem?_getD, en]
      rfl
    · obtain ⟨n, t, en, rfl⟩ := lay i y' v hy' ry
      exact gen_name (by rw [hsc]; exact S.kind) (by rw [hsc]; exact S.loc) hn hm' hdx ⟨⟨n, t, en, rfl⟩, GxR.keeps_refl _⟩
  · obtain ⟨fp, wr, G, St, W, hst, hfp, hg', hT, hI⟩ := hG
    refine Calls.spliced_nil ?_
    have hpl : (passing (fun i => !decide (xs.getD i "" ∈ ys)) (xs.map V.str).length 0) = passOnS xs fun n => !decide (n ∈ ys) := by rw [List.length_map]
    rw [hpl] at W
    have hmap := passOnS_map xs fun n => !decide (n ∈ ys)
    have hln : (passOnS xs fun n => !decide (n ∈ ys)).length = (xs.filter fun n => !decide (n ∈ ys)).length := by rw [← hmap, List.length_map]
    have hsz : (passOnS xs fun n => !decide (n ∈ ys)).length ≤ sizeLine := by
      rw [hln]
      exact Nat.le_trans (List.length_filter_le _ _) hxl
    refine call_tuple_gen (WalksS.of_in1 (A := X.A.in1.in1.in1) W) hT hst hfp hg' (fun s' acc hmv hio => ?_) hsz
    obtain ⟨H2, hT2, J⟩ := hI s' hmv
    have hno := J.hok.fresh (Nat.le_refl s'.heap.objs.size)
    refine ⟨.ref s'.heap.objs.size, upd H2 s'.heap.objs.size (.tup ((xs.filter fun n => !decide (n ∈ ys)).map V.str)), J.laid (t' := s'.toks) (fun b o e => Heap.get?_push_of_some _ e) (Nat.le_refl _) ?_, rfl, q H2 _ hT2 hno⟩
    refine ⟨by rw [List.length_map, ← hln]; exact hsz, acc.toList, vals_by ?_ fun j x' u h1 h2 => ?_, ?_⟩
    · have z := hio.1
      rw [List.length_map, ← hln]
      show _ = acc.toList.length
      rw [Array.length_toList]
      exact z.symm
    · have h2' : acc[j]? = some u := by rw [← Array.getElem?_toList]; exact h2
      obtain ⟨i, hi', n, t, en, rfl⟩ := hio.2 j u h2'
      rw [← hmap, List.map_map, List.getElem?_map, hi'] at h1
      have e1 := Option.some.inj h1
      rw [← e1]
      show RelV (.str (xs.getD i "")) (.str n t)
      rw [List.getD_eq_getElem?_getD, en]
      exact ⟨t, rfl⟩
    · have e : acc.toList.toArray = acc := by simp
      rw [e]
      exact IsTup.new _ _
end
end Lk
set_option maxRecDepth 100000
set_option maxHeartbeats 2000000
namespace Lk
open PySem PySem.Spec PyProof.Rows L2 PySem.Froz
/-! ### a payload behind an add -/
theorem tailTx_all (ep : Nat) (es : Array (Int × Value)) (t : SetTable) (wd : Bool) : (tailTx ep es t wd).1.toList.Perm es.toList ∧ (Ris t.place.toList → Ris (tailTx ep es t wd).2.2.place.toList) ∧ (tailTx ep es t wd).2.2.led = t.led := by
  unfold tailTx
  by_cases c : (!wd && t.tooFull) = true
  · rw [if_pos c]
    exact ⟨relayAll_perm _ _ _, fun _ => relayAll_ris _ _ _, relayAll_led _ _ _⟩
  · rw [if_neg c]
    exact ⟨List.Perm.refl _, id, rfl⟩
theorem plainOff (t : SetTable) : (if t.plain = true then { t with plain := false } else t).place = t.place ∧ (if t.plain = true then { t with plain := false } else t).led = t.led := by
  split
  · exact ⟨rfl, rfl⟩
  · exact ⟨rfl, rfl⟩
theorem addTx_perm (h : Int) (v : Value) (D : SD) : (addTx h v D).1.toList.Perm (D.1.push (h, v)).toList := (tailTx_all _ _ _ _).1.trans (layNew_perm _ _ _ _)
theorem addTx_ris (h : Int) (v : Value) (D : SD) (r : Ris D.2.2.place.toList) : Ris (addTx h v D).2.2.place.toList := by
  refine (tailTx_all _ _ _ _).2.1 ?_
  rw [(plainOff _).1]
  exact layNew_ris _ _ _ _ r
theorem addTx_led (h : Int) (v : Value) (D : SD) : (addTx h v D).2.2.led = D.2.2.led := (tailTx_all _ _ _ _).2.2.trans ((plainOff _).2.trans (layNew_led _ _ _ _))
/-- the text of a member -/
def txtOf : Value → Str
  | .str x _ => x
  | _ => ""
/-- the payload holds the texts l, each once, and can be walked -/
structure TxW (P : Program) (w : World) (D : SD) (l : List Str) : Prop where
  ok : TxOk P w D l
  str : ∀ e ∈ D.1.toList, ∃ x t, e.2 = Value.str x t
  pm : (D.1.toList.map fun e => txtOf e.2).Perm l
  nd : l.Nodup
  ris : Ris D.2.2.place.toList
  led : w.params.followText "set-order" = true ∨ D.2.2.led = true
section
variable {P : Program} {w : World} {A : Around} {E : Value → Shared → Prop} {s : Shared}
theorem TxW.add {D : SD} {l : List Str} {k : Str} (u : Tok) (F : TxW P w D l) (hk : k ∉ l) : TxW P w (addTx (hashStr w k) (.str k u) D) (k :: l) := by
  have pm := addTx_perm (hashStr w k) (.str k u) D
  rw [Array.toList_push] at pm
  refine ⟨add_ok u F.ok, fun e he => ?_, ?_, List.nodup_cons.mpr ⟨hk, F.nd⟩, addTx_ris _ _ _ F.ris, ?_⟩
  · rcases List.mem_append.mp (pm.mem_iff.mp he) with q | q
    · exact F.str e q
    · rw [List.mem_singleton.mp q]
      exact ⟨k, u, rfl⟩
  · have q := pm.map fun e => txtOf e.2
    rw [List.map_append] at q
    refine q.trans (List.perm_append_comm.trans ?_)
    exact F.pm.cons k
  · rw [addTx_led]
    exact F.led
theorem TxW.fresh : TxW P w (#[], 0, .fresh 0 0 (!w.params.followText "set-order")) [] := by
  refine ⟨TxOk.nil (by rfl), fun e he => by simp at he, List.Perm.refl _, List.nodup_nil, List.Pairwise.nil, ?_⟩
  show _ ∨ (!w.params.followText "set-order") = true
  cases w.params.followText "set-order"
  · exact .inr rfl
  · exact .inl rfl
/-- the set of texts at a -/
def SetX (P : Program) (w : World) (h : Heap) (a : Addr) (l : List Str) : Prop := ∃ D, h.get? a = some (sObj "set" D) ∧ TxW P w D l
theorem SetX.typeIs {a : Addr} {l : List Str} (R : SetX P w s.heap a l) : s.TypeIs (.ref a) "set" := by
  obtain ⟨D, ho, _⟩ := R
  exact ⟨_, ho, rfl⟩
theorem SetX.at {h h' : Heap} {a : Addr} {l : List Str} (R : SetX P w h a l) (k : ∀ o, h.get? a = some o → h'.get? a = some o) : SetX P w h' a l := by
  obtain ⟨D, ho, r⟩ := R
  exact ⟨D, k _ ho, r⟩
/-- an add of a text that is there -/
theorem add_h {a : Addr} {D : SD} {l : List Str} {k : Str} {u : Tok} {Q : Bool → Shared → Prop} (ho : s.heap.get? a = some (sObj "set" D)) (F : TxOk P w D l) (hk : k ∈ l) (hb : l.length < scanBound)
    (h : Q false s) : wpAny (model P w) A (setAddHashed a (.str k u) (hashStr w k)) Q E s := by
  obtain ⟨es, ep, t⟩ := D
  have hd : (sObj "set" (es, ep, t)).data = .set es ep t := rfl
  have hf : t.fits es.size = true := F.fit
  have hel : ElemsOf (strKind P w) es.toList := F.el
  have hsz : es.size = l.length := F.sz
  have hb0 : es.size < scanBound := by omega
  have hkey : (strKind P w).is k (.str k u) = true := is_str k u
  obtain ⟨e, he, q⟩ := (F.mem k).mp hk
  unfold setAddHashed setAddHashedIn
  refine wpAny_holding (wpAny_bind (wpAny_setState_of ho hd hf ?_))
  dsimp only
  rw [byScan_of rfl hb0 hel]
  simp only [↓reduceIte]
  unfold setAddByScan
  refine wpAny_bind ?_
  refine wpAny_bind (wpAny_rule ?_)
  refine wpAny_bind (wpAny_setScan_of (knd := strKind P w) (k := k) hkey ho hd hf hel ?_)
  cases hfi : List.findIdx? (fun e => (strKind P w).is k e.2) es.toList with
  | none =>
    have c := List.findIdx?_eq_none_iff.mp hfi e he
    rw [q] at c
    cases c
  | some j =>
    dsimp only
    exact wpAny_pure (wpAny_pure h)
/-- found.add(text) -/
theorem setX_add {a : Addr} {l : List Str} {k : Str} {u : Tok} {Q : Value → Shared → Prop} (R : SetX P w s.heap a l) (hb : l.length + 1 < scanBound)
    (hQ : ∀ h' c, Heap.SameBut a s.heap h' → SetX P w h' a (if k ∈ l then l else k :: l) → Q .none { s with heap := h', toks := c }) :
    wpAny (model P w) A (call (.builtin "set.add") [.ref a, .str k u]) Q E s := by
  have hT := R.typeIs
  obtain ⟨D, ho, TW⟩ := R
  refine wpAny_call_entry F.slot_set_add hT F.entry_set_add ?_ (F.args_set_add_2 _ _)
  unfold Builtin.«set.add» Builtin.Frozenset.oneOther
  simp only [List.isEmpty_nil, bind_assoc]
  unfold Builtin.Frozenset.addrOf setAdd
  refine wpAny_bind (wpAny_pure ?_)
  try dsimp only
  refine wpAny_bind (wpAny_pure ?_)
  try dsimp only
  refine wpAny_bind ?_
  refine wpAny_holding ?_
  refine wpAny_bind ((strKind P w).pyHash (is_str k u) ?_)
  by_cases hk : k ∈ l
  · rw [if_pos hk] at hQ
    refine add_h (s := { s with toks := s.toks + 1 }) ho TW.ok hk (by omega) ?_
    show wpAny _ _ (ret Value.none) _ _ _
    exact wpAny_pure ⟨_, rfl, hQ s.heap _ (Heap.SameBut.refl a s.heap) ⟨D, ho, TW⟩⟩
  · rw [if_neg hk] at hQ
    refine add_x (s := { s with toks := s.toks + 1 }) ho TW.ok hk hb ?_
    show wpAny _ _ (ret Value.none) _ _ _
    exact wpAny_pure ⟨_, rfl, hQ _ _ (Heap.SameBut.update s.heap a _) ⟨_, get_upd _ ho rfl, TW.add u hk⟩⟩

/-- sorted(set of texts) -/
theorem strs_txt : ∀ (l : List Value), (∀ v ∈ l, ∃ x t, v = Value.str x t) → StrsAre l (l.map txtOf)
  | [], _ => .nil
  | v :: l, h => by
    obtain ⟨k, tk, rfl⟩ := h v List.mem_cons_self
    exact .cons k tk (strs_txt l fun u hu => h u (List.mem_cons_of_mem _ hu))
theorem sorted_setX {a : Addr} {l : List Str} {Q : Value → Shared → Prop} (R : SetX P w s.heap a l) (hh : A.handled = none) (h64 : l.length < 64)
    (hQ : ∀ s' p (out : Array Value) (c : Nat) (ns : List Str), (∀ b o, s.heap.get? b = some o → s'.heap.get? b = some o) → s'.gens = s.gens → s'.os = s.os → s.heap.objs.size ≤ p →
      s'.heap.get? p = some (seqObj "list" out c) → StrsAre out.toList ns → sortedS ns = true → ns.Perm l → Q (.ref p) s') :
    wpAny (model P w) A (call (.builtin "sorted") [.ref a]) Q E s := by
  obtain ⟨⟨es, ep, t⟩, ho, TW⟩ := R
  have hsz : es.size = l.length := TW.ok.sz
  have hb : es.size < scanBound := by rw [hsz]; exact Nat.lt_of_lt_of_le h64 (by decide)
  refine Calls.call_function_entry kind_sorted plain_sorted entry_sorted (args_sorted1 _) ?_
  unfold Builtin.«sorted»
  refine wpAny_bind (m := checkCount "sorted" 1 1 _) (wpAny_pure ?_)
  refine wpAny_bind (collect_set (A := A.in1) hh ⟨_, ho, rfl, rfl⟩ TW.ok.fit hb TW.ris TW.led fun s1 vs k1 hz g1 o1 pm => ?_)
  have hvl : vs.length = l.length := by rw [pm.length_eq, List.length_map, Array.length_toList]; exact hsz
  have hS : StrsAre vs (vs.map txtOf) := strs_txt vs fun v hv => by
    obtain ⟨e, he, q⟩ := List.mem_map.mp (pm.mem_iff.mp hv)
    obtain ⟨x, t, h1⟩ := TW.str e he
    exact ⟨x, t, by rw [← q]; exact h1⟩
  have pk : (vs.map txtOf).Perm l := by
    have q := pm.map txtOf
    rw [List.map_map] at q
    exact q.trans TW.pm
  refine wpAny_bind (wpAny_newList ?_ (by rw [hvl, sizeLine_eq]; omega))
  have hoL : (s1.heap.push (seqObj "list" vs.toArray 0)).get? s1.heap.objs.size = some (seqObj "list" vs.toArray 0) := Heap.get?_push_size _ rfl
  refine wpAny_bind (wpAny_holding (wpAny_call_entry slot_list_sort ⟨_, hoL, rfl⟩ entry_list_sort (list_sort_treeK strKind_oneLt hoL hS.keysOf (fun v₁ v₂ rest e => keyKind_strs (by rw [← e]; exact hS)) (by rw [hvl]; exact h64) fun st' hp hs => ⟨_, rfl, ?_⟩) (args_list_sort _)))
  obtain ⟨ys, q1, q2, q3⟩ := sorted_out_str hS hp hs
  obtain ⟨c, hc⟩ := sortedHeap_at (vs := vs) (out := (arrOf st').map (·.2)) hoL
  refine wpAny_pure ⟨_, rfl, hQ _ s1.heap.objs.size _ c ys (fun b u e => ?_) g1 o1 hz hc q1 q3 (q2.trans pk)⟩
  have q := k1 b u e
  have hlt := Heap.lt_size q
  show (sortedHeap (s1.heap.push (seqObj "list" vs.toArray 0)) s1.heap.objs.size vs _).get? b = some u
  rw [sortedHeap_old (Nat.ne_of_lt hlt) (by rw [size_push']; exact Nat.lt_succ_of_lt hlt)]
  exact Heap.get?_push_of_some _ q
end
/-! ### tracked -/
def SetXO (P : Program) (w : World) (a : Addr) (l : List Str) : HO := .ext fun h => SetX P w h a l
theorem setXO_new {P : Program} {w : World} {H : Hp} {h : Heap} {a : Addr} {l : List Str} (R : SetX P w h a l) : ObjOk P w H h a (SetXO P w a l) := by
  have ⟨D, ho, _⟩ := R
  exact ⟨R, ⟨_, ho⟩, fun h1 h2 p k => SetX.at p k⟩
section
variable {X : Cx}
theorem setXO_get {pins : List (Addr × Obj)} {σ : L2.St} {H : Hp} {s : Shared} {a : Addr} {l : List Str} (I : Inv X pins σ H s) (ha : H a = some (SetXO X.prog X.w a l)) : SetX X.prog X.w s.heap a l := (I.hok a _ ha).1
theorem addX_ok {pins : List (Addr × Obj)} {σ : L2.St} {H : Hp} {s : Shared} {E : Value → Shared → Prop} {D : Addr} {l : List Str} {k : Str} {u : Tok} {Q : Value → Shared → Prop} (I : Inv X pins σ H s) (hD : H D = some (SetXO X.prog X.w D l)) (hb : l.length + 1 < scanBound)
    (h : ∀ s', Inv X pins σ (upd H D (SetXO X.prog X.w D (if k ∈ l then l else k :: l))) s' → Q .none s') : wpAny (model X.prog X.w) X.A (call (.builtin "set.add") [.ref D, .str k u]) Q E s := by
  refine setX_add (setXO_get I hD) hb fun h' c sb new => ?_
  have he : ∃ u, h'.get? D = some u := by
    obtain ⟨o, ho, _⟩ := new
    exact ⟨_, ho⟩
  exact h _ (I.write (e := D) (t' := c) (by rw [hD]; trivial) (.inl rfl) (fun b u hb hu => (sb.2 b hb).trans hu) he (setXO_new new))
/-- sorted(set of texts) -/
def rSortedX (P : Program) (w : World) : List V → Hp → VK → Prop := fun vs H Q => ∃ (a : Addr) (l : List Str), vs = [V.ref a] ∧ H a = some (SetXO P w a l) ∧ l.length < 64 ∧
  ∀ (ns : List Str) (p : Addr), sortedS ns = true → ns.Perm l → H p = none → Q (.ref p) (upd H p (.lst (ns.map V.str)))
theorem cr_sortedX (hc : X.calm = true) : CallR X (.builtin "sorted") (rSortedX X.prog X.w) := by
  intro pins s σ H vs us Q I r h
  obtain ⟨a, l, rfl, ha, h64, q⟩ := h
  rw [Vals.ref1 r]
  refine sorted_setX (setXO_get I ha) (I.ok.hd hc) h64 fun s' p out c ns k g o hp hg hi hs hm => ?_
  have hlen : (ns.map V.str).length ≤ sizeLine := by rw [List.length_map, hm.length_eq, sizeLine_eq]; omega
  have hn : H p = none := I.hok.fresh hp
  have J : Inv X pins σ (upd H p (.lst (ns.map V.str))) { s with heap := s'.heap, gens := s'.gens, drawn := s'.drawn, toks := s'.toks } :=
    I.call (ch := []) (Un.laid k hp hn) (I.hok.laid k hp ⟨hlen, out.toList, c, vals_of_strs hi, hg⟩) (by rw [g]; exact I.bare) (fun _ z => nomatch z)
  have e : s' = { s with heap := s'.heap, gens := s'.gens, drawn := s'.drawn, toks := s'.toks } := by
    cases s'
    cases s
    cases o
    rfl
  rw [e]
  exact ⟨.ref p, _, J, rfl, q ns p hs hm hn⟩
end
end Lk
set_option maxRecDepth 100000
set_option maxHeartbeats 2000000
namespace Lk
open PySem PySem.Spec PyProof.Rows L2
/-- {elt for t0 in i0 for t1 in i1} -/
abbrev sc2 (elt t0 i0 t1 i1 : Expr) (scope : Scope) (pos : Pos) : Expr := .SetComp elt [⟨t0, i0, [], 0⟩, ⟨t1, i1, [], 0⟩] scope pos
section
variable {prog : Program} {w : World} {A : Around} {R : Result → Shared → Prop} {s : Shared} {elt t0 i0 t1 i1 : Expr} {scope : Scope} {pos : Pos} {it acc : Value} {env : Env}
theorem turnX_out : compTurn (sc2 elt t0 i0 t1 i1 scope pos) 0 it acc env = (do
      standAt i0.pos
      match ← pyNext it with
      | none => pure (.done .next)
      | some v =>
        letOwnedTupleGo t0 it v
        assign t0 env v
        let mut ok := true
        for c in ([] : List Expr) do
          if ok then ok ← isTrue c env (eval c env)
        if ok then
          let x ← eval i1 env
          standAt i1.pos
          let x ← foldedSetIterable i1 env x
          let _ ← runOwn (.compStart (sc2 elt t0 i0 t1 i1 scope pos) 1 (← holding [x] (pyIter x)) acc env) env
        again (.compLoop (sc2 elt t0 i0 t1 i1 scope pos) 0 it acc env)) := by rfl
theorem turnX_in : compTurn (sc2 elt t0 i0 t1 i1 scope pos) 1 it acc env = (do
      standAt i1.pos
      match ← pyNext it with
      | none => pure (.done .next)
      | some v =>
        letOwnedTupleGo t1 it v
        assign t1 env v
        let mut ok := true
        for c in ([] : List Expr) do
          if ok then ok ← isTrue c env (eval c env)
        if ok then
          (do let v ← eval elt env; standAt elt.pos; let _ ← call (.builtin "set.add") [acc, v])
        again (.compLoop (sc2 elt t0 i0 t1 i1 scope pos) 1 it acc env)) := by rfl
/-- the outer loop: inner, reached with an iterator of i1's value, runs the inner one to its end -/
theorem loopX_out (hs : ∀ x, foldedSetIterable i1 env x = pure x) (I : Nat → Shared → Prop)
    (turn : ∀ n s, I n s → wpAny (model prog w) A (pyNext it) (fun r s₁ => match r with
      | none => R (.ok .next) s₁
      | some v => wpAny (model prog w) A (letOwnedTupleGo t0 it v) (fun _ s₂ => wpAny (model prog w) A (assign t0 env v) (fun _ s₃ => wpAny (model prog w) A (eval i1 env) (fun x s₄ => wpAny (model prog w) A (pyIter x) (fun it1 s₅ =>
              codeAny (model prog w) A (.compStart (sc2 elt t0 i0 t1 i1 scope pos) 1 it1 acc env) (fun r s' => match r with
                | .ok _ => ∃ m, m < n ∧ I m s'
                | .error _ => False) s₅) (notedBy (model prog w) A env fun e s' => R (.error e) s') s₄) (notedBy (model prog w) A env fun e s' => R (.error e) s') s₃)
            (notedBy (model prog w) A env fun e s' => R (.error e) s') s₂) (notedBy (model prog w) A env fun e s' => R (.error e) s') s₁) (notedBy (model prog w) A env fun e s' => R (.error e) s') s)
    (n : Nat) (h : I n s) : codeAny (model prog w) A (.compLoop (sc2 elt t0 i0 t1 i1 scope pos) 0 it acc env) R s := by
  refine codeAny_loop rfl I (fun n s hI => ?_) n h
  show wpAny _ A ((compTurn (sc2 elt t0 i0 t1 i1 scope pos) 0 it acc env).onRaise (fun x => do noteFrame x env; theTreesLotGoes x)) _ _ s
  refine wpAny_noted ?_
  rw [turnX_out]
  refine wpAny_bind (wpAny_standAt (wpAny_bind (wpAny_mono (turn n s hI) (fun r s₁ h₁ => ?_) fun _ _ h' => h')))
  cases r with
  | none => exact wpAny_pure h₁
  | some v =>
    refine wpAny_bind (wpAny_mono h₁ (fun _ s₂ h₂ => ?_) fun _ _ h' => h')
    refine wpAny_bind (wpAny_mono h₂ (fun _ s₃ h₃ => wpAny_bind (wpAny_tests_nil ?_)) fun _ _ h' => h')
    refine wpAny_bind (wpAny_mono h₃ (fun x s₄ h₄ => ?_) fun _ _ h' => h')
    refine wpAny_bind (wpAny_standAt (wpAny_bind (wpAny_of_eq (hs x) (wpAny_bind (wpAny_holding (wpAny_mono h₄ (fun it1 s₅ h₅ => ?_) fun _ _ h' => h'))))))
    refine wpAny_bind (wpAny_runOwn ?_)
    rw [Around.mark_none]
    refine codeAny_mono h₅ fun r s' hr => ?_
    cases r with
    | ok f =>
      first
        | exact wpAny_pure ⟨rfl, hr⟩
        | exact wpAny_bind (wpAny_pure (wpAny_pure ⟨rfl, hr⟩))
    | error e => exact hr.elim
/-- the inner loop -/
theorem loopX_in (I : Nat → Shared → Prop)
    (turn : ∀ n s, I n s → wpAny (model prog w) A (pyNext it) (fun r s₁ => match r with
      | none => R (.ok .next) s₁
      | some v => wpAny (model prog w) A (letOwnedTupleGo t1 it v) (fun _ s₂ => wpAny (model prog w) A (assign t1 env v) (fun _ s₃ => wpAny (model prog w) A (eval elt env) (fun x s₄ =>
              wpAny (model prog w) A (call (.builtin "set.add") [acc, x]) (fun _ s₅ => ∃ m, m < n ∧ I m s₅) (notedBy (model prog w) A env fun e s' => R (.error e) s') s₄) (notedBy (model prog w) A env fun e s' => R (.error e) s') s₃)
            (notedBy (model prog w) A env fun e s' => R (.error e) s') s₂) (notedBy (model prog w) A env fun e s' => R (.error e) s') s₁) (notedBy (model prog w) A env fun e s' => R (.error e) s') s)
    (n : Nat) (h : I n s) : codeAny (model prog w) A (.compLoop (sc2 elt t0 i0 t1 i1 scope pos) 1 it acc env) R s := by
  refine codeAny_loop rfl I (fun n s hI => ?_) n h
  show wpAny _ A ((compTurn (sc2 elt t0 i0 t1 i1 scope pos) 1 it acc env).onRaise (fun x => do noteFrame x env; theTreesLotGoes x)) _ _ s
  refine wpAny_noted ?_
  rw [turnX_in]
  refine wpAny_bind (wpAny_standAt (wpAny_bind (wpAny_mono (turn n s hI) (fun r s₁ h₁ => ?_) fun _ _ h' => h')))
  cases r with
  | none => exact wpAny_pure h₁
  | some v =>
    refine wpAny_bind (wpAny_mono h₁ (fun _ s₂ h₂ => ?_) fun _ _ h' => h')
    refine wpAny_bind (wpAny_mono h₂ (fun _ s₃ h₃ => wpAny_bind (wpAny_tests_nil ?_)) fun _ _ h' => h')
    exact wpAny_bind (wpAny_bind (wpAny_mono h₃ (fun x s₄ h₄ => wpAny_bind (wpAny_standAt (wpAny_bind (wpAny_mono h₄ (fun _ s₅ h₅ => wpAny_pure (wpAny_pure ⟨rfl, h₅⟩)) fun _ _ h' => h')))) fun _ _ h' => h'))
/-- the second clause's start -/
theorem startX_in (h0 : codeAny (model prog w) A (.compLoop (sc2 elt t0 i0 t1 i1 scope pos) 1 it acc env) R s)
    (h : wpAny (model prog w) A (pyIter it) (fun it' s' => codeAny (model prog w) A (.compLoop (sc2 elt t0 i0 t1 i1 scope pos) 1 it' acc env) R s') (notedBy (model prog w) A env fun x s' => R (.error x) s') s) :
    codeAny (model prog w) A (.compStart (sc2 elt t0 i0 t1 i1 scope pos) 1 it acc env) R s := by
  refine codeAny_of_tree ?_
  show wpAny _ _ ((compStart (sc2 elt t0 i0 t1 i1 scope pos) 1 it acc env).onRaise (fun x => do noteFrame x env; standAt theWindowsPlace)) _ _ s
  refine wpAny_notedAt ?_
  unfold compStart
  show wpAny _ _ (ask >>= _) _ _ s
  refine wpAny_bind (wpAny_askSetting (wpAny_ite ?_))
  split
  · first
      | exact wpAny_bind (wpAny_pure (wpAny_pure (And.intro rfl h0)))
      | exact wpAny_pure (And.intro rfl h0)
  · refine wpAny_bind (wpAny_rule ?_)
    show wpAny _ _ (standAt i1.pos >>= _) _ _ s
    exact wpAny_bind (wpAny_standAt (wpAny_bind (wpAny_mono h (fun it' s' h' => wpAny_pure (And.intro rfl h')) fun _ _ x => x)))
end
end Lk
set_option maxRecDepth 100000
set_option maxHeartbeats 2000000
namespace Lk
open PySem PySem.Spec PyProof.Rows L2
section
variable {X : Cx}
/-- a set of texts, two clauses, no tests: D the new set -/
def tSc2 (P : Program) (w : World) (wi : TI) (g : TG) (wi1 : TI) (g1 : TG) (te : TE) (vs vs1 : List Nat) : TE := fun σ H Q => wi σ H fun J H1 => ∀ D, H1 D = none → ∃ W : Nat → Nat → Hp → Prop, (∃ m, W 0 m (upd H1 D (SetXO P w D []))) ∧ ∀ i m H, W i m H →
  (J.stop i H ∧ Q (.ref D) H) ∨ (J.go i H ∧ ∃ Nx : Hp → Prop, (∀ H', Nx H' → ∃ m', m' < m ∧ W (i + 1) m' H') ∧ ∀ x H', J.yld i H x H' → g x (wipe σ vs) H' fun σ2 H2 => wipe σ2 vs = wipe σ vs ∧
    wi1 σ2 H2 fun J1 H4 => ∃ W1 : Nat → Nat → Hp → Prop, (∃ m, W1 0 m H4) ∧ ∀ j k H, W1 j k H →
      (J1.stop j H ∧ Nx H) ∨ (J1.go j H ∧ ∃ Nx1 : Hp → Prop, (∀ H', Nx1 H' → ∃ k', k' < k ∧ W1 (j + 1) k' H') ∧ ∀ x H', J1.yld j H x H' → g1 x (wipe σ2 vs1) H' fun σ3 H5 => wipe σ3 vs1 = wipe σ2 vs1 ∧
        te σ3 H5 fun y H7 => ∃ (k : Str) (l : List Str), y = .str k ∧ H7 D = some (SetXO P w D l) ∧ l.length + 1 < scanBound ∧ Nx1 (upd H7 D (SetXO P w D (if k ∈ l then l else k :: l)))))
theorem pe_sc2 {elt tg iter tg1 iter1 : Expr} {scope : Scope} {own : List (Str × Nat)} {vs1 : List Nat} {pos : Pos} {wi wi1 : TI} {g g1 : TG} {te : TE} (hc : X.calm = true) (hN : X.N.Nodup) (hi : PI X tg iter wi) (ok : BlkOk X.N X.env.scope scope own) (hv : ∀ i ∈ vs1, i ∈ own.map (·.2))
    (hg : ∀ (s : Shared) (H : Hp) (C : Addr) (cl : List (Str × Addr)) (fp : List Addr), PG (X.blk s H scope (compEnvC scope cl C X.env) fp) tg g)
    (hi1 : ∀ (s : Shared) (H : Hp) (C : Addr) (cl : List (Str × Addr)) (fp : List Addr), PI (X.blk s H scope (compEnvC scope cl C X.env) fp) tg1 iter1 wi1)
    (hg1 : ∀ (s : Shared) (H : Hp) (C : Addr) (cl : List (Str × Addr)) (fp : List Addr), PG (X.blk s H scope (compEnvC scope cl C X.env) fp) tg1 g1)
    (he : ∀ (s : Shared) (H : Hp) (C : Addr) (cl : List (Str × Addr)) (fp : List Addr), PE (X.blk s H scope (compEnvC scope cl C X.env) fp) elt te) (hs : ∀ x, foldedSetIterable iter X.env x = pure x := by intro _; rfl) (hs1 : ∀ env x, foldedSetIterable iter1 env x = pure x := by intro _ _; rfl) :
    PE X (sc2 elt tg iter tg1 iter1 scope pos) (tSc2 X.prog X.w wi g wi1 g1 te (own.map (·.2)) vs1) := by
  refine ⟨fun pins s σ H Q I h => ?_⟩
  rw [PpSet.eval_SetComp]
  have hfree : ∀ y ∈ scope.names, y.2 = .free → ∃ c, X.env.cells.lookup y.1 = some c := fun y hy e => by
    rcases ok.free y hy e with k | k
    · exact I.ok.has _ (.inl k)
    · exact I.ok.has _ (.inr k)
  refine wpAny_comprehension_free (use := none) rfl hs (closure_ok hfree) ok.kind (fun y hy e => by rw [ok.uniq y hy, e])
    (thn (hi.run pins s σ H _ I h) fun xv s1 hx => thn hx fun itv s2 h2 => ?_)
  obtain ⟨it, fp, tn, J, H2, e, I2, T, st2, f2, q⟩ := h2
  subst e
  refine PpSet.newSet_ok (newEnv_comp ?_)
  generalize hD : s2.heap.objs.size = D
  have hDn : H2 D = none := I2.hok.fresh (Nat.le_of_eq hD)
  obtain ⟨W, ⟨m0, w0⟩, turn⟩ := q D hDn
  generalize hs3 : ({ s2 with heap := s2.heap.push { cls := .type "set", dict := none, data := .set #[] 0 (.fresh 0 0 (!X.w.params.followText "set-order")) } } : Shared) = s3
  have h3 : s3.heap = s2.heap.push { cls := .type "set", dict := none, data := .set #[] 0 (.fresh 0 0 (!X.w.params.followText "set-order")) } := by rw [← hs3]
  have I3 : Inv X pins σ (upd H2 D (SetXO X.prog X.w D [])) s3 := by
    rw [← hs3]
    refine I2.laid (t' := s2.toks) (fun b o e => Heap.get?_push_of_some _ e) (Nat.le_of_eq hD) ?_
    rw [← hD]
    exact setXO_new ⟨_, Heap.get?_push_size _ rfl, TxW.fresh⟩
  have f3 : ∀ b ∈ fp, FpOk X pins (upd H2 D (SetXO X.prog X.w D [])) b ∧ b < s3.heap.objs.size := fun b hb => by
    obtain ⟨o, e, _⟩ := T.obj _ _ st2 b hb
    have hlt := Heap.lt_size e
    refine ⟨⟨?_, (f2 b hb).2⟩, by rw [h3, Heap.size_push]; exact Nat.lt_succ_of_lt hlt⟩
    rw [upd_ne (by rw [← hD]; exact Nat.ne_of_lt hlt)]
    exact (f2 b hb).1
  have st3 : tn 0 s3.heap := T.keep _ _ _ st2 fun b _ o e => by rw [h3]; exact Heap.get?_push_of_some _ e
  have I4 := block_start I3 ok hN f3
  have pg := hg s3 (upd H2 D (SetXO X.prog X.w D [])) s3.heap.objs.size (cellsFrom (s3.heap.objs.size + 1) scope.names (cloFrom X.env.cells scope.names [])) fp
  have pe := he s3 (upd H2 D (SetXO X.prog X.w D [])) s3.heap.objs.size (cellsFrom (s3.heap.objs.size + 1) scope.names (cloFrom X.env.cells scope.names [])) fp
  have pi1 := hi1 s3 (upd H2 D (SetXO X.prog X.w D [])) s3.heap.objs.size (cellsFrom (s3.heap.objs.size + 1) scope.names (cloFrom X.env.cells scope.names [])) fp
  have pg1 := hg1 s3 (upd H2 D (SetXO X.prog X.w D [])) s3.heap.objs.size (cellsFrom (s3.heap.objs.size + 1) scope.names (cloFrom X.env.cells scope.names [])) fp
  show codeAny _ _ (.compStart (sc2 elt tg iter tg1 iter1 scope pos) 0 (.ref it) (.ref D) (compEnvC scope (cellsFrom (s3.heap.objs.size + 1) scope.names (cloFrom X.env.cells scope.names [])) s3.heap.objs.size X.env)) (compPost (model X.prog X.w) X.A X.xe none _ (.ref D) s3.heap.objs.size) { s3 with heap := pushCells (s3.heap.push { cls := .type "dict", data := .dict #[] }) scope.names }
  have nfp : ∀ b ∈ fp, (upd H2 D (SetXO X.prog X.w D [])) b = none := fun b hb => (f3 b hb).1.1
  generalize hce : compEnvC scope (cellsFrom (s3.heap.objs.size + 1) scope.names (cloFrom X.env.cells scope.names [])) s3.heap.objs.size X.env = ce at I4 pg pe pi1 pg1 ⊢
  have cL : ce.locals = s3.heap.objs.size := by subst hce; rfl
  generalize hH3 : upd H2 D (SetXO X.prog X.w D []) = H3 at I3 I4 pg pe pi1 pg1 w0 nfp f3
  generalize hs4 : ({ s3 with heap := pushCells (s3.heap.push { cls := .type "dict", data := .dict #[] }) scope.names } : Shared) = s4 at I4 ⊢
  have st4 : tn 0 s4.heap := T.keep _ _ _ st3 fun b _ o e => by rw [← hs4]; exact pushCells_keeps _ _ _ _ (Heap.get?_push_of_some _ e)
  have stat : ∀ {σ' : L2.St} {H' : Hp} {s' : Shared}, Inv (X.blk s3 H3 scope ce fp) [] σ' H' s' → (∀ b ∈ fp, H' b = none) → ∀ b ∈ fp, FpOk (X.blk s3 H3 scope ce fp) [] H' b := fun {σ' H' s'} I' hn b hb =>
    ⟨hn b hb, (I'.ok.exf b hb).1, I'.ok.exfs b hb, .inl hb, fun x c e => (I'.ok.exf b hb).2 x c e, fun p hp => absurd (show p ∈ ([] : List (Addr × Obj)) ++ [] from hp) (by simp)⟩
  have loop : codeAny (model X.prog X.w) X.A (.compLoop (sc2 elt tg iter tg1 iter1 scope pos) 0 (.ref it) (.ref D) ce) (compPost (model X.prog X.w) X.A X.xe none (fun v s' => ∃ x H', Inv X pins σ H' s' ∧ RelV x v ∧ Q x H') (.ref D) s3.heap.objs.size) s4 := by
    refine loopX_out (hs1 ce) (fun n s' => ∃ i H', Inv (X.blk s3 H3 scope ce fp) [] (wipe σ (own.map (·.2))) H' s' ∧ tn i s'.heap ∧ (∀ b ∈ fp, H' b = none) ∧ W i n H') ?_ m0 ⟨0, H3, I4, st4, nfp, w0⟩
    rintro n s5 ⟨i, H5, I5, st5, n5, w5⟩
    rcases turn i n H5 w5 with ⟨stop, qq⟩ | ⟨go, Nx, hNx, step⟩
    · refine thnF (T.done (X.blk s3 H3 scope ce fp) rfl rfl rfl hc i [] s5 _ H5 (fun _ _ => False) I5 (stat I5 n5) st5 stop) fun r s6 ⟨hr, I6⟩ => ?_
      subst hr
      have I7 : Inv X pins σ H5 s6 := I3.call' (ch := fp) I6.os I6.base I6.hok I6.bare fun b hb => ⟨(f3 b hb).1.2.2.2.1, (f3 b hb).1.2.1, (f3 b hb).1.2.2.2.2.1, (f3 b hb).1.2.2.2.2.2⟩
      have nC : H5 s3.heap.objs.size = none := by
        have z : H5 ce.locals = none := I6.free
        rw [cL] at z
        exact z
      obtain ⟨m, hn, _⟩ := I6.loc
      have hn : s6.heap.Ns ce.locals m := hn
      rw [cL] at hn
      refine ⟨m, hn, fun h'' sb => ?_⟩
      have fC : FpOk X pins H5 s3.heap.objs.size := I3.fpOk (Nat.le_refl _) nC
      obtain ⟨c0, c1, c2, c3, c4, c5⟩ := fC
      exact ⟨.ref D, H5, I7.turned (t' := s6.toks) (fun b o hb e => (sb.2 b hb).trans e) c0 c1 c3 c4 c5, rfl, qq⟩
    · refine thnF (T.item (X.blk s3 H3 scope ce fp) rfl rfl rfl hc i [] s5 _ H5 (fun _ _ => False) I5 (stat I5 n5) st5 go) fun r s6 ⟨u, hr, h6⟩ => ?_
      subst hr
      refine thnF h6 fun _ s7 ⟨x, H7, I7, r7, y7, st7, n7⟩ => ?_
      have I7' := I7.pinned (stat I7 n7) (T.obj _ _ st7)
      refine thnF (pg.run _ s7 _ H7 x u _ I7' r7 (step x H7 y7)) fun _ s8 ⟨σ8, H8, I8, hw8, q8⟩ => ?_
      have fin : ∀ {σ9 : L2.St} {s' : Shared} {H' : Hp}, Inv (X.blk s3 H3 scope ce fp) ([] ++ pinsAt fp s7.heap) σ9 H' s' → (wipe σ (own.map (·.2))).length = σ9.length → (∀ (j : Nat) v, (wipe σ (own.map (·.2)))[j]? = some (some v) → σ9[j]? = some (some v)) → Nx H' →
          ∃ m, m < n ∧ ∃ i H', Inv (X.blk s3 H3 scope ce fp) [] (wipe σ (own.map (·.2))) H' s' ∧ tn i s'.heap ∧ (∀ b ∈ fp, H' b = none) ∧ W i m H' := fun {σ9 s' H'} I' hl hk nx => by
        obtain ⟨m', hm, w'⟩ := hNx H' nx
        have pin' : ∀ b ∈ fp, ∀ o, s7.heap.get? b = some o → s'.heap.get? b = some o ∧ H' b = none := fun b hb o e =>
          let z := I'.pin (b, o) (List.mem_append_right _ (List.mem_append_right _ (mem_pinsAt hb e)))
          ⟨z.1, z.2.1⟩
        refine ⟨m', hm, i + 1, H', (I'.unpinned (pins := [])).weak hl hk, T.keep _ _ _ st7 fun b hb o e => (pin' b hb o e).1, fun b hb => ?_, w'⟩
        obtain ⟨o, e, _⟩ := T.obj _ _ st7 b hb
        exact (pin' b hb o e).2
      have hl8 : (wipe σ (own.map (·.2))).length = σ8.length := by rw [← hw8, wipe_length]
      have hk9 : ∀ (j : Nat) v, (wipe σ (own.map (·.2)))[j]? = some (some v) → (wipe σ8 vs1)[j]? = some (some v) := fun j v e => by
        rw [← hw8] at e
        obtain ⟨e1, e2⟩ := wipe_some e
        rw [wipe_out fun z => e2 (hv j z)]
        exact e1
      refine thnF (pi1.run _ s8 σ8 H8 _ I8 q8) fun xv s10 hx => thnF hx fun itv s11 h11 => ?_
      obtain ⟨it1, fp1, tn1, J1, H11, e1, I11, T1, st11, f11, W1, ⟨m1, w1⟩, turn1⟩ := h11
      subst e1
      have stat1 : ∀ {H' : Hp}, (∀ b ∈ fp1, H' b = none) → ∀ b ∈ fp1, FpOk (X.blk s3 H3 scope ce fp) ([] ++ pinsAt fp s7.heap) H' b := fun hn b hb => ⟨hn b hb, (f11 b hb).2⟩
      have loop1 : codeAny (model X.prog X.w) X.A (.compLoop (sc2 elt tg iter tg1 iter1 scope pos) 1 (.ref it1) (.ref D) ce)
          (fun r s' => match r with
            | .ok _ => ∃ m, m < n ∧ ∃ i H', Inv (X.blk s3 H3 scope ce fp) [] (wipe σ (own.map (·.2))) H' s' ∧ tn i s'.heap ∧ (∀ b ∈ fp, H' b = none) ∧ W i m H'
            | .error _ => False) s11 := by
        refine loopX_in (fun k s' => ∃ j H', Inv (X.blk s3 H3 scope ce fp) ([] ++ pinsAt fp s7.heap) (wipe σ8 vs1) H' s' ∧ tn1 j s'.heap ∧ (∀ b ∈ fp1, H' b = none) ∧ W1 j k H') ?_ m1 ⟨0, H11, I11.weak (wipe_length _ _) (fun j v e => (wipe_some e).1), st11, fun b hb => (f11 b hb).1, w1⟩
        rintro k s12 ⟨j, H12, I12, st12, n12, w12⟩
        rcases turn1 j k H12 w12 with ⟨stop1, nx1⟩ | ⟨go1, Nx1, hNx1, step1⟩
        · refine thnF (T1.done (X.blk s3 H3 scope ce fp) rfl rfl rfl hc j _ s12 (wipe σ8 vs1) H12 (fun _ _ => False) I12 (stat1 n12) st12 stop1) fun r s13 ⟨hr, I13⟩ => ?_
          subst hr
          exact fin I13 (hl8.trans (wipe_length σ8 vs1).symm) hk9 nx1
        · refine thnF (T1.item (X.blk s3 H3 scope ce fp) rfl rfl rfl hc j _ s12 (wipe σ8 vs1) H12 (fun _ _ => False) I12 (stat1 n12) st12 go1) fun r s13 ⟨u1, hr, h13⟩ => ?_
          subst hr
          refine thnF h13 fun _ s14 ⟨x1, H14, I14, r14, y14, st14, n14⟩ => ?_
          have I14' := I14.pinned (stat1 n14) (T1.obj _ _ st14)
          refine thnF (pg1.run _ s14 (wipe σ8 vs1) H14 x1 u1 _ I14' r14 (step1 x1 H14 y14)) fun _ s15 ⟨σ15, H15, I15, hw15, q15⟩ => ?_
          refine thnF (pe.run _ s15 σ15 H15 _ I15 q15) fun z s17 ⟨yv, H17, I17, r17, kk, acc, ey, hD17, hz17, nx⟩ => ?_
          subst ey
          obtain ⟨tk, rfl⟩ : ∃ t, z = Value.str kk t := r17
          refine addX_ok (X := X.blk s3 H3 scope ce fp) I17 hD17 hz17 fun s18 I18 => ?_
          obtain ⟨m', hm, w'⟩ := hNx1 _ nx
          have pin' : ∀ b ∈ fp1, ∀ o, s14.heap.get? b = some o → s18.heap.get? b = some o ∧ _ := fun b hb o e =>
            let z := I18.pin (b, o) (List.mem_append_right _ (List.mem_append_right _ (mem_pinsAt hb e)))
            ⟨z.1, z.2.1⟩
          refine ⟨m', hm, j + 1, _, I18.unpinned.weak (by rw [← hw15, wipe_length]) (fun j v e => by rw [← hw15] at e; exact (wipe_some e).1), T1.keep _ _ _ st14 fun b hb o e => (pin' b hb o e).1, fun b hb => ?_, w'⟩
          obtain ⟨o, e, _⟩ := T1.obj _ _ st14 b hb
          exact (pin' b hb o e).2
      exact startX_in loop1 (T1.self X.A 0 _ _ _ st11 loop1)
  exact PpSet.codeAny_compStart_set loop (T.self X.A 0 _ _ _ st4 loop)
end
end Lk
set_option maxRecDepth 100000
set_option maxHeartbeats 2000000
namespace Lk
open PySem PySem.Spec PyProof.Rows L2
abbrev sUn : Stmt := topS 2
abbrev nUn : List Str := ["sets", "names", "name"]
theorem scUn : FnScope nUn ["sets"] (defScope sUn) := ⟨rfl, rfl, rfl, by decide +kernel, rfl, by decide +kernel, by decide +kernel⟩
theorem nodup_le {α : Type} [DecidableEq α] : ∀ {l U : List α}, l.Nodup → (∀ x ∈ l, x ∈ U) → l.length ≤ U.length
  | [], _, _, _ => Nat.zero_le _
  | x :: r, U, n, h => by
    have n' := List.nodup_cons.mp n
    have hx := h x (List.mem_cons_self ..)
    have ih := nodup_le (l := r) (U := U.erase x) n'.2 fun y hy => (List.mem_erase_of_ne (fun (e : y = x) => n'.1 (e ▸ hy))).mpr (h y (List.mem_cons_of_mem _ hy))
    rw [List.length_erase_of_mem hx] at ih
    have : 0 < U.length := List.length_pos_of_mem hx
    simp only [List.length_cons]
    omega
def spUn : Sp := fun vs H Q _ => ∃ (t : Addr) (as : List Addr) (gs : List (List Str)) (U : List Str), vs = [.ref t] ∧ H t = some (.tup (as.map V.ref)) ∧ GL H as gs ∧ (∀ g ∈ gs, ∀ x ∈ g, x ∈ U) ∧ U.length < 64 ∧
  ∀ H' r ns, H r = none → TS H' r ns → Asc ns → (∀ x, x ∈ ns ↔ ∃ g ∈ gs, x ∈ g) → Same H H' → Q (.ref r) H'
theorem add_mem {l : List Str} {k x : Str} : x ∈ (if k ∈ l then l else k :: l) ↔ x ∈ l ∨ x = k := by
  by_cases h : k ∈ l
  · rw [if_pos h]
    exact ⟨.inl, fun z => z.elim id fun e => e ▸ h⟩
  · rw [if_neg h, List.mem_cons]
    exact Or.comm
theorem add_nd {l : List Str} {k : Str} (n : l.Nodup) : (if k ∈ l then l else k :: l).Nodup := by
  by_cases h : k ∈ l
  · rw [if_pos h]
    exact n
  · rw [if_neg h]
    exact List.nodup_cons.mpr ⟨h, n⟩
section
variable {P : Program} {w : World} {K : PySem.W.Frag} {mg : Str → Option Value} {base : Heap}
theorem ok_union {f : Addr} {fd : FuncData} {k : Nat} (F : Fun K "union" "union" sUn f fd) (ms : mg "sorted" = none) (mt : mg "tuple" = none) : FnOk P w K mg base CX0 (k + 1) f fd ["sets"] spUn := by
  refine F.ok scUn (fun vs H Q E h => ?_) (fun cdv A outer s H vs Q E hr h => ?_)
  · obtain ⟨t, as, gs, U, rfl, _⟩ := h
    rfl
  · obtain ⟨t, as, gs, U, rfl, hT, hG, hU, hU2, q⟩ := h
    have nd := scUn.nd
    refine ⟨_, pss_one (ps_ret (pe_callTy call_tuple_of (by rfl) mt (by decide +kernel) (pa_cons (pe_callB (cr_sortedX rfl) (by rfl) ms (by decide +kernel) (pa_cons
      (pe_sc2 (own := [("names", 1), ("name", 2)]) (vs1 := [2]) (g := gName 1) (g1 := gName 2) rfl nd (show PI _ _ _ (iTup K (tVar 0)) from pi_tup (pv 0)) (blkOk_by (own := [("names", 1), ("name", 2)]) (N := nUn) (sc := defScope sUn) (by decide +kernel)) (by decide)
        (fun _ _ _ _ _ => pg_name (i := 1) nd rfl (.inl rfl)) (fun _ _ _ _ _ => show PI _ _ _ (iTup K (tVar 1)) from pi_tup (pv 1)) (fun _ _ _ _ _ => pg_name (i := 2) nd rfl (.inl rfl)) (fun _ _ _ _ _ => pv 2)) pa_nil)) pa_nil))), ?_⟩
    refine ⟨.ref t, rfl, t, rfl, ⟨_, .inl (.inl hT)⟩, fun D nD => ?_⟩
    refine ⟨fun i m H' => m = as.length - i ∧ i ≤ as.length ∧ ∃ l : List Str, H' = upd H D (SetXO P w D l) ∧ l.Nodup ∧ ∀ x, x ∈ l ↔ ∃ g ∈ gs.take i, x ∈ g, ⟨as.length, by simp, Nat.zero_le _, [], rfl, List.nodup_nil, fun x => by simp⟩, ?_⟩
    rintro i m H' ⟨rfl, hi, l, rfl, nl, ml⟩
    have sD : ∀ l : List Str, Same H (upd H D (SetXO P w D l)) := fun l => sUpd nD
    have lenU : ∀ {l : List Str} {Gs : List (List Str)}, l.Nodup → (∀ g ∈ Gs, g ∈ gs) → (∀ x ∈ l, ∃ g ∈ Gs, x ∈ g) → l.length ≤ 63 := fun {l Gs} n hg h => by
      have z := nodup_le (l := l) (U := U) n fun x hx => by
        obtain ⟨g, hg', hx'⟩ := h x hx
        exact hU g (hg g hg') x hx'
      omega
    have eT := sD l _ _ hT
    by_cases hlt : i < as.length
    · obtain ⟨g, hg, tg⟩ := hG.get (List.getElem?_eq_getElem hlt)
      have hgm : g ∈ gs := List.mem_of_getElem? hg
      have tk : gs.take (i + 1) = gs.take i ++ [g] := by rw [List.take_add_one, hg]; rfl
      refine .inr ⟨⟨_, .ref as[i], .inl (.inl eT), by rw [List.getElem?_map, List.getElem?_eq_getElem hlt]; rfl⟩, fun H' => ∃ l : List Str, H' = upd H D (SetXO P w D l) ∧ l.Nodup ∧ ∀ x, x ∈ l ↔ ∃ g ∈ gs.take (i + 1), x ∈ g,
        fun H' ⟨l, e, n, m⟩ => ⟨as.length - (i + 1), by omega, rfl, hlt, l, e, n, m⟩, fun x H' y => ?_⟩
      obtain ⟨rfl, y⟩ := y
      have ex := y _ (.inl (.inl eT))
      rw [List.getElem?_map, List.getElem?_eq_getElem hlt] at ex
      obtain rfl := Option.some.inj ex
      refine ⟨rfl, _, rfl, _, rfl, ⟨_, .inl (.inl (sD l _ _ tg))⟩, ?_⟩
      refine ⟨fun j k H' => k = g.length - j ∧ j ≤ g.length ∧ ∃ l : List Str, H' = upd H D (SetXO P w D l) ∧ l.Nodup ∧ ∀ x, x ∈ l ↔ (∃ g ∈ gs.take i, x ∈ g) ∨ x ∈ g.take j, ⟨g.length, by simp, Nat.zero_le _, l, rfl, nl, fun x => by rw [ml]; simp⟩, ?_⟩
      rintro j k H' ⟨rfl, hj, l2, rfl, nl2, ml2⟩
      have eg := sD l2 _ _ tg
      by_cases hjl : j < g.length
      · refine .inr ⟨⟨_, .str g[j], .inl (.inl eg), by rw [List.getElem?_map, List.getElem?_eq_getElem hjl]; rfl⟩, fun H' => ∃ l : List Str, H' = upd H D (SetXO P w D l) ∧ l.Nodup ∧ ∀ x, x ∈ l ↔ (∃ g ∈ gs.take i, x ∈ g) ∨ x ∈ g.take (j + 1),
          fun H' ⟨l, e, n, m⟩ => ⟨g.length - (j + 1), by omega, rfl, hjl, l, e, n, m⟩, fun x H' y => ?_⟩
        obtain ⟨rfl, y⟩ := y
        have ex := y _ (.inl (.inl eg))
        rw [List.getElem?_map, List.getElem?_eq_getElem hjl] at ex
        obtain rfl := Option.some.inj ex
        have tk2 : g.take (j + 1) = g.take j ++ [g[j]] := by rw [List.take_add_one, List.getElem?_eq_getElem hjl]; rfl
        refine ⟨rfl, _, rfl, g[j], l2, rfl, upd_same, ?_, _, by rw [upd_upd]; rfl, add_nd nl2, fun x => ?_⟩
        · have := lenU (l := l2) (Gs := gs.take i ++ [g]) nl2 (fun g' hg' => by
            rcases List.mem_append.mp hg' with z | z
            · exact List.mem_of_mem_take z
            · rw [List.mem_singleton.mp z]; exact hgm) (fun x hx => by
            rcases (ml2 x).mp hx with ⟨g', h1, h2⟩ | z
            · exact ⟨g', List.mem_append_left _ h1, h2⟩
            · exact ⟨g, List.mem_append_right _ (List.mem_singleton.mpr rfl), List.mem_of_mem_take z⟩)
          exact Nat.lt_of_le_of_lt (Nat.succ_le_succ this) (by decide)
        · rw [add_mem, ml2, tk2, List.mem_append, List.mem_singleton, or_assoc]
      · have e : j = g.length := by omega
        subst e
        refine .inl ⟨⟨_, .inl (.inl eg), by simp⟩, l2, rfl, nl2, fun x => ?_⟩
        rw [ml2, tk, List.take_length]
        constructor
        · rintro (⟨g', h1, h2⟩ | z)
          · exact ⟨g', List.mem_append_left _ h1, h2⟩
          · exact ⟨g, List.mem_append_right _ (List.mem_singleton.mpr rfl), z⟩
        · rintro ⟨g', h1, h2⟩
          rcases List.mem_append.mp h1 with z | z
          · exact .inl ⟨g', z, h2⟩
          · rw [List.mem_singleton.mp z] at h2; exact .inr h2
    · have e : i = as.length := by omega
      subst e
      rw [hG.length, List.take_length] at ml
      refine .inl ⟨⟨_, .inl (.inl eT), by simp⟩, ?_⟩
      have ll := lenU (l := l) (Gs := gs) nl (fun g hg => hg) (fun x hx => (ml x).mp hx)
      refine ⟨D, l, rfl, upd_same, by omega, fun ns p hs hp np => ?_⟩
      refine ⟨p, _, rfl, .inl ⟨.inl (.inl upd_same), fun r nr => ?_⟩⟩
      have s1 : Same H (upd (upd H D (SetXO P w D l)) p (.lst (ns.map V.str))) := (sD l).trans (sUpd np)
      refine q _ r ns (s1.free nr) upd_same (sorted_asc hp hs nl) (fun x => by rw [hp.mem_iff]; exact ml x) (s1.trans (sUpd nr))
end
end Lk
set_option maxRecDepth 100000
set_option maxHeartbeats 2000000
namespace Lk
open PySem PySem.Spec PyProof.Rows L2
/-- a def of the text whose code object stands at c -/
structure FunC (K : PySem.W.Frag) (x : Str) (st : Stmt) (f c : Addr) (fd : FuncData) : Prop where
  ex : ∃ (oc : Value) (od : Option Addr) (kV doc pm : Value) (an : Option Addr) (ct : Value) (osl : Array (Option Value)),
    fd = PySem.W.fnOf x x (defArgs st) (defBody st) (defScope st) .none kV doc pm an (.ref c) ct ∧ K.lookup f = some ⟨oc, od, .func fd, osl⟩ ∧ PySem.W.codeIn K (.ref c) x = true
  kp : PySem.W.keepIn K (.ref f) = true
theorem FunC.func {K : PySem.W.Frag} {x : Str} {st : Stmt} {f c : Addr} {fd : FuncData} (F : FunC K x st f c fd) : Fun K x x st f fd := by
  obtain ⟨oc, od, kV, doc, pm, an, ct, osl, h⟩ := F.ex
  exact ⟨⟨oc, od, kV, doc, pm, an, .ref c, ct, osl, h⟩, F.kp⟩
section
variable {P : Program} {w : World} {K : PySem.W.Frag} {mg : Str → Option Value} {base : Heap}
theorem FunC.ok {x : Str} {st : Stmt} {f c : Addr} {fd : FuncData} {N ps : List Str} {k : Nat} {sp : Sp} (F : FunC K x st f c fd) (S : FnScope N ps (defScope st)) (len : ∀ vs H Q E, sp vs H Q E → vs.length = ps.length)
    (hbody : ∀ (A : Around) (outer : List Env) (s : Shared) (H : Hp) (vs : List V) (Q : VK) (E : XK), Room k (A.deeper (envOfC x (defScope st) s.heap.objs.size f (.ref c))) → sp vs H Q E →
      ∃ t, PSs (cxOf CX0 P w K mg base N x (defScope st) f (.ref c) A outer s H E).nox (defBody st) t ∧ t { nx := fun _ H' => Q .non H', rt := Q } (start N vs) H) : FnOk P w K mg base CX0 (k + 1) f fd ps sp := by
  obtain ⟨oc, od, kV, doc, pm, an, ct, osl, rfl, lk, hcd⟩ := F.ex
  refine fn_of lk hcd S len fun A outer s H vs Q E hr hsp => ?_
  obtain ⟨t, h, q⟩ := hbody A outer s H vs Q E hr hsp
  exact ⟨t, h.nox, q⟩
theorem FunC.mk' {x : Str} {st : Stmt} {f c : Addr} {oc : Value} {od an : Option Addr} {osl : Array (Option Value)} {kV doc pm ct : Value} (l : K.lookup f = some ⟨oc, od, .func (PySem.W.fnOf x x (defArgs st) (defBody st) (defScope st) .none kV doc pm an (.ref c) ct), osl⟩)
    (c' : PySem.W.codeIn K (.ref c) x = true) (k : PySem.W.keepIn K (.ref f) = true) : FunC K x st f c (PySem.W.fnOf x x (defArgs st) (defBody st) (defScope st) .none kV doc pm an (.ref c) ct) := ⟨⟨oc, od, kV, doc, pm, an, ct, osl, rfl, l, c'⟩, k⟩

abbrev sSub : Stmt := topS 1
abbrev nSub : List Str := ["first", "second"]
theorem scSub : FnScope nSub ["first", "second"] (defScope sSub) := ⟨rfl, rfl, rfl, by decide +kernel, rfl, by decide +kernel, by decide +kernel⟩
def spSub (P : Addr) : Sp := fun vs H Q _ => ∃ (a b : Addr) (xs ys : List Str), vs = [.ref a, .ref b] ∧ TS H a xs ∧ TS H b ys ∧ GxR.TabG H P ∧ ∀ H', GxR.Tabbed P H H' → Q (.bl (subB xs ys)) H'
theorem all_sub (xs ys : List Str) : (xs.all fun n => decide (n ∈ ys)) = subB xs ys := by
  rw [Bool.eq_iff_iff, subB_iff]
  simp
theorem ok_sub {f c T : Addr} {fd : FuncData} {k : Nat} (F : FunC K "is_subset" sSub f c fd) (TB : GxR.TabB base mg c T) (ma : mg "all" = none) : FnOk P w K mg base CX0 (k + 2) f fd ["first", "second"] (spSub T) := by
  refine F.ok scSub (fun vs H Q E h => ?_) (fun A outer s H vs Q E hr h => ?_)
  · obtain ⟨a, b, xs, ys, rfl, _⟩ := h
    rfl
  · obtain ⟨a, b, xs, ys, rfl, hx, hy, hT, q⟩ := h
    refine ⟨_, pss_one (ps_ret (pe_allIn (j := 1) hr (by rfl) ma (by decide +kernel) TB rfl ⟨rfl, rfl, by decide, rfl, rfl, fun y hy e => ?_⟩ (pv 0) rfl rfl rfl (fun cells => rfl) (fun v => rfl))), ?_⟩
    · refine Option.isSome_iff_exists.mp (PySem.W.cellsFrom_some _ _ _ (.inl ?_))
      revert y
      decide +kernel
    · refine ⟨_, rfl, a, b, xs, ys, rfl, .inr hx.sq, rfl, .inr hy.sq, hT, fun H2 t => ?_⟩
      rw [all_sub]
      exact q _ t
end
end Lk
set_option maxRecDepth 100000
set_option maxHeartbeats 2000000
namespace Lk
open PySem PySem.Spec PyProof.Rows L2
abbrev sHol : Stmt := topS 4
abbrev nHol : List Str := ["scheme", "index", "_", "servers", "observers"]
theorem scHol : FnScope nHol ["scheme", "index"] (defScope sHol) := ⟨rfl, rfl, rfl, by decide +kernel, rfl, by decide +kernel, by decide +kernel⟩
def spHol (P : Addr) : Sp := fun vs H Q _ => ∃ (t ts to d : Addr) (i : Nat) (x0 x2 x4 : V) (sv g : List Str) (obs : List Addr), vs = [.ref t, .int i] ∧ H t = some (.tup [x0, .ref ts, x2, .ref to, x4]) ∧ TS H ts sv ∧ sv.length ≤ 1000 ∧ H to = some (.tup (obs.map V.ref)) ∧ obs.length ≤ 1000 ∧ obs[i]? = some d ∧ TS H d g ∧
  GxR.TabG H P ∧ ∀ H2 r, GxR.Tabbed P H H2 → H2 r = none → Q (.ref r) (upd H2 r (.tup ((sv.filter fun n => !decide (n ∈ g)).map V.str)))
section
variable {P : Program} {w : World} {K : PySem.W.Frag} {mg : Str → Option Value} {base : Heap}
theorem ok_hol {f c T : Addr} {fd : FuncData} {k : Nat} (F : FunC K "holders" sHol f c fd) (TB : GxR.TabB base mg c T) (mt : mg "tuple" = none) : FnOk P w K mg base CX0 (k + 2) f fd ["scheme", "index"] (spHol T) := by
  refine F.ok scHol (fun vs H Q E h => ?_) (fun A outer s H vs Q E hr h => ?_)
  · obtain ⟨t, ts, to, d, i, x0, x2, x4, sv, g, obs, rfl, _⟩ := h
    rfl
  · obtain ⟨t, ts, to, d, i, x0, x2, x4, sv, g, obs, rfl, et, hs, hsl, eo, hol, hd, hg, hT, q⟩ := h
    have nd := scHol.nd
    refine ⟨_, pss_cons (ps_asg (pv 0) (pg_tup (by rfl) (pgs_cons (pg_name (i := 2) nd rfl (.inl rfl)) (pgs_cons (pg_name (i := 3) nd rfl (.inl rfl)) (pgs_cons (pg_name (i := 2) nd rfl (.inl rfl)) (pgs_cons (pg_name (i := 4) nd rfl (.inr rfl)) (pgs_cons (pg_name (i := 2) nd rfl (.inl rfl)) pgs_nil)))))))
      (pss_one (ps_ret (pe_tupNot (j := 4) (l := 1) hr (by rfl) mt (by decide +kernel) TB rfl ⟨rfl, rfl, by decide, rfl, rfl, fun y hy e => ?_⟩ (pv 3) rfl rfl rfl (fun cells => rfl) rfl rfl rfl (fun cells => rfl) (fun v => rfl)))), ?_⟩
    · refine Option.isSome_iff_exists.mp (PySem.W.cellsFrom_some _ _ _ (.inl ?_))
      revert y
      decide +kernel
    · refine ⟨_, rfl, t, _, rfl, .inl (.inl et), rfl, _, _, rfl, ?_⟩
      refine ⟨_, _, rfl, ?_⟩
      refine ⟨_, _, rfl, ?_⟩
      refine ⟨_, _, rfl, ?_⟩
      refine ⟨_, _, rfl, rfl, ?_⟩
      refine ⟨_, rfl, ts, to, d, i, obs.map V.ref, sv, g, rfl, hs.sq, ?_, rfl, rfl, .inl (.inl eo), by rw [List.length_map]; exact hol, by rw [List.getElem?_map, hd]; rfl, hg.sq, hT, q⟩
      exact Nat.le_trans hsl (by decide)
end
end Lk
set_option maxRecDepth 100000
set_option maxHeartbeats 2000000
namespace Lk
open PySem PySem.Spec PyProof.Rows L2
theorem GL.app {H : Hp} {as bs : List Addr} {gs hs : List (List Str)} (h : GL H as gs) (k : GL H bs hs) : GL H (as ++ bs) (gs ++ hs) := by
  unfold GL at h
  induction h with
  | nil => exact k
  | cons r _ ih => exact .cons r ih
theorem GL.take {H : Hp} : ∀ {n : Nat} {as : List Addr} {gs : List (List Str)}, GL H as gs → GL H (as.take n) (gs.take n)
  | 0, _, _, _ => by
    rw [List.take_zero, List.take_zero]
    exact .nil
  | n + 1, _, _, .nil => by
    rw [List.take_nil, List.take_nil]
    exact .nil
  | n + 1, _, _, .cons r t => by
    rw [List.take_succ_cons, List.take_succ_cons]
    exact .cons r (GL.take t)
theorem GL.rev {H : Hp} {as : List Addr} {gs : List (List Str)} (h : GL H as gs) : GL H as.reverse gs.reverse := by
  unfold GL at h
  induction h with
  | nil => exact .nil
  | cons r _ ih =>
    rw [List.reverse_cons, List.reverse_cons]
    exact GL.app ih (.cons r .nil)
abbrev sGrp : Stmt := topS 13
abbrev nGrp : List Str := ["_law_source_here", "_law_names_here", "_law_found", "_law_n", "_law_name"]
theorem scGrp : FnScope nGrp ["_law_source_here", "_law_names_here"] (defScope sGrp) := ⟨rfl, rfl, rfl, by decide +kernel, rfl, by decide +kernel, by decide +kernel⟩
def spGrp : Sp := fun vs H Q _ => ∃ (p c a : Addr) (n : Nat) (xs : List Str), vs = [.ref p, .ref a] ∧ H a = some (.lst (xs.map V.str)) ∧ a ≠ c ∧ xs.length ≤ 12 ∧ Src H p c n ∧ n ≤ 900000 ∧
  ∀ H' r as gs, H r = none → H' r = some (.lst (as.map V.ref)) → GL H' as gs → (∀ g ∈ gs, g.Sublist xs) → gs.length ≤ 7 → Src H' p c (n + 100) → Kp p c H H' → Q (.ref r) H'
section
variable {P : Program} {w : World} {K : PySem.W.Frag} {mg : Str → Option Value} {base : Heap}
theorem ok_grp {f fD : Addr} {fd fdD : FuncData} {k : Nat} (F : Fun K "_law_groups" "_law_groups" sGrp f fd)
    (D : FnOk P w K mg base CX0 (k + 1) fD fdD ["_law_source_here", "_law_limit"] spDraw) (gD : mg "_law_draw" = some (.ref fD)) (kD : PySem.W.keepIn K (.ref fD) = true) (bD : Binds K fdD ["_law_source_here", "_law_limit"] [])
    (mr : mg "range" = none) (mt : mg "tuple" = none) (mi : mg "int" = none) : FnOk P w K mg base CX0 (k + 2) f fd ["_law_source_here", "_law_names_here"] spGrp := by
  refine F.ok scGrp (fun vs H Q E h => ?_) (fun cdv A outer s H vs Q E hr h => ?_)
  · obtain ⟨p, c, a, n, xs, rfl, _⟩ := h
    rfl
  · obtain ⟨p, c, a, n, xs, rfl, ea, nac, hx, hS, hn, q⟩ := h
    have nd := scGrp.nd
    have nap : a ≠ p := by
      obtain ⟨g, k, ns, e, _⟩ := hS
      exact ne_of ea e (by intro z; cases z)
    refine ⟨_, pss_cons (ps_set (i := 2) nd rfl (.inl rfl) (pe_lst pa_nil))
      (pss_cons (ps_for PassesOwn.never rfl (pi_range1 (by rfl) mr (pa_cons (pe_call D hr (by rfl) gD kD bD .nil pass0 (pa_cons (pv 0) (pa_cons pe_int pa_nil))) pa_nil)) (pg_name (i := 3) nd rfl (.inl rfl))
        (pss_one (ps_expr (pe_bm PySem.F.plainAttrs_list PySem.F.slot_list_append PySem.F.type_list_append mt_append (pv 2) (pa_cons
          (pe_callTy call_tuple_of (by rfl) mt (by decide +kernel) (pa_cons (pe_lc (own := [("_law_name", 4)]) (g := gName 4) rfl nd (pi_list (pv 1)) (blkOk_by (own := [("_law_name", 4)]) (N := nGrp) (sc := defScope sGrp) (by decide +kernel))
            (fun _ _ _ _ _ => pg_name (i := 4) nd rfl (.inl rfl)) (fun _ _ _ _ _ => pts_one (pt_cmpR op_lt (pe_call D hr (by rfl) gD kD bD .nil pass0 (pa_cons (pv 0) (pa_cons pe_int pa_nil))) pe_int (nomark _))) (fun _ _ _ _ _ => pv 4)) pa_nil)) pa_nil)))))
      (pss_one (ps_ret (pe_op op_cat (pv 2) (pe_op op_rep (pe_slice sl_list (pv 2) po_none (po_some pe_int))
        (pe_callTy call_int1 (by rfl) mi (by decide +kernel) (pa_cons (pe_cmpR op_eq (pe_call D hr (by rfl) gD kD bD .nil pass0 (pa_cons (pv 0) (pa_cons pe_int pa_nil))) pe_int (nomark _)) pa_nil))))))), ?_⟩
    refine ⟨by show 0 ≤ sizeLine; exact Nat.zero_le _, fun L nL => ?_⟩
    have nLp := hS.nep nL
    have nLc := hS.nec nL
    have nLa : L ≠ a := (ne_of_none ea nL).symm
    refine ⟨.ref p, rfl, p, c, n, 7, rfl, hS.upd nL, by omega, by decide, by decide, fun H1 rr r0 r1 S1 K1 => ?_⟩
    obtain ⟨rn, rfl⟩ : ∃ m : Nat, rr = m := ⟨rr.toNat, by omega⟩
    refine ⟨rn, rfl, by omega, by omega, for_range (n := (rn : Int).toNat) (fun i σ H2 => ∃ y3 as gs, σ = [some (.ref p), some (.ref a), some (.ref L), y3, none] ∧ as.length = i ∧ GL H2 as gs ∧ (∀ g ∈ gs, g.Sublist xs) ∧
      H2 L = some (.lst (as.map V.ref)) ∧ Src H2 p c (n + 1 + 12 * i) ∧ Kp p c H H2)
      ⟨none, [], [], rfl, rfl, .nil, by simp, K1 _ _ nLp nLc upd_same, S1, (Kp.new nL).trans K1⟩ (fun i σ H2 hi hW => ?_) (fun σ H2 hW => ?_)⟩
    · obtain ⟨y3, as, gs, rfl, ha, hG, hs, eL, S2, K2⟩ := hW
      have ea2 := K2 _ _ nap nac ea
      refine ⟨_, rfl, .inl ⟨rfl, _, .inl (.inl eL)⟩, ?_⟩
      refine ⟨_, rfl, a, rfl, ⟨_, .inl (.inl ea2)⟩, fun D nD => ?_⟩
      have nDp := S2.nep nD
      have nDc := S2.nec nD
      have nDa : D ≠ a := (ne_of_none ea2 nD).symm
      refine lc_list (K := K) (a := a) (xs := xs.map V.str) (fun j H' => ∃ ys : List Str, ys.Sublist (xs.take j) ∧ H' D = some (.lst (ys.map V.str)) ∧ Src H' p c (n + 1 + 12 * i + j) ∧ Kp p c H2 H' ∧ Tp H2 H') ⟨[], List.nil_sublist _, upd_same, S2.upd nD, .new nD, Same.tp (sUpd nD)⟩ (fun j H' _ hW => ?_) (fun j x H' hx' hW => ?_) (fun H' hW => ?_)
      · obtain ⟨ys, _, _, _, K4, _⟩ := hW
        exact .inl (.inl (K4 _ _ nap nac ea2))
      · obtain ⟨ys, hsub, eD, S4, K4, T4⟩ := hW
        obtain ⟨y, rfl, ey⟩ : ∃ y, x = .str y ∧ xs[j]? = some y := by
          rw [List.getElem?_map] at hx'
          cases e : xs[j]? with
          | none => rw [e] at hx'; cases hx'
          | some y => rw [e] at hx'; exact ⟨y, (Option.some.inj hx').symm, rfl⟩
        have hj : j < xs.length := (List.getElem?_eq_some_iff.mp ey).1
        have tk : xs.take (j + 1) = xs.take j ++ [y] := by rw [List.take_add_one, ey]; rfl
        refine ⟨rfl, ?_⟩
        refine ⟨.ref p, rfl, p, c, n + 1 + 12 * i + j, 12, rfl, S4, by omega, by decide, by decide, fun H5 r _ _ S5 K5 => ?_⟩
        refine ⟨_, _, rfl, rfl, _, rfl, ite2 (fun _ => ?_) (fun _ => ?_)⟩
        · refine ⟨_, rfl, _, K5 D _ nDp nDc eD, ?_, ys ++ [y], ?_, ?_, S5.set nDp nDc, (K4.trans K5).fill nD, (T4.trans (K5.tp S4)).trans (Tp.lst (K5 D _ nDp nDc eD))⟩
          · rw [List.length_map, sizeLine_eq]
            have := hsub.length_le
            rw [List.length_take] at this
            omega
          · rw [tk]
            exact hsub.append (List.Sublist.refl _)
          · rw [upd_same, List.map_append]
            rfl
        · exact ⟨ys, by rw [tk]; exact hsub.trans (List.sublist_append_left _ _), K5 D _ nDp nDc eD, S5, K4.trans K5, T4.trans (K5.tp S4)⟩
      · obtain ⟨ys, hsub, eD, S4, K4, T4⟩ := hW
        rw [List.length_map] at hsub S4
        rw [List.take_length] at hsub
        refine ⟨D, _, rfl, .inl ⟨.inl (.inl eD), fun t nt => ?_⟩⟩
        have eL4 := K4 _ _ nLp nLc eL
        have eL5 : (upd H' t (.tup (ys.map V.str))) L = some (.lst (as.map V.ref)) := by rw [upd_ne (ne_of_none eL4 nt)]; exact eL4
        refine ⟨L, _, _, rfl, rfl, eL5, by rw [List.length_map, sizeLine_eq]; omega, _, as ++ [t], gs ++ [ys], rfl, by rw [List.length_append, ha]; rfl, ?_, ?_, by rw [upd_same, List.map_append]; rfl, ((S4.upd nt).set nLp nLc).mono (by omega), ((K2.trans K4).trans (.new nt)).fill nL⟩
        · exact Paired.snoc (GL.tp hG ((T4.trans (Same.tp (sUpd nt))).trans (Tp.lst eL5))) (Tp.lst eL5 _ _ upd_same)
        · intro g hg
          rcases List.mem_append.mp hg with z | z
          · exact hs g z
          · rw [List.mem_singleton.mp z]; exact hsub
    · obtain ⟨y3, as, gs, rfl, ha, hG, hs, eL, S2, K2⟩ := hW
      have hlen := hG.length
      refine ⟨_, rfl, _, rfl, 1, rfl, L, _, rfl, .inl (.inl eL), fun pp np => ?_⟩
      have ecut : cutV (as.map V.ref) none (some 1) = (as.take 1).map V.ref := by
        cases as with
        | nil => rfl
        | cons x t =>
          show ((List.map V.ref (x :: t)).drop _).take _ = _
          simp [HT.sIx]
      rw [ecut]
      have eL3 : (upd H2 pp (.lst ((as.take 1).map V.ref))) L = some (.lst (as.map V.ref)) := by rw [upd_ne (ne_of_none eL np)]; exact eL
      have Kpp : Kp p c H2 (upd H2 pp (.lst ((as.take 1).map V.ref))) := .new np
      have Tpp : Tp H2 (upd H2 pp (.lst ((as.take 1).map V.ref))) := Same.tp (sUpd np)
      have S2' := S2.upd (o := .lst ((as.take 1).map V.ref)) np
      have npp := S2.nep np
      have npc := S2.nec np
      refine ⟨.ref p, rfl, p, c, _, 3, rfl, S2', by omega, by decide, by decide, fun H3 r _ _ S3 K3 => ?_⟩
      have eP3 := K3 pp _ npp npc upd_same
      have eL4 := K3 L _ nLp nLc eL3
      have T3 : Tp H2 H3 := Tpp.trans (K3.tp S2')
      have K4 : Kp p c H H3 := (K2.trans Kpp).trans K3
      refine ⟨rfl, .inr ⟨_, rfl, ?_⟩⟩
      obtain ⟨kk, hkk, ek⟩ : ∃ kk : Nat, kk ≤ 1 ∧ (if (decide (V.int r = V.int 0)) = true then (1 : Int) else 0) = kk := by
        by_cases e : V.int r = V.int 0
        · exact ⟨1, by omega, by rw [decide_eq_true e]; rfl⟩
        · exact ⟨0, by omega, by rw [decide_eq_false e]; rfl⟩
      rw [ek]
      have hf : (List.replicate kk ((as.take 1).map V.ref)).flatten = ((as.take 1).take kk).map V.ref ∧ ((as.take 1).take kk).length ≤ 1 := by
        refine ⟨?_, by rw [List.length_take, List.length_take]; omega⟩
        have : kk = 0 ∨ kk = 1 := by omega
        rcases this with rfl | rfl
        · simp
        · simp [List.take_take]
      refine ⟨pp, _, _, rfl, rfl, eP3, by omega, by omega, ?_, fun p2 np2 => ?_⟩
      · rw [List.length_map, List.length_take, Int.toNat_natCast, sizeLine_eq]
        have : min 1 as.length * kk ≤ 1 * 1 := Nat.mul_le_mul (Nat.min_le_left _ _) hkk
        omega
      rw [Int.toNat_natCast, hf.1]
      have eL5 : (upd H3 p2 (.lst (((as.take 1).take kk).map V.ref))) L = some (.lst (as.map V.ref)) := by rw [upd_ne (ne_of_none eL4 np2)]; exact eL4
      refine ⟨L, p2, _, _, rfl, rfl, eL5, upd_same, ?_, fun r2 nr2 => ?_⟩
      · rw [List.length_map, List.length_map, sizeLine_eq]
        have := hf.2
        omega
      have S6 := (S3.upd (o := .lst (((as.take 1).take kk).map V.ref)) np2).upd (o := .lst (as.map V.ref ++ ((as.take 1).take kk).map V.ref)) nr2
      have K6 : Kp p c H (upd (upd H3 p2 (.lst (((as.take 1).take kk).map V.ref))) r2 (.lst (as.map V.ref ++ ((as.take 1).take kk).map V.ref))) := (K4.trans (.new np2)).trans (.new nr2)
      have T6 : Tp H2 (upd (upd H3 p2 (.lst (((as.take 1).take kk).map V.ref))) r2 (.lst (as.map V.ref ++ ((as.take 1).take kk).map V.ref))) := (T3.trans (Same.tp (sUpd np2))).trans (Same.tp (sUpd nr2))
      have h3 : H3 r2 = none := (sUpd np2).free nr2
      refine q _ r2 (as ++ (as.take 1).take kk) (gs ++ (gs.take 1).take kk) (K4.none S3 h3) (by rw [upd_same, List.map_append]) ?_ ?_ ?_ (S6.mono (by omega)) K6
      · have g6 := GL.tp hG T6
        exact GL.app g6 (GL.take (GL.take g6))
      · intro g hg
        rcases List.mem_append.mp hg with z | z
        · exact hs g z
        · exact hs g (List.mem_of_mem_take (List.mem_of_mem_take z))
      · rw [List.length_append]
        have : ((gs.take 1).take kk).length ≤ 1 := by
          rw [List.length_take, List.length_take]
          omega
        omega
end
end Lk
set_option maxRecDepth 100000
set_option maxHeartbeats 2000000
namespace Lk
open PySem PySem.Spec PyProof.Rows L2
theorem dp_GL {K : PySem.W.Frag} {H : Hp} {as : List Addr} {gs : List (List Str)} (h : GL H as gs) : DpAll K H (as.map V.ref) (dTs gs) := by
  unfold GL at h
  induction h with
  | nil => exact .nil
  | cons r _ ih => exact .cons (dp_tup r) ih
abbrev sUe : Stmt := topS 14
abbrev nUe : List Str := ["_law_groups_here", "_law_names_here", "_law_name", "_law_group"]
theorem scUe : FnScope nUe ["_law_groups_here", "_law_names_here"] (defScope sUe) := ⟨rfl, rfl, rfl, by decide +kernel, rfl, by decide +kernel, by decide +kernel⟩
def scUe2 : Scope := { kind := .function, names := [(".0", .local), ("_law_name", .cell), ("_law_groups_here", .cell)], isGenerator := false, isCoroutine := false }
/-- the names that are in some group -/
def unE (gs : List (List Str)) (xs : List Str) : List Str := xs.filter fun x => !(gs.filter fun g => decide (x ∈ g)).isEmpty
def spUe : Sp := fun vs H Q _ => ∃ (L a : Addr) (as : List Addr) (gs : List (List Str)) (xs : List Str), vs = [.ref L, .ref a] ∧ H L = some (.lst (as.map V.ref)) ∧ GL H as gs ∧ H a = some (.lst (xs.map V.str)) ∧ xs.length ≤ 12 ∧ gs.length ≤ 100 ∧ (∀ g ∈ gs, OkS g) ∧
  ∀ H' r, H r = none → TS H' r (unE gs xs) → Same H H' → Q (.ref r) H'
section
variable {P : Program} {w : World} {K : PySem.W.Frag} {mg : Str → Option Value} {base : Heap}
theorem ok_ue {f : Addr} {fd : FuncData} {k : Nat} (F : Fun K "_law_union_expected" "_law_union_expected" sUe f fd) (mt : mg "tuple" = none) : FnOk P w K mg base CX0 (k + 1) f fd ["_law_groups_here", "_law_names_here"] spUe := by
  refine F.ok scUe (fun vs H Q E h => ?_) (fun cdv A outer s H vs Q E hr h => ?_)
  · obtain ⟨L, a, as, gs, xs, rfl, _⟩ := h
    rfl
  · obtain ⟨L, a, as, gs, xs, rfl, eL, hG, ea, hx, hgl, hok, q⟩ := h
    have nd := scUe.nd
    refine ⟨_, pss_one (ps_ret (pe_callTy call_tuple_of (by rfl) mt (by decide +kernel) (pa_cons (pe_lc (own := [("_law_name", 2)]) (g := gName 2) rfl nd (pi_list (pv 1)) (blkOk_by (own := [("_law_name", 2)]) (N := nUe) (sc := defScope sUe) (by decide +kernel))
      (fun _ _ _ _ _ => pg_name (i := 2) nd rfl (.inr rfl)) (fun _ _ _ _ _ => pts_one (pt_cmpR (show OpR _ (compareOp .NotEq) (rNeD K) from op_neD hr.units)
        (pe_lc (own := [("_law_group", 3)]) (g := gName 3) rfl nd (show PI _ _ _ (iList K (tVar 0)) from pi_list (pv 0)) (blkOk_by (own := [("_law_group", 3)]) (N := nUe) (sc := scUe2) (by decide +kernel))
          (fun _ _ _ _ _ => pg_name (i := 3) nd rfl (.inl rfl)) (fun _ _ _ _ _ => pts_one (pt_cmpR (show OpR _ (compareOp .In) (rIn K false) from op_in_seq) (pv 2) (pv 3) (by rfl))) (fun _ _ _ _ _ => pv 3))
        (pe_lst pa_nil) (nomark _))) (fun _ _ _ _ _ => pv 2)) pa_nil))), ?_⟩
    refine ⟨_, rfl, a, rfl, ⟨_, .inl (.inl ea)⟩, fun D nD => ?_⟩
    refine lc_list (K := K) (a := a) (xs := xs.map V.str) (fun i H' => H' D = some (.lst ((unE gs (xs.take i)).map V.str)) ∧ Same H H') ⟨upd_same, sUpd nD⟩ (fun i H' _ hW => .inl (.inl (hW.2 _ _ ea))) (fun i x H' hx' hW => ?_) (fun H' hW => ?_)
    · obtain ⟨eD, sm⟩ := hW
      obtain ⟨y, rfl, ey⟩ : ∃ y, x = .str y ∧ xs[i]? = some y := by
        rw [List.getElem?_map] at hx'
        cases e : xs[i]? with
        | none => rw [e] at hx'; cases hx'
        | some y => rw [e] at hx'; exact ⟨y, (Option.some.inj hx').symm, rfl⟩
      have hi : i < xs.length := (List.getElem?_eq_some_iff.mp ey).1
      have tk : xs.take (i + 1) = xs.take i ++ [y] := by rw [List.take_add_one, ey]; rfl
      have eL1 := sm _ _ eL
      have hG1 := hG.same sm
      refine ⟨rfl, ?_⟩
      refine ⟨_, rfl, L, rfl, ⟨_, .inl (.inl eL1)⟩, fun D2 nD2 => ?_⟩
      refine lc_list (K := K) (a := L) (xs := as.map V.ref) (fun j H2 => ∃ bs : List Addr, H2 D2 = some (.lst (bs.map V.ref)) ∧ GL H2 bs ((gs.take j).filter fun g => decide (y ∈ g)) ∧ Same H' H2) ⟨[], upd_same, .nil, sUpd nD2⟩ (fun j H2 _ hW => by obtain ⟨bs, _, _, s2⟩ := hW; exact .inl (.inl (s2 _ _ eL1))) (fun j z H2 hz hW => ?_) (fun H2 hW => ?_)
      · obtain ⟨bs, eD2, hB, sm2⟩ := hW
        obtain ⟨t, rfl, et⟩ : ∃ t, z = .ref t ∧ as[j]? = some t := by
          rw [List.getElem?_map] at hz
          cases e : as[j]? with
          | none => rw [e] at hz; cases hz
          | some y => rw [e] at hz; exact ⟨y, (Option.some.inj hz).symm, rfl⟩
        obtain ⟨g, eg, tg⟩ := hG1.get et
        have tg2 : TS H2 t g := sm2 _ _ tg
        have tkg : gs.take (j + 1) = gs.take j ++ [g] := by rw [List.take_add_one, eg]; rfl
        refine ⟨rfl, ?_⟩
        refine ⟨_, rfl, _, rfl, t, _, rfl, .inr (.inl (.inl tg2)), rfl, flat_strs _, _, rfl, ?_⟩
        rw [inV_str]
        by_cases hn : y ∈ g
        · rw [decide_eq_true hn]
          refine iteT ?_
          refine ⟨_, rfl, _, eD2, ?_, bs ++ [t], by rw [upd_same, List.map_append]; rfl, ?_, sFill sm2 nD2⟩
          · have z1 := hB.length
            have z2 := List.length_filter_le (fun g => decide (y ∈ g)) (gs.take j)
            have z3 : (gs.take j).length ≤ gs.length := (List.take_sublist j gs).length_le
            rw [List.length_map, sizeLine_eq]
            omega
          · rw [tkg, List.filter_append, List.filter_cons_of_pos (by simp [hn])]
            exact GL.app (GL.tp hB (Tp.lst eD2)) (.cons (Tp.lst eD2 _ _ tg2) .nil)
        · rw [decide_eq_false hn]
          refine iteF ?_
          refine ⟨bs, eD2, ?_, sm2⟩
          rw [tkg, List.filter_append, List.filter_cons_of_neg (by simp [hn])]
          simpa using hB
      · obtain ⟨bs, eD2, hB, sm2⟩ := hW
        rw [List.length_map, hG.length, List.take_length] at hB
        refine ⟨Nat.zero_le _, fun o no => ?_⟩
        have eD2' : (upd H2 o (.lst [])) D2 = some (.lst (bs.map V.ref)) := by
          rw [upd_ne (ne_of_none eD2 no)]
          exact eD2
        have hB' := GL.same hB (sUpd (o := .lst []) no)
        refine ⟨_, .list [], .lst (.inl (.inl eD2')) (dp_GL hB'), .lst (.inl (.inl upd_same)) .nil, sh_dTsl _ (fun g hg => hok g (List.mem_filter.mp hg).1), rfl, _, rfl, ?_⟩
        rw [eqv_lnil]
        have em : (dTs (gs.filter fun g => decide (y ∈ g))).isEmpty = (gs.filter fun g => decide (y ∈ g)).isEmpty := by
          unfold dTs
          cases gs.filter fun g => decide (y ∈ g) <;> rfl
        rw [em]
        have sm4 : Same H' (upd H2 o (.lst [])) := sm2.trans (sUpd no)
        have eu : unE gs (xs.take (i + 1)) = unE gs (xs.take i) ++ if (!(gs.filter fun g => decide (y ∈ g)).isEmpty) = true then [y] else [] := by
          unfold unE
          rw [tk, List.filter_append, List.filter_cons, List.filter_nil]
        rw [eu]
        by_cases hb : (!(gs.filter fun g => decide (y ∈ g)).isEmpty) = true
        · rw [hb]
          refine iteT ?_
          refine ⟨_, rfl, _, sm4 _ _ eD, ?_, by rw [upd_same, if_pos rfl, List.map_append]; rfl, sFill (sm.trans sm4) nD⟩
          rw [List.length_map, sizeLine_eq]
          have z1 : (unE gs (xs.take i)).length ≤ (xs.take i).length := List.length_filter_le _ _
          have z2 : (xs.take i).length ≤ i := List.length_take_le _ _
          omega
        · rw [Bool.eq_false_iff.mpr hb]
          refine iteF ?_
          refine ⟨?_, sm.trans sm4⟩
          rw [if_neg Bool.false_ne_true, List.append_nil]
          exact sm4 _ _ eD
    · obtain ⟨eD, sm⟩ := hW
      rw [List.length_map, List.take_length] at eD
      refine ⟨D, _, rfl, .inl ⟨.inl (.inl eD), fun t nt => ?_⟩⟩
      exact q _ t (sm.free nt) upd_same (sm.trans (sUpd nt))
end
end Lk
set_option maxRecDepth 100000
set_option maxHeartbeats 2000000
namespace Lk
open PySem PySem.Spec PyProof.Rows L2
/-! ### a call with keywords only -/
section
variable {X : Cx} {CX : CXT} {k : Nat} {f : Addr} {fd : FuncData} {ps ks : List Str} {sp : Sp} {E : XK} {x : Str} {p pos : Pos} {kws : List Keyword} {tk : TA} {g : List Value → List Value → List Value} {gV : List V → List V → List V}
theorem pe_callK0 (F : FnOk X.prog X.w X.K X.mg X.base CX k f fd ps sp) (hr : Room k X.A) (hg : Gl X x) (hm : X.mg x = some (.ref f)) (hk : PySem.W.keepIn X.K (.ref f) = true) (hb : KBinds X.K fd ps ks g gV) (hx : Passes CX X E)
    (hkw : PK X kws tk) (hall : (backToKw pos (keywordEach kws X.env)).all (·.1.isSome) = true := by rfl) (hks : (backToKw pos (keywordEach kws X.env)).filterMap (·.1) = ks := by rfl) (hdb : (x == ("__debug__" : Str)) = false := by decide)
    (hpl : ((backTo pos (starEach [] X.env)).any (·.1) || (backToKw pos (keywordEach kws X.env)).any (·.1.isNone)) = false := by rfl) :
    PE X (.Call (.Name x p) [] kws pos) (tCallK sp gV E tNil tk) := by
  refine ⟨fun pins s σ H Q I h => ?_⟩
  refine wpAny_Call_Name_kw (ld_glob I hg hm ?_ hdb)
  refine PySem.W.callWith_KW0 (h₀ := X.base) I.ok.mod.kin hk hall (thn (hkw.run pos pins s σ H _ I h) fun ws s2 ⟨zs, H2, I2, rz, q2⟩ => ⟨I2.kIn, ?_⟩) hpl
  rw [hks]
  exact run_fnk F hr hb hx I2 .nil rz q2
end
/-! ### repr of data -/
def rRepr (K : PySem.W.Frag) : List V → Hp → VK → Prop := fun xs H Q => ∃ (a : Addr) (d : PyData), xs = [.ref a] ∧ Dp K H (.ref a) d ∧ d.showable = true ∧ d.hasDict = false ∧ d.depth ≤ 30 ∧ d.shown.length ≤ sizeLine ∧ Q (.str d.shown) H
theorem cr_repr {X : Cx} {k : Nat} (hr : Room k X.A) (hg : X.A.guards = some []) : CallR X (.builtin "repr") (rRepr X.K) := by
  intro pins s σ H xs us Q I r h
  obtain ⟨a, d, rfl, hd, h1, h2, h3, h4, q⟩ := h
  obtain ⟨u, rfl, ru⟩ := vals1 r
  obtain rfl : u = Value.ref a := ru
  obtain ⟨as, rd⟩ := Dp.reads I d (.ref a) (.ref a) hd rfl
  refine repr_of_reads' rd h1 (PySem.PyData.noDict_hsm h2) hg (by have := hr.un; omega) (fun b o e => e) (fun h' u tk hk => ?_) h4
  exact ⟨.str d.shown, H, I.kept (t' := tk) hk, ⟨u, rfl⟩, q⟩
/-! ### a def that wants the guards to be none -/
structure FnG (P : Program) (w : World) (K : PySem.W.Frag) (mg : Str → Option Value) (base : Heap) (k : Nat) (f : Addr) (fd : FuncData) (ps : List Str) (sp : Sp) : Prop where
  len : ∀ vs H Q E, sp vs H Q E → vs.length = ps.length
  run : ∀ (A : Around) (outer : List Env) (s : Shared) (H : Hp) (args : Args) (us : List Value) (vs : List V) (Q : VK) (E : XK), Room k A → A.guards = some [] → Env0 P w K mg base A outer s H → BindsTo s fd args (ps.zip us) → Vals vs us → sp vs H Q E →
    codeAny (model P w) A (.call (.ref f) args) (CR CX0 outer P w H s Q E) s
section
variable {P : Program} {w : World} {K : PySem.W.Frag} {mg : Str → Option Value} {base : Heap}
theorem Fun.okG {x : Str} {st : Stmt} {f : Addr} {fd : FuncData} {N ps : List Str} {k : Nat} {sp : Sp} (F : Fun K x x st f fd) (S : FnScope N ps (defScope st)) (len : ∀ vs H Q E, sp vs H Q E → vs.length = ps.length)
    (hbody : ∀ (cdv : Value) (A : Around) (outer : List Env) (s : Shared) (H : Hp) (vs : List V) (Q : VK) (E : XK), Room k (A.deeper (envOfC x (defScope st) s.heap.objs.size f cdv)) → (A.deeper (envOfC x (defScope st) s.heap.objs.size f cdv)).guards = some [] → sp vs H Q E →
      ∃ t, PSs (cxOf CX0 P w K mg base N x (defScope st) f cdv A outer s H E).nox (defBody st) t ∧ t { nx := fun _ H' => Q .non H', rt := Q } (start N vs) H) : FnG P w K mg base (k + 1) f fd ps sp := by
  obtain ⟨oc, od, kV, doc, pm, an, cdv, ct, osl, rfl, lk, hcd⟩ := F.ex
  refine ⟨len, fun A outer s H args us vs Q E hr hgu e0 hb r hsp => ?_⟩
  have KX : K.In s.heap := e0.mod.kin.keeps fun b o e => (e0.bs b o e).1
  refine codeAny_call_function hr.depth (KX _ _ lk) rfl S.co S.gen rfl (PySem.W.codeRec_of KX hcd) (hb _ _ _ _ ?_)
  refine wpAny_newFunctionEnv_cells S.kind (fun y hy => (S.par y.1 (List.of_mem_zip hy).1).imp id fun q => ⟨q, PySem.W.cellsFrom_some _ _ _ (.inl q)⟩) fun env he s1 x => ?_
  subst he
  refine ⟨(e0.mod.nolimit.keeps fun b o e => (e0.bs b o e).1).keeps x.toInCall.keep, codeAny_func ?_⟩
  obtain ⟨t, ht, hq⟩ := hbody cdv A outer s H vs Q E (hr.deeper _) hgu hsp
  refine wpAny_mono (ht.nox.run [] s1 (start N vs) H _ (inv_start S hr.hd e0 (len _ _ _ _ hsp) r x) hq) (fun fl s' hs => ?_) fun e s' hs => hs
  cases fl with
  | ret u =>
    obtain ⟨v, σ', H', J, rv, q⟩ := hs
    exact ⟨v, H', J.os, J.bare, J.base, J.hok, rv, q⟩
  | next =>
    obtain ⟨σ', H', J, q⟩ := hs
    exact ⟨V.non, H', J.os, J.bare, J.base, J.hok, (rfl : RelV V.non Value.none), q⟩
  | brk => exact hs.elim fun _ z => z.elim fun _ z => z.2.elim
  | cont => exact hs.elim fun _ z => z.elim fun _ z => z.2.elim
end
/-! ### a call of such a def -/
section
variable {X : Cx} {k : Nat} {f : Addr} {fd : FuncData} {ps : List Str} {sp : Sp} {E : XK} {x : Str} {p pos : Pos} {e : Expr} {es : List Expr} {t : TA}
theorem pe_callG (F : FnG X.prog X.w X.K X.mg X.base k f fd ps sp) (hr : Room k X.A) (hgu : X.A.guards = some []) (hg : Gl X x) (hm : X.mg x = some (.ref f)) (hk : PySem.W.keepIn X.K (.ref f) = true) (hb : Binds X.K fd ps []) (hx : Passes CX0 X E)
    (ha : PA X (e :: es) t) (hdb : (x == ("__debug__" : Str)) = false := by decide) (he : starEach (e :: es) X.env = (false, eval e X.env) :: starEach es X.env := by rfl) (hpl : (backTo pos (starEach es X.env)).any (·.1) = false := by rfl) :
    PE X (.Call (.Name x p) (e :: es) [] pos) (tCall sp [] E t) := by
  refine ⟨fun pins s σ H Q I h => ?_⟩
  refine wpAny_Call_Name_kw (ld_glob I hg hm ?_ hdb)
  refine PySem.W.callWith_K (h₀ := X.base) I.ok.mod.kin hk (thn (ha.run pos pins s σ H _ I h) fun us s1 ⟨vs, H1, I1, r, q⟩ => ⟨I1.kIn, ?_⟩) he hpl
  have q : sp (vs ++ []) H1 Q E := q
  rw [List.append_nil] at q
  have hl : us.length = ps.length := by rw [← r.length]; exact F.len _ _ _ _ q
  have hb' := hb s1 us I1.kIn (by rw [List.append_nil]; exact hl)
  rw [List.append_nil] at hb'
  refine wpAny_call (codeAny_mono (F.run X.A X.stack s1 H1 ⟨us, []⟩ us vs Q E hr hgu I1.env0 hb' r q) fun r s' hq => ?_)
  cases r with
  | error e => exact hx pins σ H1 s1 e s' I1 hq
  | ok fl =>
    cases fl with
    | ret u => exact I1.after hq
    | next => exact False.elim hq
    | brk => exact False.elim hq
    | cont => exact False.elim hq
end
end Lk
set_option maxRecDepth 100000
set_option maxHeartbeats 2000000
namespace Lk
open PySem PySem.Spec PyProof.Rows L2 LamX
/-- what stands tracked ahead of the law: the script (unless K holds it) and the defs' empty tables -/
structure Track (K : PySem.W.Frag) (h : Heap) (H : Hp) (cs : List (Addr × Addr)) (a : Addr) (ns : List Int) : Prop where
  tab : ∀ p ∈ cs, H p.2 = some (.tbl #[])
  seq : SqL K H a (ns.map V.int)
  cls : ∀ b u, H b = some u → (b ∈ cs.map (·.2) ∧ u = .tbl #[]) ∨ (∃ o xs, u = .frz o (.lst xs)) ∧ b = a ∧ K.lookup a = none
theorem track_of {K : PySem.W.Frag} {h : Heap} {cs : List (Addr × Addr)} {a : Addr} {vs : List Value} {ns : List Int} (KX : K.In h) (ha : h.get? a = some { cls := .type "list", data := .seq vs.toArray }) (hi : IntsAre vs ns) (hl : ns.length ≤ sizeLine)
    (hT : ∀ p ∈ cs, h.get? p.2 = some { cls := .none, data := .fields #[] }) {P : Program} {w : World} : ∃ H : Hp, Track K h H cs a ns ∧ HOk P w H h := by
  have rv := vals_ints hi
  have aT : a ∉ cs.map (·.2) := fun z => by
    obtain ⟨p, hp, e⟩ := List.mem_map.mp z
    have q := hT p hp
    rw [e, ha] at q
    cases congrArg Obj.data (Option.some.inj q)
  have hTb : ∀ b, b ∈ cs.map (·.2) → h.get? b = some { cls := .none, data := .fields #[] } := fun b hb => by
    obtain ⟨p, hp, e⟩ := List.mem_map.mp hb
    rw [← e]
    exact hT p hp
  have tT : ∀ p ∈ cs, p.2 ∈ cs.map (·.2) := fun p hp => List.mem_map.mpr ⟨p, hp, rfl⟩
  cases hk : K.lookup a with
  | some o =>
    have e := KX a o hk
    rw [ha] at e
    cases e
    refine ⟨fun b => if b ∈ cs.map (·.2) then some (.tbl #[]) else none, ⟨fun p hp => if_pos (tT p hp), .inr ⟨_, vs.toArray, _, hk, rfl, rfl, rfl, by rw [List.size_toArray, hi.length]; exact hl, by simpa using rv⟩, fun b u z => ?_⟩, fun b u z => ?_⟩
    · by_cases hb : b ∈ cs.map (·.2)
      · exact .inl ⟨hb, (Option.some.inj ((if_pos hb).symm.trans z)).symm⟩
      · cases (if_neg hb).symm.trans z
    · by_cases hb : b ∈ cs.map (·.2)
      · cases (if_pos hb).symm.trans z
        exact hTb b hb
      · cases (if_neg hb).symm.trans z
  | none =>
    refine ⟨fun b => if b ∈ cs.map (·.2) then some (.tbl #[]) else if b = a then some (.frz { cls := .type "list", data := .seq vs.toArray } (.lst (ns.map V.int))) else none, ⟨fun p hp => if_pos (tT p hp), .inl (.inr ⟨{ cls := .type "list", data := .seq vs.toArray }, (if_neg aT).trans (if_pos rfl)⟩), fun b u z => ?_⟩, fun b u z => ?_⟩
    · by_cases hb : b ∈ cs.map (·.2)
      · exact .inl ⟨hb, (Option.some.inj ((if_pos hb).symm.trans z)).symm⟩
      · by_cases hb2 : b = a
        · cases ((if_neg hb).trans (if_pos hb2)).symm.trans z
          exact .inr ⟨⟨_, _, rfl⟩, hb2, hk⟩
        · cases ((if_neg hb).trans (if_neg hb2)).symm.trans z
    · by_cases hb : b ∈ cs.map (·.2)
      · cases (if_pos hb).symm.trans z
        exact hTb b hb
      · by_cases hb2 : b = a
        · cases ((if_neg hb).trans (if_pos hb2)).symm.trans z
          rw [hb2]
          exact ⟨ha, by rw [List.length_map]; exact hl, vs, _, rv, ha⟩
        · cases ((if_neg hb).trans (if_neg hb2)).symm.trans z
theorem law_G {P : Program} {w : World} {K : PySem.W.Frag} {mg mb : Str → Option Value} {k : Nat} {fa a : Addr} {cs : List (Addr × Addr)} {fd : FuncData} {x : Str} {sp : Sp} {s₁ : Shared} {vs : List Value} {ns : List Int}
    (KX : K.In s₁.heap) (hns : s₁.heap.Ns mainGlobals mg) (hb : s₁.heap.Ns builtinsNs mb) (hbb : ∀ x : Str, x ≠ "__name__" → mb x = bootBuiltins x) (hlim : s₁.heap.NoLimit) (hg : s₁.gens = #[])
    (hT : ∀ p ∈ cs, s₁.heap.get? p.2 = some { cls := .none, data := .fields #[] }) (nT : ∀ p ∈ cs, K.lookup p.2 = none) (C : ∀ p ∈ cs, PySem.W.CodeHd s₁.heap p.1 p.2)
    (hbm : ∃ (bm : Addr) (ob : Obj), mg "__builtins__" = some (.ref bm) ∧ bm ≠ builtinsNs ∧ s₁.heap.get? bm = some ob ∧ ob.cls = .type "module" ∧ ob.dict = some builtinsNs ∧ ob.data = .plain)
    (ha : s₁.heap.get? a = some { cls := .type "list", data := .seq vs.toArray }) (hi : IntsAre vs ns) (hl : ns.length ≤ sizeLine) (hr : Room k callerA)
    (F : ∀ base : Heap, K.In base → base.Ns mainGlobals mg → (∀ p ∈ cs, TabB base mg p.1 p.2) → FnG P w K mg base k fa fd [x] sp) (hbind : ∀ (s : Shared) (u : Value), BindsTo s fd ⟨[u], []⟩ [(x, u)])
    (hsp : ∀ H : Hp, (∀ p ∈ cs, H p.2 = some (.tbl #[])) → SqL K H a (ns.map V.int) → sp [.ref a] H (fun v _ => v = .bl true) fun _ _ _ => False) :
    codeAny (model P w) callerA (.call (.ref fa) ⟨[.ref a], []⟩) (fun r s' => r = .ok (.ret (.bool true)) ∧ OldK s₁.heap s'.heap ∧ s'.os = s₁.os ∧ AllBare s'.gens) s₁ := by
  obtain ⟨H, T, hok⟩ := track_of (cs := cs) KX ha hi hl hT (P := P) (w := w)
  -- a thing whose data is neither a row nor empty is not tracked
  have fr : ∀ {b : Addr} {o : Obj}, s₁.heap.get? b = some o → (∀ vs n, o.data ≠ .seq vs n) → o.data ≠ .fields #[] → H b = none := fun {b o} e h1 h2 => by
    cases q : H b with
    | none => rfl
    | some u =>
      rcases T.cls b u q with ⟨hm, _⟩ | ⟨_, rfl, _⟩
      · obtain ⟨p, hp, ep⟩ := List.mem_map.mp hm
        have z := hT p hp
        rw [ep, e] at z
        exact (h2 (congrArg Obj.data (Option.some.inj z))).elim
      · rw [e] at ha
        exact (h1 _ _ (congrArg Obj.data (Option.some.inj ha))).elim
  have up : ∀ {b : Addr} {o : Obj}, s₁.heap.get? b = some o → (∀ vs n, o.data ≠ .seq vs n) → o.data ≠ .fields #[] → (hidT s₁.heap H).get? b = some o := fun e h1 h2 => hidT_get e (fr e h1 h2)
  have upN : ∀ {b : Addr} {m : Str → Option Value}, s₁.heap.Ns b m → (hidT s₁.heap H).Ns b m := fun {b m} ⟨o, es, ep, e, d, r⟩ =>
    ⟨o, es, ep, up e (fun vs n z => by rw [d] at z; cases z) (fun z => by rw [d] at z; cases z), d, r⟩
  have upK : K.In (hidT s₁.heap H) := fun b o e => hidT_get (KX b o e) (by
    cases q : H b with
    | none => rfl
    | some u =>
      rcases T.cls b u q with ⟨hm, _⟩ | ⟨_, rfl, z⟩
      · obtain ⟨p, hp, ep⟩ := List.mem_map.mp hm
        rw [← ep, nT p hp] at e
        cases e
      · rw [z] at e
        cases e)
  have TB : ∀ p ∈ cs, TabB (hidT s₁.heap H) mg p.1 p.2 := fun p hp => by
    have hTp := hT p hp
    obtain ⟨og, esg, epg, eg, dg, _⟩ := id hns
    refine ⟨?_, ?_, fun z => ?_⟩
    · obtain ⟨o, us, file, tf, flags, tg, inF, text, tt, e1, r1, r2, r3, rest⟩ := C p hp
      exact ⟨o, us, file, tf, flags, tg, inF, text, tt, up e1 (fun vs n z => by rw [r2] at z; cases z) (fun z => by rw [r2] at z; cases z; simp at r3), r1, r2, r3, rest⟩
    · obtain ⟨bm, ob, b1, b2, b3, b4, b5, b6⟩ := hbm
      refine ⟨bm, ob, b1, b2, fun q => ?_, fun q => ?_, up b3 (fun vs n z => by rw [b6] at z; cases z) (fun z => by rw [b6] at z; cases z), b4, b5, b6⟩
      · rw [q, eg] at b3
        cases b3
        rw [dg] at b6
        cases b6
      · rw [q, hTp] at b3
        cases b3
        cases b6
    · rw [z, hTp] at eg
      cases eg
      cases dg
  have e0 : Env0 P w K mg (hidT s₁.heap H) callerA [] s₁ H := ⟨rfl, ⟨upK, upN hns, ⟨mb, upN hb, hbb⟩, let ⟨mc, h1, h2⟩ := hlim; ⟨mc, upN h1, h2⟩⟩, fun b o e => of_hidT e, Nat.le_of_eq (hidT_size _ _), trivial, fun b hb => absurd (show b ∈ ([] : List Addr) from hb) (by simp), hok, .of_eq hg⟩
  refine codeAny_mono ((F _ upK (upN hns) TB).run callerA [] s₁ H ⟨[.ref a], []⟩ [.ref a] [.ref a] _ _ hr rfl e0 (hbind s₁ (.ref a)) (.cons rfl .nil) (hsp H T.tab T.seq)) fun r s' h => ?_
  cases r with
  | error e => exact (show False from h).elim
  | ok fl =>
    obtain ⟨u, rfl⟩ : ∃ u, fl = .ret u := by
      cases fl with
      | ret u => exact ⟨u, rfl⟩
      | next => exact False.elim h
      | brk => exact False.elim h
      | cont => exact False.elim h
    obtain ⟨v, H', os, bare, un, hok', r', q⟩ := h
    obtain rfl : v = .bl true := q
    obtain rfl : u = Value.bool true := r'
    have same : ∀ b o, b ∉ cs.map (·.2) → s₁.heap.get? b = some o → s'.heap.get? b = some o := fun b o nb e => by
      cases q : H b with
      | none => exact un.keep b o e q (by intro z; exact absurd (show b ∈ ([] : List Addr) from z) (by simp)) (by simp)
      | some u =>
        rcases T.cls b u q with ⟨z, _⟩ | ⟨⟨ob, xs, rfl⟩, _⟩
        · exact absurd z nb
        · obtain ⟨e1, _⟩ := hok b _ q
          obtain ⟨e2, _⟩ := hok' b _ (un.frzs b ob _ q)
          rw [e] at e1
          cases e1
          exact e2
    have more : ∀ b, b ∈ cs.map (·.2) → ∃ p ∈ cs, p.2 = b ∧ ∃ ps : Array Value, s'.heap.get? b = some { cls := .none, data := .fields ps } := fun b hb => by
      obtain ⟨p, hp, ep⟩ := List.mem_map.mp hb
      obtain ⟨ps, z⟩ := un.tbls p.2 #[] (T.tab p hp)
      exact ⟨p, hp, ep, _, by rw [← ep]; exact hok' p.2 _ z⟩
    refine ⟨rfl, ⟨fun b o e => ?_, fun b o e => ?_⟩, os, bare⟩
    · by_cases hb : b ∈ cs.map (·.2)
      · obtain ⟨p, hp, ep, ps, hm⟩ := more b hb
        have e' := hT p hp
        rw [ep, e] at e'
        cases e'
        exact .inr (.inl ⟨by rw [← ep]; exact ((C p hp).tab (hT p hp)).isCodeTable, rfl, #[], ps, rfl, by rw [Array.empty_append]; exact hm⟩)
      · exact .inl (same b o hb e)
    · by_cases hb : b ∈ cs.map (·.2)
      · obtain ⟨_, _, _, ps, hm⟩ := more b hb
        exact ⟨_, hm⟩
      · exact ⟨o, same b o hb e⟩
/-- what is known of the law's promise at the head's heap -/
def LawAtG (l : PySem.W.OpenLaw) (w : World) (K : PySem.W.Frag) (k n : Nat) (x : Str) (mg : Str → Option Value) (fa : Addr) (h : Heap) : Prop :=
  ∃ (fd : FuncData) (cs : List (Addr × Addr)) (sp : Sp), (∀ p ∈ cs, h.get? p.2 = some { cls := .none, data := .fields #[] }) ∧ (∀ p ∈ cs, K.lookup p.2 = none) ∧ (∀ p ∈ cs, PySem.W.CodeHd h p.1 p.2) ∧ (∀ (s : Shared) (u : Value), BindsTo s fd ⟨[u], []⟩ [(x, u)]) ∧
    (∀ (H : Hp) (a : Addr) (ns : List Int), ns.length ≤ n → (∀ z ∈ ns, Builtin.Int.intBits z ≤ 1048576) → (∀ p ∈ cs, H p.2 = some (.tbl #[])) → SqL K H a (ns.map V.int) → sp [.ref a] H (fun v _ => v = .bl true) fun _ _ _ => False) ∧
    ∀ base : Heap, K.In base → base.Ns mainGlobals mg → (∀ p ∈ cs, TabB base mg p.1 p.2) → FnG l.prog w K mg base k fa fd [x] sp
theorem walk_G {l : PySem.W.OpenLaw} {n k : Nat} {q : Program} {loose : List Str} {XP : (Str → Option Value) → Heap → Prop} {YP : World → Heap → Prop} {d : DefRec} {K : Params → PySem.W.Frag} {x : Str}
    (hn : l.most = some n) (hn2 : n ≤ sizeLine) (hdf : d.params.defaults = []) (hr : Room k callerA) (hY : ∀ (w : World) (h : Heap), YP w h → (K w.params).In h)
    (F : ∀ (w : World) (mg : Str → Option Value) (fa : Addr) (h : Heap), YP w h → (K w.params).In h → h.Ns mainGlobals mg → mg d.name = some (.ref fa) →
      (∀ (y : Str) (f : Addr), ((recsOf q).any fun e => e.name == y) = true → mg y = some (.ref f) → OwnTab (K w.params) f h) → LawAtG l w (K w.params) k n x mg fa h) :
    PySem.W.WalkO q loose XP YP l.row.toRowW d [] (fun f vs => PySem.call f vs) := by
  refine Att.attach_callB hn hdf fun w s₀ s₁ mg mb fa o pm cd doc a vs ns G Y ho hd hcd hmg hobj hints hlen hbits hg => ?_
  have KX := hY w _ Y
  have tabs : ∀ (y : Str) (f : Addr), ((recsOf q).any fun e => e.name == y) = true → mg y = some (.ref f) → OwnTab (K w.params) f s₁.heap := by
    intro y f hy hf c P o1 fd1 e dd vs1 sl k1 k2 k3 k4 k5
    obtain ⟨dL, hm, hn1⟩ := List.any_eq_true.mp hy
    obtain ⟨a', o', fd', c', P', h1, h2, h3, h4, h5, h6⟩ := G.T.tab dL hm
    rw [beq_iff_eq.mp hn1, hf] at h1
    cases h1
    have g1 := KX _ _ k1
    rw [g1] at h2
    cases h2
    rw [k2] at h3
    cases h3
    rw [k3] at h4
    cases h4
    obtain ⟨⟨oc, vc, e1, _, e3, e4⟩, hP⟩ := h6
    have g2 := KX _ _ k4
    rw [g2] at e1
    cases e1
    cases e3
    rw [k5] at e4
    cases e4
    exact hP
  obtain ⟨fd, cs, sp, hT, nT, C, hb, hsp, hF⟩ := F w mg fa _ Y KX G.T.g hmg tabs
  exact law_G KX G.T.g G.T.b G.T.builtins G.T.nolimit hg hT nT C G.T.bmain hobj hints (Nat.le_trans hlen hn2) hr hF hb fun H hH hS => hsp H a ns hlen hbits hH hS
end Lk
set_option maxRecDepth 100000
set_option maxHeartbeats 2000000
namespace Lk
open PySem PySem.Spec PyProof.Rows L2
/-! ### how long the text of data is -/
theorem textFrom_le : ∀ (ts : List Str) (k : Nat) (acc : Str), (textFrom k acc ts).length ≤ acc.length + piled ts
  | [], _, acc => by show acc.length ≤ _; omega
  | t :: r, k, acc => by
    have ih := textFrom_le r (k + 1) (acc ++ (if k > 0 then ", " else "" : String) ++ t)
    have e : (acc ++ (if k > 0 then ", " else "" : String) ++ t).length ≤ acc.length + 2 + t.length := by
      rw [strLen_append, strLen_append]
      have : ((if k > 0 then ", " else "" : String) : Str).length ≤ 2 := by split <;> decide
      omega
    show (textFrom (k + 1) _ r).length ≤ _
    rw [piled_cons]
    omega
theorem listText_le (ts : List Str) : (listText ts).length ≤ 2 + piled ts := by
  have := textFrom_le ts 0 "["
  unfold listText
  rw [strLen_append]
  have e1 : (("[" : String) : Str).length = 1 := rfl
  have e2 : (("]" : String) : Str).length = 1 := rfl
  omega
theorem tupleText_le (ts : List Str) : (tupleText ts).length ≤ 3 + piled ts := by
  unfold tupleText
  rw [strLen_append, strLen_append]
  have e1 : ((("(" : String) : Str)).length = 1 := rfl
  have e3 : (((if ts.length == 1 then ",)" else ")" : String) : Str)).length ≤ 2 := by split <;> decide
  rw [e1]
  by_cases h : ts = []
  · subst h
    have : (Str.join ", " []).length = 0 := rfl
    omega
  · have := join_length_add ts h
    omega
theorem piled_le {B : Nat} : ∀ ts : List Str, (∀ t ∈ ts, t.length ≤ B) → piled ts ≤ ts.length * (B + 2)
  | [], _ => Nat.zero_le _
  | t :: r, h => by
    have ih := piled_le r fun x hx => h x (List.mem_cons_of_mem _ hx)
    have := h t (List.mem_cons_self ..)
    rw [piled_cons, List.length_cons, Nat.add_mul, Nat.one_mul]
    omega
theorem shownAll_map : ∀ ds : List PyData, PyData.shownAll ds = ds.map PyData.shown
  | [] => rfl
  | d :: r => by rw [PyData.shownAll, shownAll_map r]; rfl
theorem showableAll_all : ∀ ds : List PyData, PyData.showableAll ds = ds.all PyData.showable
  | [] => rfl
  | d :: r => by rw [PyData.showableAll, showableAll_all r]; rfl
theorem hasDictAll_any : ∀ ds : List PyData, PyData.hasDictAll ds = ds.any PyData.hasDict
  | [] => rfl
  | d :: r => by rw [PyData.hasDictAll, hasDictAll_any r]; rfl
/-- data that repr can show, its text at most n long -/
structure Shw (d : PyData) (n : Nat) : Prop where
  ok : d.showable = true
  nd : d.hasDict = false
  le : d.shown.length ≤ n
theorem Shw.mono {d : PyData} {n m : Nat} (h : Shw d n) (l : n ≤ m) : Shw d m := ⟨h.ok, h.nd, Nat.le_trans h.le l⟩
theorem shw_str {x : Str} (h : IsNm x) : Shw (.str x) 62 := by
  refine ⟨rfl, rfl, ?_⟩
  have z := PySem.StrLaws.reprText_len x fun c hc => by
    have z := h.2.2 c hc
    have : (16 : Nat) ^ 8 = 4294967296 := by decide
    omega
  have := h.2.1
  show (reprText x).length ≤ 62
  omega
theorem shw_all {ds : List PyData} {n : Nat} (h : ∀ d ∈ ds, Shw d n) : PyData.showableAll ds = true ∧ PyData.hasDictAll ds = false ∧ piled (PyData.shownAll ds) ≤ ds.length * (n + 2) := by
  refine ⟨?_, ?_, ?_⟩
  · rw [showableAll_all, List.all_eq_true]
    exact fun d hd => (h d hd).ok
  · rw [hasDictAll_any, List.any_eq_false]
    intro d hd
    rw [(h d hd).nd]
    exact Bool.false_ne_true
  · have z := piled_le (B := n) (PyData.shownAll ds) fun t ht => by
      rw [shownAll_map] at ht
      obtain ⟨d, hd, rfl⟩ := List.mem_map.mp ht
      exact (h d hd).le
    rw [shownAll_map, List.length_map] at z
    rw [shownAll_map]
    exact z
theorem shw_list {ds : List PyData} {n m : Nat} (h : ∀ d ∈ ds, Shw d n) (l : ds.length ≤ m) : Shw (.list ds) (3 + m * (n + 2)) := by
  obtain ⟨h1, h2, h3⟩ := shw_all h
  refine ⟨by rw [PyData.showable]; exact h1, by rw [PyData.hasDict]; exact h2, ?_⟩
  rw [PyData.shown]
  have := listText_le (PyData.shownAll ds)
  have z : ds.length * (n + 2) ≤ m * (n + 2) := Nat.mul_le_mul_right _ l
  omega
theorem shw_tup {ds : List PyData} {n m : Nat} (h : ∀ d ∈ ds, Shw d n) (l : ds.length ≤ m) : Shw (.tuple ds) (3 + m * (n + 2)) := by
  obtain ⟨h1, h2, h3⟩ := shw_all h
  refine ⟨by rw [PyData.showable]; exact h1, by rw [PyData.hasDict]; exact h2, ?_⟩
  rw [PyData.shown]
  have := tupleText_le (PyData.shownAll ds)
  have z : ds.length * (n + 2) ≤ m * (n + 2) := Nat.mul_le_mul_right _ l
  omega
def NmS (xs : List Str) : Prop := xs.length ≤ 12 ∧ ∀ x ∈ xs, IsNm x
theorem shw_dT {xs : List Str} (h : NmS xs) : Shw (dT xs) 1000 := by
  refine (shw_tup (n := 62) (m := 12) (fun d hd => ?_) (by rw [dS, List.length_map]; exact h.1)).mono (by omega)
  obtain ⟨x, hx, rfl⟩ := List.mem_map.mp hd
  exact shw_str (h.2 x hx)
theorem shw_dTs {gs : List (List Str)} (h : ∀ g ∈ gs, NmS g) : ∀ d ∈ dTs gs, Shw d 1000 := fun d hd => by
  obtain ⟨g, hg, rfl⟩ := List.mem_map.mp hd
  exact shw_dT (h g hg)
theorem shw_bool (b : Bool) : Shw (.bool b) 1000 := by
  refine ⟨rfl, rfl, ?_⟩
  cases b <;> decide
theorem shw_int {i : Int} (h : i ∈ [2, 3, 5, 7, 101, 997, 499, 11]) : Shw (.int i) 1000 := by
  have key : ∀ i ∈ ([2, 3, 5, 7, 101, 997, 499, 11] : List Int), (PyData.int i).showable = true ∧ (PyData.int i).shown.length ≤ 1000 := by decide +kernel
  exact ⟨(key i h).1, rfl, (key i h).2⟩
theorem NmS.sub {xs ys : List Str} (h : NmS xs) (s : ys.Sublist xs) : NmS ys := ⟨Nat.le_trans s.length_le h.1, fun x hx => h.2 x (s.subset hx)⟩
theorem NmS.ok {xs : List Str} (h : NmS xs) : OkS xs := okS_nm h.2
/-- repr of data -/
theorem rr_of {K : PySem.W.Frag} {H : Hp} {a : Addr} {d : PyData} {n : Nat} {Q : VK} (hd : Dp K H (.ref a) d) (h : Shw d n) (hn : n ≤ 1000000) (dep : d.depth ≤ 30) (q : Q (.str d.shown) H) : rRepr K [.ref a] H Q :=
  ⟨a, d, rfl, hd, h.ok, h.nd, dep, Nat.le_trans h.le (by rw [sizeLine_eq]; omega), q⟩
end Lk
set_option maxRecDepth 100000
set_option maxHeartbeats 2000000
namespace Lk
open PySem PySem.Spec PyProof.Rows L2
/-! ### all but tables stands -/
def isTbl : HO → Bool
  | .tbl _ => true
  | _ => false
theorem TabG.same {T : Addr} {H H' : Hp} (h : GxR.TabG H T) (k : Same H H') : GxR.TabG H' T := by
  obtain ⟨ps, e, t⟩ := h
  exact ⟨ps, k _ _ e, t⟩
theorem TabG.off {T T2 : Addr} {H H' : Hp} (h : GxR.TabG H T2) (h1 : GxR.TabG H T) (k : GxR.Tabbed T H H') : GxR.TabG H' T2 := by
  by_cases e : T2 = T
  · rw [e]
    exact k.1
  · obtain ⟨ps, e1, t⟩ := h
    exact ⟨ps, by rw [k.2 _ e]; exact e1, t⟩
structure St (H H' : Hp) : Prop where
  k : ∀ b o, isTbl o = false → H b = some o → H' b = some o
  t : ∀ T, GxR.TabG H T → GxR.TabG H' T
theorem St.refl {H : Hp} : St H H := ⟨fun _ _ _ e => e, fun _ h => h⟩
theorem St.trans {H H1 H2 : Hp} (a : St H H1) (b : St H1 H2) : St H H2 := ⟨fun x o t e => b.k x o t (a.k x o t e), fun T h => b.t T (a.t T h)⟩
theorem Same.st {H H' : Hp} (k : Same H H') : St H H' := ⟨fun b o _ e => k b o e, fun T h => TabG.same h k⟩
theorem Tabbed.st {P : Addr} {H H' : Hp} (h : GxR.TabG H P) (k : GxR.Tabbed P H H') : St H H' := ⟨fun b o t e => by
  obtain ⟨ps, hP, _⟩ := h
  have : b ≠ P := fun z => by
    rw [z, hP] at e
    cases e
    cases t
  rw [k.2 b this]
  exact e, fun T h2 => TabG.off h2 h k⟩
theorem St.ts {H H' : Hp} {a : Addr} {xs : List Str} (k : St H H') (h : TS H a xs) : TS H' a xs := k.k _ _ rfl h
theorem GL.st {H H' : Hp} {as : List Addr} {gs : List (List Str)} (h : GL H as gs) (s : St H H') : GL H' as gs := Paired.mapP h fun t g q => s.ts q
theorem St.src {H H' : Hp} {p c : Addr} {n : Nat} (k : St H H') (h : Src H p c n) : Src H' p c n := by
  obtain ⟨g, kk, ns, e1, e2, r⟩ := h
  exact ⟨g, kk, ns, k.k _ _ rfl e1, k.k _ _ rfl e2, r⟩
theorem TabG.kp {T p c : Addr} {n : Nat} {H H' : Hp} (h : GxR.TabG H T) (s : Src H p c n) (k : Kp p c H H') : GxR.TabG H' T := by
  obtain ⟨ps, e, t⟩ := h
  obtain ⟨g, kk, ns, e1, e2, _⟩ := s
  exact ⟨ps, k _ _ (ne_of e e1 (by intro z; cases z)) (ne_of e e2 (by intro z; cases z)) e, t⟩
theorem TabG.new {T r : Addr} {o : HO} {H : Hp} (h : GxR.TabG H T) (n : H r = none) : GxR.TabG (upd H r o) T := TabG.same h (sUpd n)
/-! ### keywords -/
theorem Vals.rev {vs : List V} {us : List Value} (h : Vals vs us) : Vals vs.reverse us.reverse := by
  unfold Vals at h
  induction h with
  | nil => exact .nil
  | cons r _ ih =>
    rw [List.reverse_cons, List.reverse_cons]
    exact Vals.append ih (.cons r .nil)
section
variable {K : PySem.W.Frag} {f : Addr} {fd : FuncData}
theorem kb_union (F : Fun K "union" "union" sUn f fd) : KBinds K fd ["sets"] ["sets"] (fun us ws => us ++ ws) (fun vs zs => vs ++ zs) := by
  obtain ⟨oc, od, kV, doc, pm, an, cdv, ct, osl, rfl, lk, hcd⟩ := F.ex
  refine ⟨fun s us ws _ hl => .of_eq ?_, fun h1 h2 => h1.append h2⟩
  match us, ws, hl with
  | [], [_], _ => rfl
  | [_], [], _ => rfl
theorem kb_sub (F : Fun K "is_subset" "is_subset" sSub f fd) : KBinds K fd ["first", "second"] ["second", "first"] (fun us ws => us ++ ws.reverse) (fun vs zs => vs ++ zs.reverse) := by
  obtain ⟨oc, od, kV, doc, pm, an, cdv, ct, osl, rfl, lk, hcd⟩ := F.ex
  refine ⟨fun s us ws _ hl => .of_eq ?_, fun h1 h2 => h1.append (Vals.rev h2)⟩
  have hl : us.length + ws.length = 2 := by simpa using hl
  match us, ws, hl with
  | [], [_, _], _ => rfl
  | [_], [_], _ => rfl
  | [_, _], [], _ => rfl
  | [], [], h => simp at h
  | [], [_], h => simp at h
  | [], _ :: _ :: _ :: _, h => simp at h
  | [_], [], h => simp at h
  | [_], _ :: _ :: _, h => (simp only [List.length_cons, List.length_nil] at h; omega)
  | [_, _], _ :: _, h => (simp only [List.length_cons, List.length_nil] at h; omega)
  | _ :: _ :: _ :: _, _, h => (simp only [List.length_cons] at h; omega)
theorem kb_hol (F : Fun K "holders" "holders" sHol f fd) : KBinds K fd ["scheme", "index"] ["index", "scheme"] (fun us ws => us ++ ws.reverse) (fun vs zs => vs ++ zs.reverse) := by
  obtain ⟨oc, od, kV, doc, pm, an, cdv, ct, osl, rfl, lk, hcd⟩ := F.ex
  refine ⟨fun s us ws _ hl => .of_eq ?_, fun h1 h2 => h1.append (Vals.rev h2)⟩
  have hl : us.length + ws.length = 2 := by simpa using hl
  match us, ws, hl with
  | [], [_, _], _ => rfl
  | [_], [_], _ => rfl
  | [_, _], [], _ => rfl
  | [], [], h => simp at h
  | [], [_], h => simp at h
  | [], _ :: _ :: _ :: _, h => simp at h
  | [_], [], h => simp at h
  | [_], _ :: _ :: _, h => (simp only [List.length_cons, List.length_nil] at h; omega)
  | [_, _], _ :: _, h => (simp only [List.length_cons, List.length_nil] at h; omega)
  | _ :: _ :: _ :: _, _, h => (simp only [List.length_cons] at h; omega)
end
end Lk
set_option maxRecDepth 100000
set_option maxHeartbeats 2000000
namespace Lk
open PySem PySem.Spec PyProof.Rows L2
theorem cut2 (as : List Addr) : cutV (as.map V.ref) none (some 2) = (as.take 2).map V.ref := by
  unfold cutV
  rw [show HT.sIx (as.map V.ref).length 0 none = 0 from rfl, show HT.sIx (as.map V.ref).length (as.map V.ref).length (some 2) = min 2 (as.map V.ref).length from HT.sIx_nat _ _ 2, List.drop_zero, Nat.sub_zero, List.length_map, ← List.map_take]
  congr 1
  rcases Nat.le_total 2 as.length with h | h
  · rw [Nat.min_eq_left h]
  · rw [Nat.min_eq_right h, List.take_of_length_le (Nat.le_refl _), List.take_of_length_le h]
theorem asc_ext : ∀ {l m : List Str}, Asc l → Asc m → (∀ x, x ∈ l ↔ x ∈ m) → l = m
  | [], [], _, _, _ => rfl
  | [], b :: r, _, _, h => absurd ((h b).mpr (List.mem_cons_self ..)) (by simp)
  | a :: l, [], _, _, h => absurd ((h a).mp (List.mem_cons_self ..)) (by simp)
  | a :: l, b :: r, h1, h2, h => by
    obtain ⟨p1, q1⟩ := List.pairwise_cons.mp h1
    obtain ⟨p2, q2⟩ := List.pairwise_cons.mp h2
    have e : a = b := by
      rcases List.mem_cons.mp ((h a).mp (List.mem_cons_self ..)) with z | z
      · exact z
      · rcases List.mem_cons.mp ((h b).mpr (List.mem_cons_self ..)) with y | y
        · exact y.symm
        · exact absurd (List.lt_trans (p2 a z) (p1 b y)) asc_irr
    subst e
    rw [asc_ext q1 q2 fun x => ?_]
    constructor
    · intro hx
      rcases List.mem_cons.mp ((h x).mp (List.mem_cons_of_mem _ hx)) with z | z
      · exact absurd (z ▸ p1 x hx) asc_irr
      · exact z
    · intro hx
      rcases List.mem_cons.mp ((h x).mpr (List.mem_cons_of_mem _ hx)) with z | z
      · exact absurd (z ▸ p2 x hx) asc_irr
      · exact z
theorem unE_mem {gs : List (List Str)} {xs : List Str} (h : ∀ g ∈ gs, g.Sublist xs) (x : Str) : x ∈ unE gs xs ↔ ∃ g ∈ gs, x ∈ g := by
  unfold unE
  rw [List.mem_filter]
  constructor
  · rintro ⟨_, h2⟩
    cases e : gs.filter fun g => decide (x ∈ g) with
    | nil => rw [e] at h2; simp at h2
    | cons g r =>
      have hg : g ∈ gs.filter fun g => decide (x ∈ g) := by rw [e]; exact List.mem_cons_self ..
      obtain ⟨h3, h4⟩ := List.mem_filter.mp hg
      exact ⟨g, h3, of_decide_eq_true h4⟩
  · rintro ⟨g, hg, hx⟩
    refine ⟨(h g hg).subset hx, ?_⟩
    cases e : gs.filter fun g => decide (x ∈ g) with
    | nil =>
      have := List.filter_eq_nil_iff.mp e g hg
      simp [hx] at this
    | cons _ _ => rfl
theorem unE_sub (gs : List (List Str)) (xs : List Str) : (unE gs xs).Sublist xs := List.filter_sublist
theorem dep_l (gs : List (List Str)) : (PyData.list (dTs gs)).depth ≤ 30 := by
  have := dep_dTs gs
  simp only [PyData.depth]
  omega
abbrev sGr : Stmt := topS 15
abbrev nGr : List Str := ["_law_groups_here", "_law_names_here", "_law_expected", "_law_kept", "_law_found", "_law_group", "_law_far", "_law_good", "_law_name"]
theorem scGr : FnScope nGr ["_law_groups_here", "_law_names_here"] (defScope sGr) := ⟨rfl, rfl, rfl, by decide +kernel, rfl, by decide +kernel, by decide +kernel⟩
def spGr (T : Addr) : Sp := fun vs H Q _ => ∃ (L a : Addr) (as : List Addr) (gs : List (List Str)) (xs : List Str), vs = [.ref L, .ref a] ∧ H L = some (.lst (as.map V.ref)) ∧ GL H as gs ∧ H a = some (.lst (xs.map V.str)) ∧ Asc xs ∧ NmS xs ∧ (∀ g ∈ gs, g.Sublist xs) ∧ gs.length ≤ 8 ∧ GxR.TabG H T ∧
  ∀ H', St H H' → GxR.TabG H' T → Q (.bl true) H'
section
variable {P : Program} {w : World} {K : PySem.W.Frag} {mg : Str → Option Value} {base : Heap}
theorem ok_gr {T : Addr} {f fU fN fB : Addr} {fd fdU fdN fdB : FuncData} {k : Nat} (F : Fun K "_law_groups_right" "_law_groups_right" sGr f fd)
    (U : FnOk P w K mg base CX0 (k + 1) fU fdU ["_law_groups_here", "_law_names_here"] spUe) (gU : mg "_law_union_expected" = some (.ref fU)) (kU : PySem.W.keepIn K (.ref fU) = true) (bU : Binds K fdU ["_law_groups_here", "_law_names_here"] [])
    (N : FnOk P w K mg base CX0 (k + 1) fN fdN ["sets"] spUn) (gN : mg "union" = some (.ref fN)) (kN : PySem.W.keepIn K (.ref fN) = true) (bN : Binds K fdN ["sets"] []) (cN : KBinds K fdN ["sets"] ["sets"] (fun us ws => us ++ ws) (fun vs zs => vs ++ zs))
    (B : FnOk P w K mg base CX0 (k + 2) fB fdB ["first", "second"] (spSub T)) (gB : mg "is_subset" = some (.ref fB)) (kB : PySem.W.keepIn K (.ref fB) = true) (bB : Binds K fdB ["first", "second"] []) (cB : KBinds K fdB ["first", "second"] ["second", "first"] (fun us ws => us ++ ws.reverse) (fun vs zs => vs ++ zs.reverse))
    (mr : mg "repr" = none) (mt : mg "tuple" = none) : FnG P w K mg base (k + 3) f fd ["_law_groups_here", "_law_names_here"] (spGr T) := by
  refine Fun.okG F scGr (fun vs H Q E h => ?_) (fun cdv A outer s H vs Q E hr hgu h => ?_)
  · obtain ⟨L, a, as, gs, xs, rfl, _⟩ := h
    rfl
  · obtain ⟨L, a, as, gs, xs, rfl, eL, hG, ea, hasc, hnm, hsub, hlen, hT, q⟩ := h
    have nd := scGr.nd
    have hr1 := hr.mono (show k + 1 ≤ k + 2 by omega)
    refine ⟨_, pss_cons (ps_par (i := 2) (j := 3) (by rfl) nd rfl rfl (by decide) rfl rfl (pa_cons (pe_call U hr1 (by rfl) gU kU bU .nil pass0 (pa_cons (pv 0) (pa_cons (pv 1) pa_nil))) (pa_cons (pe_callB (cr_repr hr hgu) (by rfl) mr (by decide +kernel) (pa_cons (pv 0) pa_nil)) pa_nil)) (by rfl))
      (pss_cons (ps_set (i := 4) nd rfl (.inl rfl) (pe_lst (pa_cons (pe_call N hr1 (by rfl) gN kN bN .nil pass0 (pa_cons (pe_callTy call_tuple_of (by rfl) mt (by decide +kernel) (pa_cons (pv 0) pa_nil)) pa_nil))
          (pa_cons (pe_callK0 N hr1 (by rfl) gN kN cN pass0 (pk_cons (pe_callTy call_tuple_of (by rfl) mt (by decide +kernel) (pa_cons (pe_revL (pv 0)) pa_nil)) pk_nil))
          (pa_cons (pe_call N hr1 (by rfl) gN kN bN .nil pass0 (pa_cons (pe_callTy call_tuple_of (by rfl) mt (by decide +kernel) (pa_cons (pe_op op_cat (pe_op op_cat (pv 0) (pe_slice sl_list (pv 0) po_none (po_some pe_int))) (pe_lst (pa_cons (pv 2) pa_nil))) pa_nil)) pa_nil)) pa_nil)))))
      (pss_cons (ps_if (pt_cmpR op_ne (pe_callB (cr_repr hr hgu) (by rfl) mr (by decide +kernel) (pa_cons (pv 4) pa_nil)) (pe_callB (cr_repr hr hgu) (by rfl) mr (by decide +kernel) (pa_cons (pe_op op_rep (pe_lst (pa_cons (pv 2) pa_nil)) pe_int) pa_nil)) (nomark _)) (pss_one (ps_ret pe_bl)) pss_nil)
      (pss_cons (ps_for PassesOwn.never rfl (pi_list (pv 0)) (pg_name (i := 5) nd rfl (.inl rfl))
        (pss_cons (ps_if (pt_cmpR op_isnot_bl (pe_call B hr (by rfl) gB kB bB .nil pass0 (pa_cons (pv 5) (pa_cons (pv 2) pa_nil))) pe_bl (nomark _)) (pss_one (ps_ret pe_bl)) pss_nil)
        (pss_one (ps_for PassesOwn.never rfl (pi_list (pv 0)) (pg_name (i := 6) nd rfl (.inr rfl))
          (pss_cons (ps_set (i := 7) nd rfl (.inl rfl) (pe_cmpR (op_eqD hr.units) (pe_lc (own := [("_law_name", 8)]) (g := gName 8) rfl nd (pi_tup (pv 5)) (blkOk_by (own := [("_law_name", 8)]) (N := nGr) (sc := defScope sGr) (by decide +kernel))
              (fun _ _ _ _ _ => pg_name (i := 8) nd rfl (.inl rfl)) (fun _ _ _ _ _ => pts_one (pt_cmpR (show OpR _ (compareOp .NotIn) (rIn K true) from op_notIn_seq) (pv 8) (pv 6) (by rfl))) (fun _ _ _ _ _ => pv 8)) (pe_lst pa_nil) (nomark _)))
          (pss_one (ps_if (pt_cmpR op_ne (pe_callB (cr_repr hr hgu) (by rfl) mr (by decide +kernel) (pa_cons (pe_lst (pa_cons (pe_call B hr (by rfl) gB kB bB .nil pass0 (pa_cons (pv 5) (pa_cons (pv 6) pa_nil))) (pa_cons (pe_callK0 B hr (by rfl) gB kB cB pass0 (pk_cons (pv 6) (pk_cons (pv 5) pk_nil))) pa_nil))) pa_nil))
              (pe_callB (cr_repr hr hgu) (by rfl) mr (by decide +kernel) (pa_cons (pe_op op_rep (pe_lst (pa_cons (pv 7) pa_nil)) pe_int) pa_nil)) (nomark _)) (pss_one (ps_ret pe_bl)) pss_nil)))))))
      (pss_one (ps_ret (pe_and (pe_cmpR op_eq (pe_callB (cr_repr hr hgu) (by rfl) mr (by decide +kernel) (pa_cons (pv 0) pa_nil)) (pv 3) (nomark _))
        (pe_and (pe_cmpR op_is_bl (pe_call B hr (by rfl) gB kB bB .nil pass0 (pa_cons (pe_tup pa_nil) (pa_cons (pv 2) pa_nil))) pe_bl (nomark _))
          (pe_one (pe_cmpR (op_eqD hr.units) (pe_call N hr1 (by rfl) gN kN bN .nil pass0 (pa_cons (pe_tup pa_nil) pa_nil)) (pe_tup pa_nil) (nomark _)))))))))), ?_⟩
    have hgok : ∀ g ∈ gs, NmS g := fun g hg => hnm.sub (hsub g hg)
    have hxl : xs.length < 64 := Nat.lt_of_le_of_lt hnm.1 (by decide)
    have hgx : ∀ g ∈ gs, ∀ x ∈ g, x ∈ xs := fun g hg x hx => (hsub g hg).subset hx
    have SL := sizeLine_eq
    -- expected, kept
    refine ⟨.ref L, rfl, .ref a, rfl, L, a, as, gs, xs, rfl, eL, hG, ea, hnm.1, by omega, fun g hg => (hgok g hg).ok, fun H1 e ne te s1 => ?_⟩
    have eL1 := s1 _ _ eL
    have hG1 := hG.same s1
    have shG : Shw (.list (dTs gs)) (3 + 8 * (1000 + 2)) := shw_list (m := 8) (shw_dTs hgok) (by rw [dTs, List.length_map]; exact hlen)
    refine ⟨.ref L, rfl, L, _, rfl, .lst (.inl (.inl eL1)) (dp_GL hG1), shG.ok, shG.nd, dep_l gs, Nat.le_trans shG.le (by rw [SL]; decide), ?_⟩
    refine ⟨_, _, rfl, ?_⟩
    obtain ⟨ex, hex⟩ : ∃ ex, unE gs xs = ex := ⟨_, rfl⟩
    have eqX : ∀ {ns : List Str}, Asc ns → (∀ x, x ∈ ns ↔ ∃ g ∈ gs, x ∈ g) → ns = ex := fun {ns} h1 h2 => by
      rw [← hex]
      exact asc_ext h1 (List.Pairwise.sublist (unE_sub gs xs) hasc) fun x => (h2 x).trans (unE_mem hsub x).symm
    have hexs : ex.Sublist xs := by rw [← hex]; exact unE_sub gs xs
    have hexm : ∀ x, x ∈ ex ↔ ∃ g ∈ gs, x ∈ g := fun x => by rw [← hex]; exact unE_mem hsub x
    have hexok : NmS ex := hnm.sub hexs
    rw [hex] at te
    -- found: the first
    refine ⟨.ref L, rfl, L, _, rfl, .inl ⟨.inl (.inl eL1), fun t1 nt1 => ?_⟩⟩
    refine ⟨t1, as, gs, xs, rfl, upd_same, hG1.same (sUpd nt1), hgx, hxl, fun H2 r1 ns1 nr1 tr1 as1 m1 s2' => ?_⟩
    obtain rfl := eqX as1 m1
    have s2 : Same H1 H2 := (sUpd nt1).trans s2'
    have eL2 := s2 _ _ eL1
    have hG2 := hG1.same s2
    -- the second
    refine ⟨.ref L, rfl, L, _, rfl, .inl (.inl eL2), fun p2 np2 => ?_⟩
    refine ⟨p2, _, rfl, .inl ⟨.inl (.inl upd_same), fun t2 nt2 => ?_⟩⟩
    have s3a : Same H2 (upd (upd H2 p2 (.lst (as.map V.ref).reverse)) t2 (.tup (as.map V.ref).reverse)) := (sUpd np2).trans (sUpd nt2)
    refine ⟨t2, as.reverse, gs.reverse, xs, rfl, by rw [upd_same, List.map_reverse], (hG2.same s3a).rev, fun g hg => hgx g (List.mem_reverse.mp hg), hxl, fun H3 r2 ns2 nr2 tr2 as2 m2 s3' => ?_⟩
    have e2 : ns2 = ns1 := eqX as2 fun x => (m2 x).trans ⟨fun ⟨g, hg, h⟩ => ⟨g, List.mem_reverse.mp hg, h⟩, fun ⟨g, hg, h⟩ => ⟨g, List.mem_reverse.mpr hg, h⟩⟩
    subst e2
    have s3 : Same H2 H3 := s3a.trans s3'
    have eL3 := s3 _ _ eL2
    have hG3 := hG2.same s3
    have te3 : TS H3 e ns2 := s3 _ _ (s2 _ _ te)
    -- the third
    refine ⟨_, rfl, _, rfl, 2, rfl, L, _, rfl, .inl (.inl eL3), fun p3 np3 => ?_⟩
    rw [cut2]
    have sq3 : Same H3 (upd H3 p3 (.lst ((as.take 2).map V.ref))) := sUpd np3
    refine ⟨L, p3, _, _, rfl, rfl, sq3 _ _ eL3, upd_same, ?_, fun p4 np4 => ?_⟩
    · rw [List.length_map, List.length_map, List.length_take, SL]
      have := hG.length
      omega
    have sq4 := sq3.trans (sUpd (o := .lst (as.map V.ref ++ (as.take 2).map V.ref)) np4)
    refine ⟨.ref e, rfl, (by show 1 ≤ sizeLine; rw [SL]; decide), fun p5 np5 => ?_⟩
    have e4 : (upd (upd (upd H3 p3 (.lst ((as.take 2).map V.ref))) p4 (.lst (as.map V.ref ++ (as.take 2).map V.ref))) p5 (.lst [.ref e])) p4 = some (.lst (as.map V.ref ++ (as.take 2).map V.ref)) := by
      rw [upd_ne (ne_of_none upd_same np5), upd_same]
    refine ⟨p4, p5, _, _, rfl, rfl, e4, upd_same, ?_, fun p6 np6 => ?_⟩
    · rw [List.length_append, List.length_map, List.length_map, List.length_take, SL, List.length_cons, List.length_nil]
      have := hG.length
      omega
    refine ⟨p6, _, rfl, .inl ⟨.inl (.inl upd_same), fun t3 nt3 => ?_⟩⟩
    have s4a : Same H3 (upd (upd (upd (upd (upd H3 p3 (.lst ((as.take 2).map V.ref))) p4 (.lst (as.map V.ref ++ (as.take 2).map V.ref))) p5 (.lst [.ref e])) p6 (.lst (as.map V.ref ++ (as.take 2).map V.ref ++ [.ref e]))) t3 (.tup (as.map V.ref ++ (as.take 2).map V.ref ++ [.ref e]))) := (sq4.trans (sUpd np5)).trans ((sUpd np6).trans (sUpd nt3))
    refine ⟨t3, as ++ as.take 2 ++ [e], gs ++ gs.take 2 ++ [ns2], xs, rfl, ?_, ?_, fun g hg => ?_, hxl, fun H4 r3 ns3 nr3 tr3 as3 m3 s4' => ?_⟩
    · rw [upd_same, List.map_append, List.map_append]
      rfl
    · exact GL.app (GL.app (hG3.same s4a) (GL.take (hG3.same s4a))) (.cons (s4a _ _ te3) .nil)
    · rcases List.mem_append.mp hg with z | z
      · rcases List.mem_append.mp z with z | z
        · exact hgx g z
        · exact hgx g (List.mem_of_mem_take z)
      · rw [List.mem_singleton.mp z]
        exact fun x hx => hexs.subset hx
    have e3 : ns3 = ns2 := eqX as3 fun x => (m3 x).trans ⟨fun ⟨g, hg, h⟩ => by
      rcases List.mem_append.mp hg with z | z
      · rcases List.mem_append.mp z with z | z
        · exact ⟨g, z, h⟩
        · exact ⟨g, List.mem_of_mem_take z, h⟩
      · rw [List.mem_singleton.mp z] at h
        exact (hexm x).mp h, fun ⟨g, hg, h⟩ => ⟨g, List.mem_append_left _ (List.mem_append_left _ hg), h⟩⟩
    subst e3
    have s4 : Same H3 H4 := s4a.trans s4'
    have tr2' : TS H4 r2 ns3 := s4 _ _ tr2
    have tr1' : TS H4 r1 ns3 := s4 _ _ (s3 _ _ tr1)
    have te4 : TS H4 e ns3 := s4 _ _ te3
    have s14 : Same H1 H4 := (s2.trans s3).trans s4
    refine ⟨(by show 3 ≤ sizeLine; rw [SL]; decide), fun fo nfo => ?_⟩
    -- the first test
    have s5 : Same H4 (upd H4 fo (.lst [.ref r1, .ref r2, .ref r3])) := sUpd nfo
    have shF : Shw (.list (dTs [ns3, ns3, ns3])) (3 + 3 * (1000 + 2)) := shw_list (m := 3) (shw_dTs fun g hg => by
      have : g = ns3 := by simpa using hg
      rw [this]; exact hexok) (by show 3 ≤ 3; decide)
    refine ⟨.ref fo, rfl, fo, _, rfl, .lst (.inl (.inl upd_same)) (dp_GL (as := [r1, r2, r3]) (gs := [ns3, ns3, ns3]) (.cons (s5 _ _ tr1') (.cons (s5 _ _ tr2') (.cons (s5 _ _ tr3) .nil)))), shF.ok, shF.nd, dep_l _, Nat.le_trans shF.le (by rw [SL]; decide), ?_⟩
    refine ⟨.ref e, rfl, (by show 1 ≤ sizeLine; rw [SL]; decide), fun p7 np7 => ?_⟩
    refine ⟨p7, 3, _, rfl, rfl, upd_same, by decide, by decide, (by show 1 * 3 ≤ sizeLine; rw [SL]; decide), fun p8 np8 => ?_⟩
    have s6 : Same H4 (upd (upd (upd H4 fo (.lst [.ref r1, .ref r2, .ref r3])) p7 (.lst [.ref e])) p8 (.lst (List.replicate (3 : Int).toNat [V.ref e]).flatten)) := (s5.trans (sUpd np7)).trans (sUpd np8)
    have te6 := s6 _ _ te4
    refine ⟨p8, _, rfl, .lst (.inl (.inl upd_same)) (dp_GL (as := [e, e, e]) (gs := [ns3, ns3, ns3]) (.cons te6 (.cons te6 (.cons te6 .nil)))), shF.ok, shF.nd, dep_l _, Nat.le_trans shF.le (by rw [SL]; decide), ?_⟩
    refine ⟨rfl, false, by simp, iteF ?_⟩
    have s16 : Same H (upd (upd (upd H4 fo (.lst [.ref r1, .ref r2, .ref r3])) p7 (.lst [.ref e])) p8 (.lst (List.replicate (3 : Int).toNat [V.ref e]).flatten)) := s1.trans (s14.trans s6)
    generalize (upd (upd (upd H4 fo (.lst [.ref r1, .ref r2, .ref r3])) p7 (.lst [.ref e])) p8 (.lst (List.replicate (3 : Int).toNat [V.ref e]).flatten)) = H5 at s16 te6
    have hT5 := TabG.same hT s16
    have eL5 := s16 _ _ eL
    have hG5 := hG.same s16
    clear s6 s5 tr1' tr2' te4 s14
    -- the loop over the groups
    refine ⟨.ref L, rfl, L, rfl, ⟨_, .inl (.inl eL5)⟩, for_list (xs := as.map V.ref) (fun i σ H' => ∃ y5 y6 y7, σ = [some (.ref L), some (.ref a), some (.ref e), some (.str (PyData.list (dTs gs)).shown), some (.ref fo), y5, y6, y7, none] ∧ St H5 H' ∧ GxR.TabG H' T)
      ⟨none, none, none, rfl, .refl, hT5⟩ (fun i σ H' _ hW => ?_) (fun i x σ H' hx hW => ?_) (fun σ H' hW => ?_)⟩
    · obtain ⟨y5, y6, y7, _, st, _⟩ := hW
      exact .inl (.inl (st.k _ _ rfl eL5))
    · obtain ⟨y5, y6, y7, rfl, st, hT'⟩ := hW
      obtain ⟨t, rfl, et⟩ : ∃ t, x = .ref t ∧ as[i]? = some t := by
        rw [List.getElem?_map] at hx
        cases e : as[i]? with
        | none => rw [e] at hx; cases hx
        | some y => rw [e] at hx; exact ⟨y, (Option.some.inj hx).symm, rfl⟩
      obtain ⟨g, eg, tg5⟩ := hG5.get et
      have hgm : g ∈ gs := List.mem_of_getElem? eg
      have tg := st.ts tg5
      refine ⟨.ref t, rfl, .ref e, rfl, t, e, g, ns3, rfl, tg, st.ts te6, hT', fun H6 tb6 => ?_⟩
      have hsubB : subB g ns3 = true := subB_iff.mpr fun n hn => (hexm n).mpr ⟨g, hgm, hn⟩
      refine ⟨_, _, rfl, rfl, false, by rw [hsubB]; rfl, iteF ?_⟩
      have st6 : St H5 H6 := st.trans (Tabbed.st hT' tb6)
      -- the loop over the other ones
      refine ⟨.ref L, rfl, L, rfl, ⟨_, .inl (.inl (st6.k _ _ rfl eL5))⟩, for_list (xs := as.map V.ref) (fun j σ H' => ∃ y6 y7, σ = [some (.ref L), some (.ref a), some (.ref e), some (.str (PyData.list (dTs gs)).shown), some (.ref fo), some (.ref t), y6, y7, none] ∧ St H5 H' ∧ GxR.TabG H' T)
        ⟨y6, y7, rfl, st6, tb6.1⟩ (fun j σ H' _ hW => ?_) (fun j x σ H' hx hW => ?_) (fun σ H' hW => ?_)⟩
      · obtain ⟨y6, y7, _, st, _⟩ := hW
        exact .inl (.inl (st.k _ _ rfl eL5))
      · obtain ⟨y6, y7, rfl, st, hT'⟩ := hW
        obtain ⟨t2, rfl, et2⟩ : ∃ t, x = .ref t ∧ as[j]? = some t := by
          rw [List.getElem?_map] at hx
          cases e : as[j]? with
          | none => rw [e] at hx; cases hx
          | some y => rw [e] at hx; exact ⟨y, (Option.some.inj hx).symm, rfl⟩
        obtain ⟨f2, ef, tf5⟩ := hG5.get et2
        have tg := st.ts tg5
        have tf := st.ts tf5
        -- good
        refine ⟨.ref t, rfl, t, rfl, ⟨_, .inl (.inl tg)⟩, fun D nD => ?_⟩
        refine lc_tup (K := K) (a := t) (xs := g.map V.str) (fun m H7 => H7 D = some (.lst (((g.take m).filter fun n => !decide (n ∈ f2)).map V.str)) ∧ Same H' H7) ⟨upd_same, sUpd nD⟩ (fun m H7 _ hW => .inl (.inl (hW.2 _ _ tg))) (fun m z H7 hz hW => ?_) (fun H7 hW => ?_)
        · obtain ⟨eD, sm⟩ := hW
          obtain ⟨n, rfl, en⟩ : ∃ n, z = .str n ∧ g[m]? = some n := by
            rw [List.getElem?_map] at hz
            cases e : g[m]? with
            | none => rw [e] at hz; cases hz
            | some y => rw [e] at hz; exact ⟨y, (Option.some.inj hz).symm, rfl⟩
          have tkm : g.take (m + 1) = g.take m ++ [n] := by rw [List.take_add_one, en]; rfl
          refine ⟨rfl, ?_⟩
          refine ⟨_, rfl, _, rfl, t2, _, rfl, .inr (.inl (.inl (sm _ _ tf))), rfl, flat_strs _, _, rfl, ?_⟩
          rw [inV_str]
          by_cases hn : n ∈ f2
          · rw [decide_eq_true hn]
            refine iteF ?_
            refine ⟨?_, sm⟩
            rw [tkm, List.filter_append, List.filter_cons_of_neg (by simp [hn])]
            simpa using eD
          · rw [decide_eq_false hn]
            refine iteT ?_
            refine ⟨_, rfl, _, eD, ?_, ?_, sFill sm nD⟩
            · rw [List.length_map, SL]
              have z1 := List.length_filter_le (fun n => !decide (n ∈ f2)) (g.take m)
              have z2 : (g.take m).length ≤ m := List.length_take_le _ _
              have z3 := (List.getElem?_eq_some_iff.mp en).1
              have z4 := (hgok g hgm).1
              omega
            · rw [upd_same, tkm, List.filter_append, List.filter_cons_of_pos (by simp [hn]), List.map_append]
              rfl
        · obtain ⟨eD, sm⟩ := hW
          rw [List.length_map, List.take_length] at eD
          refine ⟨Nat.zero_le _, fun o no => ?_⟩
          have eD' : (upd H7 o (.lst [])) D = some (.lst ((g.filter fun n => !decide (n ∈ f2)).map V.str)) := by
            rw [upd_ne (ne_of_none eD no)]
            exact eD
          refine ⟨_, .list [], dp_lstS eD', .lst (.inl (.inl upd_same)) .nil, sh_dSl _ (fun x hx => (hgok g hgm).ok x (List.mem_filter.mp hx).1), rfl, ?_⟩
          rw [eqv_lnil]
          have eb : (dS (g.filter fun n => !decide (n ∈ f2))).isEmpty = subB g f2 := by simp [dS, subB]
          rw [eb]
          have sm7 : Same H' (upd H7 o (.lst [])) := sm.trans (sUpd no)
          have st7 := st.trans (Same.st sm7)
          have hT7 := TabG.same hT' sm7
          generalize upd H7 o (.lst []) = H8 at sm7 st7 hT7
          -- the two answers
          refine ⟨.ref t, rfl, .ref t2, rfl, t, t2, g, f2, rfl, st7.ts tg5, st7.ts tf5, hT7, fun H9 tb9 => ?_⟩
          have st9 := st7.trans (Tabbed.st hT7 tb9)
          refine ⟨.ref t2, rfl, .ref t, rfl, t, t2, g, f2, rfl, st9.ts tg5, st9.ts tf5, tb9.1, fun H10 tb10 => ?_⟩
          have st10 := st9.trans (Tabbed.st tb9.1 tb10)
          refine ⟨(by show 2 ≤ sizeLine; rw [SL]; decide), fun q1 nq1 => ?_⟩
          have shB : Shw (.list [.bool (subB g f2), .bool (subB g f2)]) (3 + 2 * (1000 + 2)) := shw_list (m := 2) (fun d hd => by
            have : d = .bool (subB g f2) := by simpa using hd
            rw [this]; exact shw_bool _) (by show 2 ≤ 2; decide)
          have dpB : (PyData.list [.bool (subB g f2), .bool (subB g f2)]).depth ≤ 30 := by simp only [PyData.depth, PyData.depthAll]; omega
          refine ⟨q1, _, rfl, .lst (.inl (.inl upd_same)) (.cons (.bl _) (.cons (.bl _) .nil)), shB.ok, shB.nd, dpB, Nat.le_trans shB.le (by rw [SL]; decide), ?_⟩
          refine ⟨_, rfl, (by show 1 ≤ sizeLine; rw [SL]; decide), fun q2 nq2 => ?_⟩
          refine ⟨q2, 2, _, rfl, rfl, upd_same, by decide, by decide, (by show 1 * 2 ≤ sizeLine; rw [SL]; decide), fun q3 nq3 => ?_⟩
          refine ⟨q3, _, rfl, .lst (.inl (.inl upd_same)) (.cons (.bl _) (.cons (.bl _) .nil)), shB.ok, shB.nd, dpB, Nat.le_trans shB.le (by rw [SL]; decide), ?_⟩
          refine ⟨rfl, false, by simp, iteF ?_⟩
          exact ⟨_, _, rfl, st10.trans (Same.st (((sUpd nq1).trans (sUpd nq2)).trans (sUpd nq3))), TabG.new (TabG.new (TabG.new tb10.1 nq1) nq2) nq3⟩
      · obtain ⟨y6, y7, rfl, st, hT'⟩ := hW
        exact ⟨_, _, _, rfl, st, hT'⟩
    · obtain ⟨y5, y6, y7, rfl, st, hT'⟩ := hW
      -- what is returned
      refine ⟨.ref L, rfl, L, _, rfl, .lst (.inl (.inl (st.k _ _ rfl eL5))) (dp_GL (hG5.st st)), shG.ok, shG.nd, dep_l gs, Nat.le_trans shG.le (by rw [SL]; decide), ?_⟩
      refine ⟨_, rfl, rfl, true, by simp, iteT ?_⟩
      refine ⟨Nat.zero_le _, fun q1 nq1 => ?_⟩
      refine ⟨.ref e, rfl, q1, e, [], ns3, rfl, upd_same, sUpd nq1 _ _ (st.ts te6), TabG.new hT' nq1, fun H6 tb6 => ?_⟩
      refine ⟨_, _, rfl, rfl, true, rfl, iteT ?_⟩
      refine ⟨Nat.zero_le _, fun q2 nq2 => ?_⟩
      refine ⟨q2, [], [], [], rfl, upd_same, .nil, fun g hg => by simp at hg, by decide, fun H7 r ns nr tr asr m s7 => ?_⟩
      have ens : ns = [] := List.eq_nil_iff_forall_not_mem.mpr fun x hx => by
        obtain ⟨g, hg, _⟩ := (m x).mp hx
        simp at hg
      subst ens
      refine ⟨Nat.zero_le _, fun q3 nq3 => ?_⟩
      refine ⟨dT [], dT [], dp_tup (sUpd nq3 _ _ tr), dp_tup upd_same, by rfl, by rfl, ?_⟩
      have s7' : Same H6 (upd H7 q3 (.tup [])) := ((sUpd nq2).trans s7).trans (sUpd nq3)
      refine q _ ?_ (TabG.same tb6.1 s7')
      exact (((Same.st s16).trans st).trans (Same.st (sUpd nq1))).trans ((Tabbed.st (TabG.new hT' nq1) tb6).trans (Same.st s7'))
end
end Lk
set_option maxRecDepth 100000
set_option maxHeartbeats 2000000
namespace Lk
open PySem PySem.Spec PyProof.Rows L2
abbrev sHr : Stmt := topS 16
abbrev nHr : List Str := ["_law_it", "_law_n", "_law_expected", "_law_name"]
theorem scHr : FnScope nHr ["_law_it"] (defScope sHr) := ⟨rfl, rfl, rfl, by decide +kernel, rfl, by decide +kernel, by decide +kernel⟩
def spHr (T : Addr) : Sp := fun vs H Q _ => ∃ (t ts to : Addr) (x0 x2 x4 : V) (sv : List Str) (obs : List Addr) (ob : List (List Str)), vs = [.ref t] ∧ H t = some (.tup [x0, .ref ts, x2, .ref to, x4]) ∧ TS H ts sv ∧ Asc sv ∧ NmS sv ∧ H to = some (.tup (obs.map V.ref)) ∧ GL H obs ob ∧ (∀ g ∈ ob, g.Sublist sv) ∧ ob.length ≤ 100 ∧
  GxR.TabG H T ∧ ∀ H', St H H' → GxR.TabG H' T → Q (.bl true) H'
section
variable {P : Program} {w : World} {K : PySem.W.Frag} {mg : Str → Option Value} {base : Heap}
theorem ok_hr {T : Addr} {f fN fB : Addr} {fd fdN fdB : FuncData} {k : Nat} (F : Fun K "_law_holders_right" "_law_holders_right" sHr f fd)
    (N : FnOk P w K mg base CX0 (k + 1) fN fdN ["sets"] spUn) (gN : mg "union" = some (.ref fN)) (kN : PySem.W.keepIn K (.ref fN) = true) (bN : Binds K fdN ["sets"] [])
    (B : FnOk P w K mg base CX0 (k + 2) fB fdB ["scheme", "index"] (spHol T)) (gB : mg "holders" = some (.ref fB)) (kB : PySem.W.keepIn K (.ref fB) = true) (bB : Binds K fdB ["scheme", "index"] []) (cB : KBinds K fdB ["scheme", "index"] ["index", "scheme"] (fun us ws => us ++ ws.reverse) (fun vs zs => vs ++ zs.reverse))
    (mr : mg "repr" = none) (mt : mg "tuple" = none) (mg' : mg "range" = none) (ml : mg "len" = none) : FnG P w K mg base (k + 3) f fd ["_law_it"] (spHr T) := by
  refine Fun.okG F scHr (fun vs H Q E h => ?_) (fun cdv A outer s H vs Q E hr hgu h => ?_)
  · obtain ⟨t, ts, to, x0, x2, x4, sv, obs, ob, rfl, _⟩ := h
    rfl
  · obtain ⟨t, ts, to, x0, x2, x4, sv, obs, ob, rfl, et, hts, hasc, hnm, eto, hG, hsub, hlen, hT, q⟩ := h
    have nd := scHr.nd
    have hr1 := hr.mono (show k + 1 ≤ k + 2 by omega)
    have SL := sizeLine_eq
    refine ⟨_, pss_cons (ps_for PassesOwn.never rfl (pi_range1 (by rfl) mg' (pa_cons (pe_callB call_len_seq (by rfl) ml PySem.boot_len (pa_cons (pe_ix ix_tup (pv 0) pe_int (fun _ _ => rfl)) pa_nil)) pa_nil)) (pg_name (i := 1) nd rfl (.inr rfl))
        (pss_cons (ps_set (i := 2) nd rfl (.inl rfl) (pe_callTy call_tuple_of (by rfl) mt (by decide +kernel) (pa_cons (pe_lc (own := [("_law_name", 3)]) (g := gName 3) rfl nd (pi_tup (pe_ix ix_tup (pv 0) pe_int (fun _ _ => rfl))) (blkOk_by (own := [("_law_name", 3)]) (N := nHr) (sc := defScope sHr) (by decide +kernel))
            (fun _ _ _ _ _ => pg_name (i := 3) nd rfl (.inl rfl)) (fun _ _ _ _ _ => pts_one (pt_cmpR (show OpR _ (compareOp .NotIn) (rIn K true) from op_notIn_seq) (pv 3) (pe_ix (show IxR _ (rIxT K) from ix_tup) (pe_ix (show IxR _ (rIxT K) from ix_tup) (pv 0) pe_int (fun _ _ => rfl)) (pv 1) (fun _ _ => rfl)) (by rfl))) (fun _ _ _ _ _ => pv 3)) pa_nil)))
        (pss_cons (ps_if (pt_cmpR op_ne (pe_callB (cr_repr hr hgu) (by rfl) mr (by decide +kernel) (pa_cons (pe_lst (pa_cons (pe_call B hr (by rfl) gB kB bB .nil pass0 (pa_cons (pv 0) (pa_cons (pv 1) pa_nil))) (pa_cons (pe_callK0 B hr (by rfl) gB kB cB pass0 (pk_cons (pv 1) (pk_cons (pv 0) pk_nil))) pa_nil))) pa_nil))
              (pe_callB (cr_repr hr hgu) (by rfl) mr (by decide +kernel) (pa_cons (pe_op op_rep (pe_lst (pa_cons (pv 2) pa_nil)) pe_int) pa_nil)) (nomark _)) (pss_one (ps_ret pe_bl)) pss_nil)
        (pss_one (ps_if (pt_cmpR (op_neD hr.units) (pe_call N hr1 (by rfl) gN kN bN .nil pass0 (pa_cons (pe_tup (pa_cons (pv 2) (pa_cons (pe_ix ix_tup (pe_ix ix_tup (pv 0) pe_int (fun _ _ => rfl)) (pv 1) (fun _ _ => rfl)) pa_nil))) pa_nil)) (pe_ix ix_tup (pv 0) pe_int (fun _ _ => rfl)) (nomark _)) (pss_one (ps_ret pe_bl)) pss_nil)))))
      (pss_one (ps_ret pe_bl)), ?_⟩
    refine ⟨.ref t, rfl, t, _, _, _, rfl, rfl, .inl (.inl et), atI_nat (j := 3) rfl, to, _, rfl, .inr (.inl (.inl eto)), ?_⟩
    have hol := hG.length
    refine ⟨_, rfl, by rw [List.length_map]; omega, by rw [List.length_map]; omega, for_range (n := ((obs.map V.ref).length : Int).toNat) (fun i σ H' => ∃ y1 y2, σ = [some (.ref t), y1, y2, none] ∧ St H H' ∧ GxR.TabG H' T)
      ⟨none, none, rfl, .refl, hT⟩ (fun i σ H' hi hW => ?_) (fun σ H' hW => ?_)⟩
    · obtain ⟨y1, y2, rfl, st, hT'⟩ := hW
      rw [Int.toNat_natCast, List.length_map] at hi
      obtain ⟨g, eg, tg0⟩ := hG.get (List.getElem?_eq_getElem hi)
      have hgm : g ∈ ob := List.mem_of_getElem? eg
      have gsub := hsub g hgm
      have et' := st.k _ _ rfl et
      have eto' := st.k _ _ rfl eto
      have ts' := st.ts hts
      have tg := st.ts tg0
      have zi : (0 + (i : Int)) = i := by omega
      have eat : ∀ {H : Hp}, atI (obs.map V.ref) (0 + (i : Int)) = some (.ref obs[i]) := fun {_} => by
        rw [zi]
        exact atI_nat (by rw [List.getElem?_map, List.getElem?_eq_getElem hi]; rfl)
      -- expected
      refine ⟨.ref t, rfl, t, _, _, _, rfl, rfl, .inl (.inl et'), atI_nat (j := 1) rfl, ts, rfl, ⟨_, .inl (.inl ts')⟩, fun D nD => ?_⟩
      refine lc_tup (K := K) (a := ts) (xs := sv.map V.str) (fun m H3 => H3 D = some (.lst (((sv.take m).filter fun n => !decide (n ∈ g)).map V.str)) ∧ Same H' H3) ⟨upd_same, sUpd nD⟩ (fun m H3 _ hW => .inl (.inl (hW.2 _ _ ts'))) (fun m z H3 hz hW => ?_) (fun H3 hW => ?_)
      · obtain ⟨eD, sm⟩ := hW
        obtain ⟨n, rfl, en⟩ : ∃ n, z = .str n ∧ sv[m]? = some n := by
          rw [List.getElem?_map] at hz
          cases e : sv[m]? with
          | none => rw [e] at hz; cases hz
          | some y => rw [e] at hz; exact ⟨y, (Option.some.inj hz).symm, rfl⟩
        have tkm : sv.take (m + 1) = sv.take m ++ [n] := by rw [List.take_add_one, en]; rfl
        refine ⟨rfl, ?_⟩
        refine ⟨_, rfl, .ref t, rfl, t, _, _, _, rfl, rfl, .inl (.inl (sm _ _ et')), atI_nat (j := 3) rfl, _, rfl, to, _, _, _, rfl, rfl, .inl (.inl (sm _ _ eto')), eat (H := H), ?_⟩
        refine ⟨obs[i], _, rfl, .inr (.inl (.inl (sm _ _ tg))), rfl, flat_strs _, _, rfl, ?_⟩
        rw [inV_str]
        by_cases hn : n ∈ g
        · rw [decide_eq_true hn]
          refine iteF ?_
          refine ⟨?_, sm⟩
          rw [tkm, List.filter_append, List.filter_cons_of_neg (by simp [hn])]
          simpa using eD
        · rw [decide_eq_false hn]
          refine iteT ?_
          refine ⟨_, rfl, _, eD, ?_, ?_, sFill sm nD⟩
          · rw [List.length_map, SL]
            have z1 := List.length_filter_le (fun n => !decide (n ∈ g)) (sv.take m)
            have z2 : (sv.take m).length ≤ m := List.length_take_le _ _
            have z3 := (List.getElem?_eq_some_iff.mp en).1
            have z4 := hnm.1
            omega
          · rw [upd_same, tkm, List.filter_append, List.filter_cons_of_pos (by simp [hn]), List.map_append]
            rfl
      · obtain ⟨eD, sm⟩ := hW
        rw [List.length_map, List.take_length] at eD
        refine ⟨D, _, rfl, .inl ⟨.inl (.inl eD), fun e ne => ?_⟩⟩
        obtain ⟨ex, hex⟩ : ∃ ex, (sv.filter fun n => !decide (n ∈ g)) = ex := ⟨_, rfl⟩
        have hexs : ex.Sublist sv := by rw [← hex]; exact List.filter_sublist
        have hexok := hnm.sub hexs
        have te : TS (upd H3 e (.tup ((sv.filter fun n => !decide (n ∈ g)).map V.str))) e ex := by rw [← hex]; exact upd_same
        have sm4 : Same H' (upd H3 e (.tup ((sv.filter fun n => !decide (n ∈ g)).map V.str))) := sm.trans (sUpd ne)
        have st4 := st.trans (Same.st sm4)
        have hT4 := TabG.same hT' sm4
        generalize upd H3 e (.tup ((sv.filter fun n => !decide (n ∈ g)).map V.str)) = H4 at te sm4 st4 hT4
        have hl1 : sv.length ≤ 1000 := Nat.le_trans hnm.1 (by decide)
        have hl2 : obs.length ≤ 1000 := by omega
        -- the two answers
        rw [zi]
        refine ⟨.ref t, rfl, _, rfl, t, ts, to, obs[i], i, x0, x2, x4, sv, g, obs, rfl, st4.k _ _ rfl et, st4.ts hts, hl1, st4.k _ _ rfl eto, hl2, List.getElem?_eq_getElem hi, st4.ts tg0, hT4, fun H5 r1 tb5 n1 => ?_⟩
        have st5 : St H4 (upd H5 r1 (.tup ((sv.filter fun n => !decide (n ∈ g)).map V.str))) := (Tabbed.st hT4 tb5).trans (Same.st (sUpd n1))
        have hT5 := TabG.new (o := .tup ((sv.filter fun n => !decide (n ∈ g)).map V.str)) tb5.1 n1
        have t1 : TS (upd H5 r1 (.tup ((sv.filter fun n => !decide (n ∈ g)).map V.str))) r1 ex := by rw [← hex]; exact upd_same
        generalize upd H5 r1 (.tup ((sv.filter fun n => !decide (n ∈ g)).map V.str)) = H6 at st5 hT5 t1
        have st6 := st4.trans st5
        refine ⟨_, rfl, .ref t, rfl, t, ts, to, obs[i], i, x0, x2, x4, sv, g, obs, rfl, st6.k _ _ rfl et, st6.ts hts, hl1, st6.k _ _ rfl eto, hl2, List.getElem?_eq_getElem hi, st6.ts tg0, hT5, fun H7 r2 tb7 n2 => ?_⟩
        have st7 : St H6 (upd H7 r2 (.tup ((sv.filter fun n => !decide (n ∈ g)).map V.str))) := (Tabbed.st hT5 tb7).trans (Same.st (sUpd n2))
        have hT7 := TabG.new (o := .tup ((sv.filter fun n => !decide (n ∈ g)).map V.str)) tb7.1 n2
        have t2 : TS (upd H7 r2 (.tup ((sv.filter fun n => !decide (n ∈ g)).map V.str))) r2 ex := by rw [← hex]; exact upd_same
        generalize upd H7 r2 (.tup ((sv.filter fun n => !decide (n ∈ g)).map V.str)) = H8 at st7 hT7 t2
        have t1' := st7.ts t1
        have te8 := st7.ts (st5.ts te)
        refine ⟨(by show 2 ≤ sizeLine; rw [SL]; decide), fun q1 nq1 => ?_⟩
        have shB : Shw (.list (dTs [ex, ex])) (3 + 2 * (1000 + 2)) := shw_list (m := 2) (shw_dTs fun g hg => by
          have : g = ex := by simpa using hg
          rw [this]; exact hexok) (by show 2 ≤ 2; decide)
        have s9 : Same H8 (upd H8 q1 (.lst [.ref r1, .ref r2])) := sUpd nq1
        refine ⟨q1, _, rfl, .lst (.inl (.inl upd_same)) (dp_GL (as := [r1, r2]) (gs := [ex, ex]) (.cons (s9 _ _ t1') (.cons (s9 _ _ t2) .nil))), shB.ok, shB.nd, dep_l _, Nat.le_trans shB.le (by rw [SL]; decide), ?_⟩
        refine ⟨.ref e, rfl, (by show 1 ≤ sizeLine; rw [SL]; decide), fun q2 nq2 => ?_⟩
        refine ⟨q2, 2, _, rfl, rfl, upd_same, by decide, by decide, (by show 1 * 2 ≤ sizeLine; rw [SL]; decide), fun q3 nq3 => ?_⟩
        have s10 : Same H8 (upd (upd (upd H8 q1 (.lst [.ref r1, .ref r2])) q2 (.lst [.ref e])) q3 (.lst (List.replicate (2 : Int).toNat [V.ref e]).flatten)) := (s9.trans (sUpd nq2)).trans (sUpd nq3)
        have te10 := s10 _ _ te8
        refine ⟨q3, _, rfl, .lst (.inl (.inl upd_same)) (dp_GL (as := [e, e]) (gs := [ex, ex]) (.cons te10 (.cons te10 .nil))), shB.ok, shB.nd, dep_l _, Nat.le_trans shB.le (by rw [SL]; decide), ?_⟩
        refine ⟨rfl, false, by simp, iteF ?_⟩
        have st10 : St H (upd (upd (upd H8 q1 (.lst [.ref r1, .ref r2])) q2 (.lst [.ref e])) q3 (.lst (List.replicate (2 : Int).toNat [V.ref e]).flatten)) := (st6.trans st7).trans (Same.st s10)
        have hT10 := TabG.same hT7 s10
        generalize (upd (upd (upd H8 q1 (.lst [.ref r1, .ref r2])) q2 (.lst [.ref e])) q3 (.lst (List.replicate (2 : Int).toNat [V.ref e]).flatten)) = H10 at s10 te10 st10 hT10
        -- the union
        have eat2 : atI (obs.map V.ref) (i : Int) = some (.ref obs[i]) := atI_nat (by rw [List.getElem?_map, List.getElem?_eq_getElem hi]; rfl)
        refine ⟨.ref e, rfl, .ref t, rfl, t, _, _, _, rfl, rfl, .inl (.inl (st10.k _ _ rfl et)), atI_nat (j := 3) rfl, _, rfl, to, _, _, _, rfl, rfl, .inl (.inl (st10.k _ _ rfl eto)), eat2, (by show 2 ≤ sizeLine; rw [SL]; decide), fun q4 nq4 => ?_⟩
        have s11 : Same H10 (upd H10 q4 (.tup [.ref e, .ref obs[i]])) := sUpd nq4
        refine ⟨q4, [e, obs[i]], [ex, g], sv, rfl, upd_same, .cons (s11 _ _ te10) (.cons (s11 _ _ (st10.ts tg0)) .nil), fun g' hg' x hx => ?_, Nat.lt_of_le_of_lt hnm.1 (by decide), fun H11 r ns nr tr asr m s12 => ?_⟩
        · rcases List.mem_cons.mp hg' with z | z
          · rw [z] at hx
            exact hexs.subset hx
          · rw [List.mem_singleton.mp z] at hx
            exact gsub.subset hx
        have ens : ns = sv := asc_ext asr hasc fun x => by
          rw [m x]
          constructor
          · rintro ⟨g', hg', hx⟩
            rcases List.mem_cons.mp hg' with z | z
            · rw [z] at hx
              exact hexs.subset hx
            · rw [List.mem_singleton.mp z] at hx
              exact gsub.subset hx
          · intro hx
            by_cases hg' : x ∈ g
            · exact ⟨g, by simp, hg'⟩
            · exact ⟨ex, by simp, by rw [← hex]; exact List.mem_filter.mpr ⟨hx, by simp [hg']⟩⟩
        subst ens
        have s13 : Same H10 H11 := s11.trans s12
        have st11 := st10.trans (Same.st s13)
        refine ⟨.ref t, rfl, t, _, _, _, rfl, rfl, .inl (.inl (st11.k _ _ rfl et)), atI_nat (j := 1) rfl, ?_⟩
        refine ⟨dT ns, dT ns, dp_tup tr, dp_tup (st11.ts hts), sh_dT _ hnm.ok, sh_dT _ hnm.ok, false, by rw [eqv_dT]; simp, iteF ?_⟩
        exact ⟨_, _, rfl, st11, TabG.same hT10 s13⟩
    · obtain ⟨y1, y2, rfl, st, hT'⟩ := hW
      exact q _ st hT'
end
end Lk
set_option maxRecDepth 100000
set_option maxHeartbeats 2000000
namespace Lk
open PySem PySem.Spec PyProof.Rows L2
/-- x in y, y a tuple of data -/
def rInT (K : PySem.W.Frag) : R2 := fun x y H Q => ∃ d ds, Dp K H x d ∧ Dp K H y (.tuple ds) ∧ SeqAt.shaped d = true ∧ PyData.canLayAll0 ds = true ∧ d.depth ≤ 30 ∧ Q (.bl (ds.any fun z => PyData.eqv z d)) H
theorem op_inT {X : Cx} (hu : X.A.units + 65 < cLine) : OpR X (compareOp .In) (rInT X.K) := by
  intro pins s σ H x y v u Q I rx ry h
  obtain ⟨d, ds, hd, he, sd, se, dep, q⟩ := h
  obtain ⟨as, r1⟩ := Dp.reads I d x v hd rx
  obtain ⟨bs, r2⟩ := Dp.reads I (.tuple ds) y u he ry
  refine SeqAt.in_tuple_reads r2 r1 se (SeqAt.canLay_of_shaped sd) ?_ ⟨.bl _, H, I, rfl, q⟩
  have : min (PyData.depthAll ds) d.depth ≤ d.depth := Nat.min_le_right _ _
  omega
abbrev sLaw : Stmt := topS 17
abbrev nLaw : List Str := ["_law_script", "_law_source_here", "_law_turn", "_law_names_here", "_law_one", "_law_kept"]
theorem scLaw : FnScope nLaw ["_law_script"] (defScope sLaw) := ⟨rfl, rfl, rfl, by decide +kernel, rfl, by decide +kernel, by decide +kernel⟩
def spLaw (K : PySem.W.Frag) (T1 T2 : Addr) : Sp := fun vs H Q _ => ∃ (a : Addr) (ns : List Int), vs = [.ref a] ∧ SqL K H a (ns.map V.int) ∧ ns.length ≤ 63 ∧ GxR.TabG H T1 ∧ GxR.TabG H T2 ∧ ∀ H', Q (.bl true) H'
/-- the tables stand -/
theorem St.kp {p c : Addr} {n : Nat} {H H' : Hp} (s : Src H p c n) (k : Kp p c H H') : ∀ T, GxR.TabG H T → GxR.TabG H' T := fun T h => TabG.kp h s k
/-- the scheme that the holders are asked of -/
structure OneAt (H : Hp) (t : Addr) (pr : Int) (sv cl : List Str) (ob : List (List Str)) (ts tc to tf : Addr) (obs : List Addr) : Prop where
  t : H t = some (.tup [.int pr, .ref ts, .ref tc, .ref to, .ref tf])
  s : TS H ts sv
  c : TS H tc cl
  o : H to = some (.tup (obs.map V.ref))
  os : GL H obs ob
  f : ∃ y, H tf = some (.tup [.ref y]) ∧ TS H y []
theorem OneAt.st {H H' : Hp} {t : Addr} {pr : Int} {sv cl : List Str} {ob : List (List Str)} {ts tc to tf : Addr} {obs : List Addr} (h : OneAt H t pr sv cl ob ts tc to tf obs) (s : St H H') : OneAt H' t pr sv cl ob ts tc to tf obs := by
  obtain ⟨y, f1, f2⟩ := h.f
  exact ⟨s.k _ _ rfl h.t, s.ts h.s, s.ts h.c, s.k _ _ rfl h.o, h.os.st s, y, s.k _ _ rfl f1, s.ts f2⟩
/-- its data -/
def dOne (pr : Int) (sv cl : List Str) (ob : List (List Str)) : PyData := .tuple [.int pr, dT sv, dT cl, .tuple (dTs ob), .tuple (dTs [[]])]
theorem OneAt.dp {K : PySem.W.Frag} {H : Hp} {t : Addr} {pr : Int} {sv cl : List Str} {ob : List (List Str)} {ts tc to tf : Addr} {obs : List Addr} (h : OneAt H t pr sv cl ob ts tc to tf obs) : Dp K H (.ref t) (dOne pr sv cl ob) := by
  obtain ⟨y, f1, f2⟩ := h.f
  exact .tup (.inl (.inl h.t)) (.cons (.int _) (.cons (dp_tup h.s) (.cons (dp_tup h.c) (.cons (.tup (.inl (.inl h.o)) (dp_GL h.os)) (.cons (.tup (.inl (.inl f1)) (.cons (dp_tup f2) .nil)) .nil)))))
theorem shw_one {pr : Int} {sv cl : List Str} {ob : List (List Str)} (hp : pr ∈ [2, 3, 5, 7, 101, 997, 499, 11]) (h1 : NmS sv) (h2 : NmS cl) (h3 : ∀ g ∈ ob, NmS g) (l : ob.length ≤ 8) : Shw (dOne pr sv cl ob) (3 + 5 * (10000 + 2)) := by
  refine shw_tup (m := 5) (fun d hd => ?_) (by show 5 ≤ 5; decide)
  rcases List.mem_cons.mp hd with z | hd
  · rw [z]; exact (shw_int hp).mono (by decide)
  rcases List.mem_cons.mp hd with z | hd
  · rw [z]; exact (shw_dT h1).mono (by decide)
  rcases List.mem_cons.mp hd with z | hd
  · rw [z]; exact (shw_dT h2).mono (by decide)
  rcases List.mem_cons.mp hd with z | hd
  · rw [z]; exact (shw_tup (m := 8) (shw_dTs h3) (by rw [dTs, List.length_map]; exact l)).mono (by decide)
  · rw [List.mem_singleton.mp hd]
    refine (shw_tup (m := 1) (n := 1000) (shw_dTs fun g hg => ?_) (by show 1 ≤ 1; decide)).mono (by decide)
    rw [List.mem_singleton.mp hg]
    exact ⟨Nat.zero_le _, fun x hx => nomatch hx⟩
theorem dep_one (pr : Int) (sv cl : List Str) (ob : List (List Str)) : (dOne pr sv cl ob).depth ≤ 30 := by
  have h1 := dep_dT sv
  have h2 := dep_dT cl
  have h3 := dep_dTs ob
  have h4 := dep_dTs [[]]
  simp only [dOne, PyData.depth, PyData.depthAll]
  omega
section
variable {P : Program} {w : World} {K : PySem.W.Frag} {mg : Str → Option Value} {base : Heap}
theorem ok_law {T1 T2 : Addr} {f fS fN fG fR fD fH : Addr} {fd fdS fdN fdG fdR fdD fdH : FuncData} (F : Fun K "law" "law" sLaw f fd)
    (S : FnOk P w K mg base CX0 1 fS fdS ["_law_script"] (spSource K)) (gS : mg "_law_source" = some (.ref fS)) (kS : PySem.W.keepIn K (.ref fS) = true) (bS : Binds K fdS ["_law_script"] [])
    (N : FnOk P w K mg base CX0 3 fN fdN ["_law_source_here", "_law_count"] spNames) (gN : mg "_law_names" = some (.ref fN)) (kN : PySem.W.keepIn K (.ref fN) = true) (bN : Binds K fdN ["_law_source_here", "_law_count"] [])
    (G : FnOk P w K mg base CX0 2 fG fdG ["_law_source_here", "_law_names_here"] spGrp) (gG : mg "_law_groups" = some (.ref fG)) (kG : PySem.W.keepIn K (.ref fG) = true) (bG : Binds K fdG ["_law_source_here", "_law_names_here"] [])
    (R : FnG P w K mg base 3 fR fdR ["_law_groups_here", "_law_names_here"] (spGr T1)) (gR : mg "_law_groups_right" = some (.ref fR)) (kR : PySem.W.keepIn K (.ref fR) = true) (bR : Binds K fdR ["_law_groups_here", "_law_names_here"] [])
    (D : FnOk P w K mg base CX0 4 fD fdD ["_law_source_here", "_law_most"] spSch) (gD : mg "_law_drawn_scheme" = some (.ref fD)) (kD : PySem.W.keepIn K (.ref fD) = true) (bD : Binds K fdD ["_law_source_here", "_law_most"] [])
    (L : FnG P w K mg base 3 fH fdH ["_law_it"] (spHr T2)) (gL : mg "_law_holders_right" = some (.ref fH)) (kL : PySem.W.keepIn K (.ref fH) = true) (bL : Binds K fdH ["_law_it"] [])
    (mr : mg "repr" = none) (mg' : mg "range" = none) : FnG P w K mg base 5 f fd ["_law_script"] (spLaw K T1 T2) := by
  refine Fun.okG F scLaw (fun vs H Q E h => ?_) (fun cdv A outer s H vs Q E hr hgu h => ?_)
  · obtain ⟨a, ns, rfl, _⟩ := h
    rfl
  · obtain ⟨a, ns, rfl, hS, hl, hT1, hT2, q⟩ := h
    have nd := scLaw.nd
    have SL := sizeLine_eq
    have hu65 : (A.deeper (envOfC "law" (defScope sLaw) s.heap.objs.size f cdv)).units + 65 < cLine := by
      have := hr.un
      omega
    refine ⟨_, pss_cons (ps_set (i := 1) nd rfl (.inl rfl) (pe_call S (hr.mono (by omega)) (by rfl) gS kS bS .nil pass0 (pa_cons (pv 0) pa_nil)))
      (pss_cons (ps_for PassesOwn.never rfl (pi_range1 (by rfl) mg' (pa_cons pe_int pa_nil)) (pg_name (i := 2) nd rfl (.inl rfl))
        (pss_cons (ps_set (i := 3) nd rfl (.inl rfl) (pe_call N (hr.mono (by omega)) (by rfl) gN kN bN .nil pass0 (pa_cons (pv 1) (pa_cons pe_int pa_nil))))
        (pss_cons (ps_if (pt_not (pt_val (pe_callG R (hr.mono (by omega)) hgu (by rfl) gR kR bR pass0 (pa_cons (pe_call G (hr.mono (by omega)) (by rfl) gG kG bG .nil pass0 (pa_cons (pv 1) (pa_cons (pv 3) pa_nil))) (pa_cons (pv 3) pa_nil))))) (pss_one (ps_ret pe_bl)) pss_nil)
        (pss_cons (ps_set (i := 4) nd rfl (.inl rfl) (pe_op op_catT (pe_slice sl_tup (pe_call D hr (by rfl) gD kD bD .nil pass0 (pa_cons (pv 1) (pa_cons pe_int pa_nil))) po_none (po_some pe_int)) (pe_tup (pa_cons (pe_tup (pa_cons (pe_tup pa_nil) pa_nil)) pa_nil))))
        (C8.pss_cut (ps_if (pt_cmpR (op_inT hu65) (pe_ix ix_tup (pv 4) pe_int (fun _ _ => rfl)) (pe_ix ix_tup (pv 4) pe_int (fun _ _ => rfl)) (by rfl))
            (pss_one (ps_set (i := 4) nd rfl (.inl rfl) (pe_op op_catT (pe_slice sl_tup (pv 4) po_none (po_some pe_int)) (pe_tup (pa_cons (pe_tup (pa_cons (pe_tup pa_nil) pa_nil)) (pa_cons (pe_tup (pa_cons (pe_tup pa_nil) pa_nil)) pa_nil)))))) pss_nil)
        (pss_cons (ps_set (i := 5) nd rfl (.inl rfl) (pe_callB (cr_repr hr hgu) (by rfl) mr (by decide +kernel) (pa_cons (pv 4) pa_nil)))
        (pss_one (ps_if (PW.pt (pw_or (pt_not (pt_val (pe_callG L (hr.mono (by omega)) hgu (by rfl) gL kL bL pass0 (pa_cons (pv 4) pa_nil)))) (pw_or1 (pt_cmpR op_ne (pe_callB (cr_repr hr hgu) (by rfl) mr (by decide +kernel) (pa_cons (pv 4) pa_nil)) (pv 5) (nomark _))))) (pss_one (ps_ret pe_bl)) pss_nil))))))))
      (pss_one (ps_ret pe_bl))), ?_⟩
    refine ⟨.ref a, rfl, a, ns, rfl, hS, hl, fun H1 p c np nc S1 s1 => ?_⟩
    refine ⟨12, rfl, by decide, by decide, for_range (n := 12) (fun i σ H' => ∃ y2 y3 y4 y5, σ = [some (.ref a), some (.ref p), y2, y3, y4, y5] ∧ Src H' p c (400 * i) ∧ GxR.TabG H' T1 ∧ GxR.TabG H' T2)
      ⟨none, none, none, none, rfl, S1, TabG.same hT1 s1, TabG.same hT2 s1⟩ (fun i σ H' hi hW => ?_) (fun σ H' hW => ?_)⟩
    · obtain ⟨y2, y3, y4, y5, rfl, S2, t1, t2⟩ := hW
      -- the names
      refine ⟨.ref p, rfl, p, c, _, rfl, S2, by omega, fun H3 l xs nl el hN S3 K3 => ?_⟩
      have nlp := S2.nep nl
      have nlc := S2.nec nl
      have t1 := St.kp S2 K3 _ t1
      have t2 := St.kp S2 K3 _ t2
      -- the groups
      refine ⟨.ref p, rfl, .ref l, rfl, p, c, l, _, xs, rfl, el, nlc, by rw [hN.len]; decide, S3, by omega, fun H4 r as gs nr er hG hs hlen S4 K4 => ?_⟩
      have el4 := K4 _ _ nlp nlc el
      have t1 := St.kp S3 K4 _ t1
      have t2 := St.kp S3 K4 _ t2
      refine ⟨.ref l, rfl, r, l, as, gs, xs, rfl, er, hG, el4, hN.asc, ⟨by rw [hN.len]; decide, hN.nm⟩, hs, by omega, t1, fun H5 st5 t1' => ?_⟩
      refine ⟨true, rfl, iteF ?_⟩
      have S5 := st5.src S4
      have t2 := st5.t _ t2
      -- the scheme
      refine ⟨.ref p, rfl, p, c, _, rfl, S5, by omega, fun H6 t pr sv cl ob fl ts tc to tf obs fls ok at6 S6 K6 => ?_⟩
      have t1 := St.kp S5 K6 _ t1'
      have t2 := St.kp S5 K6 _ t2
      obtain ⟨gs0, hgs0, hsub0, mx⟩ := ok.hob
      have hol : ob.length ≤ 6 := Nat.le_trans mx.len hgs0
      have hosub : ∀ g ∈ ob, g.Sublist sv := fun g hg => hsub0 g (mx.sub g hg)
      have nsv : NmS sv := ⟨Nat.le_trans ok.shi (by decide), ok.snm⟩
      have ncl : NmS cl := ⟨Nat.le_trans ok.chi (by decide), ok.cnm⟩
      refine ⟨4, rfl, t, _, rfl, .inl (.inl at6.t), (show ¬ ((0 : Nat) = 0 ∧ (4 : Nat) = 5) by decide), fun p1 np1 => ?_⟩
      refine ⟨Nat.zero_le _, fun y ny => ?_⟩
      refine ⟨(by show 1 ≤ sizeLine; rw [SL]; decide), fun z nz => ?_⟩
      refine ⟨(by show 1 ≤ sizeLine; rw [SL]; decide), fun z2 nz2 => ?_⟩
      have sA : Same H6 (upd (upd (upd (upd H6 p1 (.tup (cutV [.int pr, .ref ts, .ref tc, .ref to, .ref tf] none (some 4)))) y (.tup [])) z (.tup [.ref y])) z2 (.tup [.ref z])) := (((sUpd np1).trans (sUpd ny)).trans (sUpd nz)).trans (sUpd nz2)
      have e1 : (upd (upd (upd (upd H6 p1 (.tup (cutV [.int pr, .ref ts, .ref tc, .ref to, .ref tf] none (some 4)))) y (.tup [])) z (.tup [.ref y])) z2 (.tup [.ref z])) p1 = some (.tup [.int pr, .ref ts, .ref tc, .ref to]) := ((sUpd ny).trans (sUpd nz)).trans (sUpd nz2) _ _ upd_same
      have ez : (upd (upd (upd (upd H6 p1 (.tup (cutV [.int pr, .ref ts, .ref tc, .ref to, .ref tf] none (some 4)))) y (.tup [])) z (.tup [.ref y])) z2 (.tup [.ref z])) z = some (.tup [.ref y]) := sUpd nz2 _ _ upd_same
      have ey : (upd (upd (upd (upd H6 p1 (.tup (cutV [.int pr, .ref ts, .ref tc, .ref to, .ref tf] none (some 4)))) y (.tup [])) z (.tup [.ref y])) z2 (.tup [.ref z])) y = some (.tup []) := (sUpd nz).trans (sUpd nz2) _ _ upd_same
      have ez2 : (upd (upd (upd (upd H6 p1 (.tup (cutV [.int pr, .ref ts, .ref tc, .ref to, .ref tf] none (some 4)))) y (.tup [])) z (.tup [.ref y])) z2 (.tup [.ref z])) z2 = some (.tup [.ref z]) := upd_same
      generalize (upd (upd (upd (upd H6 p1 (.tup (cutV [.int pr, .ref ts, .ref tc, .ref to, .ref tf] none (some 4)))) y (.tup [])) z (.tup [.ref y])) z2 (.tup [.ref z])) = H7 at sA e1 ez ey ez2
      refine ⟨p1, z2, _, _, rfl, rfl, .inl (.inl e1), .inl (.inl ez2), by simp, (by show 5 ≤ sizeLine; rw [SL]; decide), fun e => (by cases e), fun _ o no => ?_⟩
      have sB : Same H6 (upd H7 o (.tup ([.int pr, .ref ts, .ref tc, .ref to] ++ [.ref z]))) := sA.trans (sUpd no)
      have one : OneAt (upd H7 o (.tup ([.int pr, .ref ts, .ref tc, .ref to] ++ [.ref z]))) o pr sv cl ob ts tc to z obs := ⟨upd_same, sB _ _ at6.s, sB _ _ at6.c, sB _ _ at6.o, at6.os.same sB, y, sUpd no _ _ ez, sUpd no _ _ ey⟩
      have S7 := (Same.st sB).src S6
      have t1 := TabG.same t1 sB
      have t2 := TabG.same t2 sB
      generalize (upd H7 o (.tup ([.int pr, .ref ts, .ref tc, .ref to] ++ [.ref z]))) = H8 at sB one S7 t1 t2
      -- the servers are no observer set, from here
      refine ⟨fun σ H' => ∃ (o : Addr) (ob : List (List Str)) (to tf : Addr) (obs : List Addr), σ = [some (.ref a), some (.ref p), some (.int (0 + (i : Int))), some (.ref l), some (.ref o), y5] ∧ OneAt H' o pr sv cl ob ts tc to tf obs ∧ (∀ g ∈ ob, g.Sublist sv) ∧ ob.length ≤ 6 ∧
        Src H' p c (400 * i + 7 + 100 + 200) ∧ GxR.TabG H' T1 ∧ GxR.TabG H' T2, ?_, fun σ' H' hM => ?_⟩
      · refine ⟨.ref o, rfl, o, _, _, _, rfl, rfl, .inl (.inl one.t), atI_nat (j := 1) rfl, .ref o, rfl, o, _, _, _, rfl, rfl, .inl (.inl one.t), atI_nat (j := 3) rfl, dT sv, dTs ob, dp_tup one.s, .tup (.inl (.inl one.o)) (dp_GL one.os), sh_dT _ nsv.ok, lay_dTs _ (fun g hg => (nsv.sub (hosub g hg)).ok), Nat.le_trans (dep_dT sv) (by decide), _, rfl, ite2 (fun _ => ?_) (fun _ => ?_)⟩
        · refine ⟨.ref o, rfl, 3, rfl, o, _, rfl, .inl (.inl one.t), (show ¬ ((0 : Nat) = 0 ∧ (3 : Nat) = 5) by decide), fun p2 np2 => ?_⟩
          refine ⟨Nat.zero_le _, fun ya nya => ?_⟩
          refine ⟨(by show 1 ≤ sizeLine; rw [SL]; decide), fun za nza => ?_⟩
          refine ⟨Nat.zero_le _, fun yb nyb => ?_⟩
          refine ⟨(by show 1 ≤ sizeLine; rw [SL]; decide), fun zb nzb => ?_⟩
          refine ⟨(by show 2 ≤ sizeLine; rw [SL]; decide), fun zc nzc => ?_⟩
          have k2 : (upd H8 p2 (.tup (cutV [.int pr, .ref ts, .ref tc, .ref to, .ref z] none (some 3)))) p2 = some (.tup [.int pr, .ref ts, .ref tc]) := upd_same
          have g0 : Same H8 (upd H8 p2 (.tup (cutV [.int pr, .ref ts, .ref tc, .ref to, .ref z] none (some 3)))) := sUpd np2
          generalize (upd H8 p2 (.tup (cutV [.int pr, .ref ts, .ref tc, .ref to, .ref z] none (some 3)))) = G0 at *
          have ka : (upd G0 ya (.tup [])) ya = some (.tup []) := upd_same
          have g1 : Same G0 (upd G0 ya (.tup [])) := sUpd nya
          generalize (upd G0 ya (.tup [])) = G1 at *
          have kza : (upd G1 za (.tup [.ref ya])) za = some (.tup [.ref ya]) := upd_same
          have g2 : Same G1 (upd G1 za (.tup [.ref ya])) := sUpd nza
          generalize (upd G1 za (.tup [.ref ya])) = G2 at *
          have kb : (upd G2 yb (.tup [])) yb = some (.tup []) := upd_same
          have g3 : Same G2 (upd G2 yb (.tup [])) := sUpd nyb
          generalize (upd G2 yb (.tup [])) = G3 at *
          have kzb : (upd G3 zb (.tup [.ref yb])) zb = some (.tup [.ref yb]) := upd_same
          have g4 : Same G3 (upd G3 zb (.tup [.ref yb])) := sUpd nzb
          generalize (upd G3 zb (.tup [.ref yb])) = G4 at *
          have kzc : (upd G4 zc (.tup [.ref za, .ref zb])) zc = some (.tup [.ref za, .ref zb]) := upd_same
          have g5 : Same G4 (upd G4 zc (.tup [.ref za, .ref zb])) := sUpd nzc
          generalize (upd G4 zc (.tup [.ref za, .ref zb])) = G5 at *
          have g45 := g4.trans g5
          have g25 := g3.trans g45
          have g15 := g2.trans g25
          refine ⟨p2, zc, _, _, rfl, rfl, .inl (.inl ((g1.trans g15) _ _ k2)), .inl (.inl kzc), by simp, (by show 5 ≤ sizeLine; rw [SL]; decide), fun e => (by cases e), fun _ o2 no2 => ?_⟩
          have g6 : Same G5 (upd G5 o2 (.tup ([.int pr, .ref ts, .ref tc] ++ [.ref za, .ref zb]))) := sUpd no2
          have g08 := (g0.trans g1).trans (g15.trans g6)
          exact ⟨o2, [[]], za, zb, [ya], rfl, ⟨upd_same, g08 _ _ one.s, g08 _ _ one.c, (g25.trans g6) _ _ kza, .cons ((g15.trans g6) _ _ ka) .nil, yb, (g5.trans g6) _ _ kzb, (g45.trans g6) _ _ kb⟩,
            fun g hg => by rw [List.mem_singleton.mp hg]; exact List.nil_sublist _, by decide, (Same.st g08).src S7, TabG.same t1 g08, TabG.same t2 g08⟩
        · exact ⟨o, ob, to, z, obs, rfl, one, hosub, hol, S7, t1, t2⟩
      · obtain ⟨o, ob, to, tf, obs, rfl, one, hosub, hol, S7, t1, t2⟩ := hM
        have sh := shw_one ok.hpr nsv ncl (fun g hg => nsv.sub (hosub g hg)) (Nat.le_trans hol (by decide))
        refine ⟨.ref o, rfl, o, _, rfl, one.dp, sh.ok, sh.nd, dep_one pr sv cl ob, Nat.le_trans sh.le (by rw [SL]; decide), ?_⟩
        refine ⟨.ref o, rfl, o, ts, to, .int pr, .ref tc, .ref tf, sv, obs, ob, rfl, one.t, one.s, ok.sasc, nsv, one.o, one.os, hosub, by omega, t2, fun H9 st9 t2' => ?_⟩
        refine ⟨true, rfl, iteF ?_⟩
        have one9 := one.st st9
        refine ⟨.ref o, rfl, o, _, rfl, one9.dp, sh.ok, sh.nd, dep_one pr sv cl ob, Nat.le_trans sh.le (by rw [SL]; decide), ?_⟩
        refine ⟨_, rfl, rfl, false, by simp, iteF ?_⟩
        exact ⟨_, _, _, _, rfl, (st9.src S7).mono (by omega), st9.t _ t1, t2'⟩
    · exact q _
end
end Lk
set_option maxRecDepth 100000
set_option maxHeartbeats 2000000
namespace Lk
open PySem PySem.Spec PyProof.Rows L2 LamX
/-- a def of the module, behind the top -/
def HasDef (K : PySem.W.Frag) (mg : Str → Option Value) (x : Str) (st : Stmt) : Prop := ∃ f fd, Fun K x x st f fd ∧ mg x = some (.ref f)
theorem hasDef_mk {K : PySem.W.Frag} {h : Heap} {mg : Str → Option Value} {x : Str} {st : Stmt} {f : Addr} (X : K.In h) (G : h.Ns mainGlobals mg) {od an : Option Addr} {sl : Array (Option Value)} {oc kV dc pm cd ct : Value}
    (a : PySem.W.nsIn K mainGlobals x = some (some (.ref f))) (l : K.lookup f = some ⟨oc, od, .func (PySem.W.fnOf x x (defArgs st) (defBody st) (defScope st) .none kV dc pm an cd ct), sl⟩) (c : PySem.W.codeIn K cd x = true) (k : PySem.W.keepIn K (.ref f) = true) : HasDef K mg x st :=
  ⟨f, _, fun_mk l c k, PySem.W.mg_of X G a⟩
/-- one whose own table of code objects is empty as yet -/
def HasTab (K : PySem.W.Frag) (mg : Str → Option Value) (h : Heap) (x : Str) (st : Stmt) : Prop :=
  ∃ f fd c T, FunC K x st f c fd ∧ mg x = some (.ref f) ∧ PySem.W.CodeHd h c T ∧ K.lookup T = none ∧ h.get? T = some { cls := .none, data := .fields #[] }
theorem hasTab_mk {K : PySem.W.Frag} {h : Heap} {mg : Str → Option Value} {x : Str} {st : Stmt} {f c T : Addr} (X : K.In h) (G : h.Ns mainGlobals mg) (O : ∀ f, mg x = some (.ref f) → OwnTab K f h) {od an od2 : Option Addr} {sl sl2 : Array (Option Value)} {oc kV dc pm ct e2 : Value} {vs : Array Value}
    (a : PySem.W.nsIn K mainGlobals x = some (some (.ref f))) (l : K.lookup f = some ⟨oc, od, .func (PySem.W.fnOf x x (defArgs st) (defBody st) (defScope st) .none kV dc pm an (.ref c) ct), sl⟩) (c' : PySem.W.codeIn K (.ref c) x = true) (k : PySem.W.keepIn K (.ref f) = true)
    (l2 : K.lookup c = some ⟨e2, od2, .fields vs, sl2⟩) (v : vs[11]? = some (.ref T)) (hh : PySem.W.codeHdIn K c T = true) (n : (K.lookup T).isNone = true) : HasTab K mg h x st := by
  have m := PySem.W.mg_of X G a
  exact ⟨f, _, c, T, FunC.mk' l c' k, m, PySem.W.codeHd_of_K X hh, Option.isNone_iff_eq_none.mp n, O f m c T _ _ _ _ _ _ l rfl rfl l2 v⟩
theorem all_mk {l : PySem.W.OpenLaw} {w : World} {K : PySem.W.Frag} {h : Heap} {mg : Str → Option Value} {fa : Addr} (X : K.In h) (G : h.Ns mainGlobals mg) (hfa : mg "law" = some (.ref fa))
    (d1 : HasTab K mg h "is_subset" sSub) (d2 : HasDef K mg "union" sUn) (d4 : HasTab K mg h "holders" sHol) (d6 : HasDef K mg "_law_source" sSource) (d7 : HasDef K mg "_law_draw" sDraw) (d8 : HasDef K mg "_law_pick" sPick) (d9 : HasDef K mg "_law_names" sNames)
    (d10 : HasDef K mg "_law_some" sSome) (d11 : HasDef K mg "_law_maximal" sMax) (d12 : HasDef K mg "_law_drawn_scheme" sSch) (d13 : HasDef K mg "_law_groups" sGrp) (d14 : HasDef K mg "_law_union_expected" sUe) (d15 : HasDef K mg "_law_groups_right" sGr) (d16 : HasDef K mg "_law_holders_right" sHr) (d17 : HasDef K mg "law" sLaw)
    (z1 : PySem.W.nsIn K mainGlobals "list" = some none) (z2 : PySem.W.nsIn K mainGlobals "len" = some none) (z3 : PySem.W.nsIn K mainGlobals "range" = some none) (z4 : PySem.W.nsIn K mainGlobals "sorted" = some none) (z5 : PySem.W.nsIn K mainGlobals "tuple" = some none)
    (z6 : PySem.W.nsIn K mainGlobals "dict" = some none) (z7 : PySem.W.nsIn K mainGlobals "int" = some none) (z8 : PySem.W.nsIn K mainGlobals "repr" = some none) (z9 : PySem.W.nsIn K mainGlobals "all" = some none) :
    LawAtG l w K 5 63 "_law_script" mg fa h := by
  obtain ⟨f1, fd1, c1, T1, F1, m1, C1, n1, e1⟩ := d1
  obtain ⟨f2, fd2, F2, m2⟩ := d2
  obtain ⟨f4, fd4, c4, T4, F4, m4, C4, n4, e4⟩ := d4
  obtain ⟨f6, fd6, F6, m6⟩ := d6
  obtain ⟨f7, fd7, F7, m7⟩ := d7
  obtain ⟨f8, fd8, F8, m8⟩ := d8
  obtain ⟨f9, fd9, F9, m9⟩ := d9
  obtain ⟨f10, fd10, F10, m10⟩ := d10
  obtain ⟨f11, fd11, F11, m11⟩ := d11
  obtain ⟨f12, fd12, F12, m12⟩ := d12
  obtain ⟨f13, fd13, F13, m13⟩ := d13
  obtain ⟨f14, fd14, F14, m14⟩ := d14
  obtain ⟨f15, fd15, F15, m15⟩ := d15
  obtain ⟨f16, fd16, F16, m16⟩ := d16
  obtain ⟨f17, fd17, F17, m17⟩ := d17
  have eL : f17 = fa := by
    have z := m17.symm.trans hfa
    cases z
    rfl
  subst eL
  have z1 := PySem.W.mg_none_of X G z1
  have z2 := PySem.W.mg_none_of X G z2
  have z3 := PySem.W.mg_none_of X G z3
  have z4 := PySem.W.mg_none_of X G z4
  have z5 := PySem.W.mg_none_of X G z5
  have z6 := PySem.W.mg_none_of X G z6
  have z7 := PySem.W.mg_none_of X G z7
  have z8 := PySem.W.mg_none_of X G z8
  have z9 := PySem.W.mg_none_of X G z9
  have b1 := F1.func.binds (ps := ["first", "second"]) fun _ _ _ _ _ _ us hl => match us, hl with | [_, _], _ => rfl
  have b2 := F2.binds (ps := ["sets"]) fun _ _ _ _ _ _ us hl => match us, hl with | [_], _ => rfl
  have b4 := F4.func.binds (ps := ["scheme", "index"]) fun _ _ _ _ _ _ us hl => match us, hl with | [_, _], _ => rfl
  have b6 := F6.binds (ps := ["_law_script"]) fun _ _ _ _ _ _ us hl => match us, hl with | [_], _ => rfl
  have b7 := F7.binds (ps := ["_law_source_here", "_law_limit"]) fun _ _ _ _ _ _ us hl => match us, hl with | [_, _], _ => rfl
  have b8 := F8.binds (ps := ["_law_source_here", "_law_options"]) fun _ _ _ _ _ _ us hl => match us, hl with | [_, _], _ => rfl
  have b9 := F9.binds (ps := ["_law_source_here", "_law_count"]) fun _ _ _ _ _ _ us hl => match us, hl with | [_, _], _ => rfl
  have b10 := F10.binds (ps := ["_law_source_here", "_law_names_here"]) fun _ _ _ _ _ _ us hl => match us, hl with | [_, _], _ => rfl
  have b11 := F11.binds (ps := ["_law_groups_here"]) fun _ _ _ _ _ _ us hl => match us, hl with | [_], _ => rfl
  have b12 := F12.binds (ps := ["_law_source_here", "_law_most"]) fun _ _ _ _ _ _ us hl => match us, hl with | [_, _], _ => rfl
  have b13 := F13.binds (ps := ["_law_source_here", "_law_names_here"]) fun _ _ _ _ _ _ us hl => match us, hl with | [_, _], _ => rfl
  have b14 := F14.binds (ps := ["_law_groups_here", "_law_names_here"]) fun _ _ _ _ _ _ us hl => match us, hl with | [_, _], _ => rfl
  have b15 := F15.binds (ps := ["_law_groups_here", "_law_names_here"]) fun _ _ _ _ _ _ us hl => match us, hl with | [_, _], _ => rfl
  have b16 := F16.binds (ps := ["_law_it"]) fun _ _ _ _ _ _ us hl => match us, hl with | [_], _ => rfl
  have b17 := F17.binds (ps := ["_law_script"]) fun _ _ _ _ _ _ us hl => match us, hl with | [_], _ => rfl
  have bL : ∀ (s : Shared) (u : Value), BindsTo s fd17 ⟨[u], []⟩ [("_law_script", u)] := by
    obtain ⟨oc, od, kV, doc, pm, an, cdv, ct, osl, rfl, _⟩ := F17.ex
    exact fun s u => .of_eq rfl
  refine ⟨fd17, [(c1, T1), (c4, T4)], spLaw K T1 T4, ?_, ?_, ?_, bL, fun H a ns hlen _ hT hS => ⟨a, ns, rfl, hS, hlen, ⟨#[], hT (c1, T1) (by simp), trivial⟩, ⟨#[], hT (c4, T4) (by simp), trivial⟩, fun _ => rfl⟩, fun base _ _ TB => ?_⟩
  · intro p hp
    rcases List.mem_cons.mp hp with z | hp
    · rw [z]; exact e1
    · rw [List.mem_singleton.mp hp]; exact e4
  · intro p hp
    rcases List.mem_cons.mp hp with z | hp
    · rw [z]; exact n1
    · rw [List.mem_singleton.mp hp]; exact n4
  · intro p hp
    rcases List.mem_cons.mp hp with z | hp
    · rw [z]; exact C1
    · rw [List.mem_singleton.mp hp]; exact C4
  · have tb1 := TB (c1, T1) (by simp)
    have tb4 := TB (c4, T4) (by simp)
    have G7 := ok_draw (P := l.prog) (w := w) (mg := mg) (base := base) (k := 0) F7
    have G8 := ok_pick (k := 0) F8 G7 m7 F7.kp b7 z2
    have G9 := ok_names (k := 0) F9 G7 m7 F7.kp b7 G8 m8 F8.kp b8 z3 z4
    have G10 := ok_some (k := 0) F10 G7 m7 F7.kp b7 z5
    have G11 := ok_max (P := l.prog) (w := w) (mg := mg) (base := base) (k := 0) F11 z4 z1 z6 z5
    have G12 := ok_sch (k := 0) F12 G7 m7 F7.kp b7 G8 m8 F8.kp b8 G9 m9 F9.kp b9 G10 m10 F10.kp b10 G11 m11 F11.kp b11 z3 z4 z5 z1 z2
    have G13 := ok_grp (k := 0) F13 G7 m7 F7.kp b7 z3 z5 z7
    have G6 := ok_source (P := l.prog) (w := w) (mg := mg) (base := base) (k := 0) F6 z1
    have G14 := ok_ue (P := l.prog) (w := w) (mg := mg) (base := base) (k := 0) F14 z5
    have G2 := ok_union (P := l.prog) (w := w) (mg := mg) (base := base) (k := 0) F2 z4 z5
    have G1 := ok_sub (P := l.prog) (w := w) (k := 0) F1 ⟨tb1.code, tb1.bm, tb1.gP⟩ z9
    have G4 := ok_hol (P := l.prog) (w := w) (k := 0) F4 ⟨tb4.code, tb4.bm, tb4.gP⟩ z5
    have G15 := ok_gr (k := 0) F15 G14 m14 F14.kp b14 G2 m2 F2.kp b2 (kb_union F2) G1 m1 F1.kp b1 (kb_sub F1.func) z8 z5
    have G16 := ok_hr (k := 0) F16 G2 m2 F2.kp b2 G4 m4 F4.kp b4 (kb_hol F4.func) z8 z5 z3 z2
    exact ok_law F17 G6 m6 F6.kp b6 G9 m9 F9.kp b9 G13 m13 F13.kp b13 G15 m15 F15.kp b15 G12 m12 F12.kp b12 G16 m16 F16.kp b16 z8 z3
end Lk
set_option maxRecDepth 100000
open PySem PySem.W PyProof.Rows
set_option maxHeartbeats 0 in
theorem PySem.Challenge.cw_lotkept_k06_unions_subsets_holders_holds : PySem.Challenge.rw_lotkept_k06_unions_subsets_holders.Holds := by
  w_on; o_law; k_head; (case hw => w_witness2)
  k_fill
  refine Lk.walk_G (l := PySem.Challenge.rw_lotkept_k06_unions_subsets_holders) (n := 63) (k := 5) (x := "_law_script") rfl (by decide) rfl ⟨rfl, by decide, by decide⟩ (fun w h Y => PySem.W.kIn_of Y) ?F
  case F =>
    intro w mg fa h Y KX G hmg tabs
    refine' Lk.all_mk KX G hmg ?d1 ?d2 ?d4 ?d6 ?d7 ?d8 ?d9 ?d10 ?d11 ?d12 ?d13 ?d14 ?d15 ?d16 ?d17 ?z1 ?z2 ?z3 ?z4 ?z5 ?z6 ?z7 ?z8 ?z9
    case d1 =>
      refine' Lk.hasTab_mk KX G (fun f hf => tabs _ f (by decide +kernel) hf) ?a ?l ?c ?k ?l2 ?v ?hh ?n
      (case a => k_is); (case l => k_is); (case c => k_is); (case k => k_is); (case l2 => k_is); (case v => rfl); (case hh => kernel_rfl); (case n => kernel_rfl)
    case d2 =>
      refine' Lk.hasDef_mk KX G ?a ?l ?c ?k
      (case a => k_is); (case l => k_is); (case c => k_is); (case k => k_is)
    case d4 =>
      refine' Lk.hasTab_mk KX G (fun f hf => tabs _ f (by decide +kernel) hf) ?a ?l ?c ?k ?l2 ?v ?hh ?n
      (case a => k_is); (case l => k_is); (case c => k_is); (case k => k_is); (case l2 => k_is); (case v => rfl); (case hh => kernel_rfl); (case n => kernel_rfl)
    case d6 =>
      refine' Lk.hasDef_mk KX G ?a ?l ?c ?k
      (case a => k_is); (case l => k_is); (case c => k_is); (case k => k_is)
    case d7 =>
      refine' Lk.hasDef_mk KX G ?a ?l ?c ?k
      (case a => k_is); (case l => k_is); (case c => k_is); (case k => k_is)
    case d8 =>
      refine' Lk.hasDef_mk KX G ?a ?l ?c ?k
      (case a => k_is); (case l => k_is); (case c => k_is); (case k => k_is)
    case d9 =>
      refine' Lk.hasDef_mk KX G ?a ?l ?c ?k
      (case a => k_is); (case l => k_is); (case c => k_is); (case k => k_is)
    case d10 =>
      refine' Lk.hasDef_mk KX G ?a ?l ?c ?k
      (case a => k_is); (case l => k_is); (case c => k_is); (case k => k_is)
    case d11 =>
      refine' Lk.hasDef_mk KX G ?a ?l ?c ?k
      (case a => k_is); (case l => k_is); (case c => k_is); (case k => k_is)
    case d12 =>
      refine' Lk.hasDef_mk KX G ?a ?l ?c ?k
      (case a => k_is); (case l => k_is); (case c => k_is); (case k => k_is)
    case d13 =>
      refine' Lk.hasDef_mk KX G ?a ?l ?c ?k
      (case a => k_is); (case l => k_is); (case c => k_is); (case k => k_is)
    case d14 =>
      refine' Lk.hasDef_mk KX G ?a ?l ?c ?k
      (case a => k_is); (case l => k_is); (case c => k_is); (case k => k_is)
    case d15 =>
      refine' Lk.hasDef_mk KX G ?a ?l ?c ?k
      (case a => k_is); (case l => k_is); (case c => k_is); (case k => k_is)
    case d16 =>
      refine' Lk.hasDef_mk KX G ?a ?l ?c ?k
      (case a => k_is); (case l => k_is); (case c => k_is); (case k => k_is)
    case d17 =>
      refine' Lk.hasDef_mk KX G ?a ?l ?c ?k
      (case a => k_is); (case l => k_is); (case c => k_is); (case k => k_is)
    (case z1 => k_is)
    (case z2 => k_is)
    (case z3 => k_is)
    (case z4 => k_is)
    (case z5 => k_is)
    (case z6 => k_is)
    (case z7 => k_is)
    (case z8 => k_is)
    (case z9 => k_is)
