import PyProof.Rows.All
import Wide.All
import OpenK.AllK
import Wide.FinOn
import HandS.ForMost
import HandS.ForExc
import HandS.IsInst
import HandS.Wide
import HandS.Gcd
import HandS.Zip
import HandS.Rev
import HandS.TupAny
import HandS.Strs
import HandS.SortInts
import HandS.ExcInit
import HandS.Nested
import KE.KExcSuper
import HandS.Walk
import KE.GoesEnum
import HandS.SetFor
import PySem.Challenge.RW_hushgrain_k01_numbers_and_forms
import HandS.ExcIs
import HandS.Defaults

set_option Elab.async false
set_option linter.all false
set_option maxRecDepth 100000
set_option maxHeartbeats 2000000
namespace Hg
open PySem PySem.Spec PyProof.Rows L2

section
variable {X : Cx}
/-! ### operators of several kinds at once -/
abbrev rAddI : R2 := rI0 fun i j => .int (i + j)
abbrev rAddS : R2 := fun x y H Q => ∃ i j, x = .str i ∧ y = .str j ∧ i.length + j.length ≤ sizeLine ∧ Q (.str (i ++ j)) H
def rPlus (K : PySem.W.Frag) : R2 := fun x y H Q => rAddI x y H Q ∨ (rCat x y H Q ∨ (rCatA K x y H Q ∨ rAddS x y H Q))
theorem oAdd : OpR X (binaryOp .Add) (rPlus X.K) := op_add.or (op_cat.or (op_catA.or op_add_str))
abbrev rMulI : R2 := rI CMulW fun i j => .int (i * j)
theorem oMul : OpR X (binaryOp .Mult) rMulI := op_mulW
/-- // by any divisor but 0 below 2 ^ 9000 in size -/
def CDivA (_ j : Int) : Prop := j ≠ 0 ∧ j.natAbs.log2 < 9000
abbrev rDivI : R2 := rI CDivA fun i j => .int (i.fdiv j)
theorem oDiv : OpR X (binaryOp .FloorDiv) rDivI := opI fun i j _ _ _ _ _ hc q =>
  PyProof.Rows.floordiv_int hc.1 q (.inl (PyProof.noPylong_of_log2 hc.2))
abbrev rModI : R2 := rI (fun _ j => j ≠ 0) fun i j => .int (i.fmod j)
theorem oMod : OpR X (binaryOp .Mod) rModI := op_modN
def rEqA (K : PySem.W.Frag) : R2 := fun x y H Q => rEq x y H Q ∨ rEqD K x y H Q
def rNeA (K : PySem.W.Frag) : R2 := fun x y H Q => rNe x y H Q ∨ rNeD K x y H Q
theorem oEq (hu : X.A.units + 64 < cLine) : OpR X (compareOp .Eq) (rEqA X.K) := op_eq.or (op_eqD hu)
theorem oNe (hu : X.A.units + 64 < cLine) : OpR X (compareOp .NotEq) (rNeA X.K) := op_ne.or (op_neD hu)
def rSlAll (K : PySem.W.Frag) : V → Option Int → Option Int → Hp → VK → Prop := fun x lo hi H Q => rSlL K x lo hi H Q ∨ rSlA K x lo hi H Q
theorem oSl : SlR X (rSlAll X.K) := sl_list.or sl_tupA
/-! ### isqrt -/
def rIsqrt : List V → Hp → VK → Prop := fun vs H Q => ∃ a : Int, vs = [.int a] ∧ 0 ≤ a ∧ a < 2 ^ 64 ∧ Q (.int ((Float64.isqrt a.toNat : Nat) : Int)) H
theorem cr_isqrt : CallR X (.builtin "math.isqrt") rIsqrt := by
  intro pins s σ H vs us Q I r h
  obtain ⟨a, rfl, h0, h1, q⟩ := h
  obtain ⟨u, rfl, t, rfl⟩ := Vals.one r
  exact PySem.W.mg_isqrt h0 h1 ⟨.int _, H, I.tok _, ⟨_, rfl⟩, q⟩
end
end Hg

set_option maxHeartbeats 4000000
namespace Hg
open PySem PySem.Spec PyProof.Rows L2

/-- what the top has left of an error class at C whose __init__ stands at fI, its class cell at cc, its code at cda -/
structure ErrK (P : Program) (K : PySem.W.Frag) (mg : Str → Option Value) (C fI cc cda : Addr) : Prop where
  oex : OexC K C
  code : ∃ (ccl : Value) (cdd : Option Addr) (vs : Array Value) (ccs : Array (Option Value)) (tf : Tok) (fl : Str), K.lookup cda = some ⟨ccl, cdd, .fields vs, ccs⟩ ∧ vs[2]? = some (.str fl tf) ∧ ((P.main.file : Str) == fl) = true
  cell : ∃ (cl : Value) (cld : Option Addr) (csl : Array (Option Value)), K.lookup cc = some ⟨cl, cld, .cell (some (.ref C)), csl⟩
  cls : ∃ cd, PySem.W.clsIn K C = some cd
  own : PySem.W.mroIn K C (.ref C) = some true
  ve : PySem.W.subIn K (.ref C) (.type "ValueError") = some true
  sup : PySem.W.ks_superIn K C C "__init__" = some (some (.builtin "ValueError.__init__"))
  opq : PySem.W.nsIn K cStatics "thirdparty.any" = some none
  zsup : mg "super" = none
  top : (P.main.scope.names.lookup ("super" : Str)).isSome = false

section
variable {P : Program} {w : World} {K : PySem.W.Frag} {mg : Str → Option Value} {base : Heap} {CX : CXT} {C fI cc cda : Addr}
variable {qual : Str} {params : Arguments} {rest : List Stmt} {scope : Scope} {doc pm ct oc : Value} {od : Option Addr} {osl : Array (Option Value)} {N ps : List Str} {k : Nat} {sp : Sp}

def nfOf (qual : Str) (params : Arguments) (body : List Stmt) (scope : Scope) (cc cda : Addr) : NdefX.NF := ⟨"__init__", qual, params, body, scope, [("__class__", cc)], cda⟩

theorem cls_data {h : Heap} {cd : ClassData} (X : K.In h) (e : PySem.W.clsIn K C = some cd) : ∃ o, h.get? C = some o ∧ o.data = .cls cd := by
  unfold PySem.W.clsIn at e
  split at e
  · cases e
    exact ⟨_, X _ _ (by assumption), rfl⟩
  · cases e

theorem exo_inst {h : Heap} {x t1 : Addr} (e : h.get? x = some ({ cls := .ref C, dict := none, data := .fields #[.ref t1, .none, .none, .none, .bool false, .none] } : Obj)) :
    PySem.W.InstAt h x { cls := .ref C, dict := none, data := .fields #[.ref t1, .none, .none, .none, .bool false, .none] } C none := ⟨e, rfl, rfl, trivial⟩

/-- the class cell as the captured name -/
theorem cells_at (T : ErrK P K mg C fI cc cda) {h : Heap} {H : Hp} (X : K.In h) (hn : H cc = none) : NdefX.CellsAt [("__class__", cc)] ["__class__"] [some (.ref C)] h H := by
  obtain ⟨cl, cld, csl, e⟩ := T.cell
  have hc : h.IsCell cc (some (.ref C)) := ⟨_, X _ _ e, rfl⟩
  have key : ∀ y c, List.lookup y [(("__class__" : Str), cc)] = some c → y = "__class__" ∧ c = cc := fun y c q => by
    simp only [List.lookup] at q
    split at q
    · exact ⟨by simpa using (by assumption : (y == ("__class__" : Str)) = true), (Option.some.inj q).symm⟩
    · cases q
  refine ⟨rfl, fun y c q => ?_, fun x y c a b => ((key x c a).1).trans ((key y c b).1).symm, fun i y q => ?_⟩
  · obtain ⟨_, rfl⟩ := key y c q
    exact ⟨hn, _, hc⟩
  · cases i with
    | zero =>
      have e2 : y = "__class__" := (Option.some.inj q).symm
      subst e2
      refine ⟨cc, by simp [List.lookup], fun v hv => ?_⟩
      have e3 : v = .ref C := (Option.some.inj (Option.some.inj hv)).symm
      subst e3
      exact ⟨.ref C, rfl, hc⟩
    | succ n => simp at q
/-- the equation of the tree super().__init__('text'), by rfl where the places are written -/
def SupEq (F : NdefX.NF) (fI L : Addr) (txt : Str) (jj : Nat) (p0 p1 p2 p3 p4 : Pos) (pl : Sem Bool) : Prop :=
  eval (.Call (.Attribute (.Call (.Name "super" p0) [] [] p1) "__init__" p2) [.Constant (.str txt) jj p3] [] p4) (NdefX.envF F fI L) = (do
    let ov ← attributeBase (.Call (.Name "super" p0) [] [] p1) "__init__" (NdefX.envF F fI L) (eval (.Call (.Name "super" p0) [] [] p1) (NdefX.envF F fI L))
    standAt p2.atName
    let (f, first) ← holding [ov] (getMethod ov "__init__" pl)
    callWith p4 f first (backTo p4 (starEach [.Constant (.str txt) jj p3] (NdefX.envF F fI L))) [])
/-- super().__init__('text') as the first row of an error's __init__: behind it all that was tracked stands -/
theorem super_run (T : ErrK P K mg C fI cc cda) {body : List Stmt} {txt : Str} {jj : Nat} {p0 p1 p2 p3 p4 p5 : Pos}
    {A : Around} {outer : List Env} {s : Shared} {H H0 : Hp} {E : XK} {s1 : Shared} {ws : List (Option V)} {a : Addr}
    (S : NdefX.NScope N ps ["__class__"] scope) (lf : K.lookup fI = some ⟨oc, od, .func ((nfOf qual params body scope cc cda).fd doc pm ct), osl⟩)
    (par : ∃ ar, (params.posonlyargs ++ params.args).head? = some ar ∧ ar.arg = "self") (hself : N[0]? = some ("self" : Str)) (hks : scope.names.lookup ("super" : Str) = some .globalImplicit) (hkc : scope.names.lookup ("__class__" : Str) = some .free) (hka : scope.names.lookup ("self" : Str) = some .local)
    (I : Inv (NdefX.ncx CX P w K mg base N (nfOf qual params body scope cc cda) fI A outer s H0 E) [] ws H s1) (hw : ws[0]? = some (some (.ref a))) (ea : H a = some (exo a C none))
    {Q : Flow → Shared → Prop} {E1 : Value → Shared → Prop} {pl : Sem Bool} (he : ∀ L, SupEq (nfOf qual params body scope cc cda) fI L txt jj p0 p1 p2 p3 p4 pl)
    (q : ∀ s2, Inv (NdefX.ncx CX P w K mg base N (nfOf qual params body scope cc cda) fI A outer s H0 E) [] ws H s2 → Q .next s2) :
    PySem.wpAt (model P w) (A.deeper (NdefX.envF (nfOf qual params body scope cc cda) fI s.heap.objs.size)) (.func body (NdefX.envF (nfOf qual params body scope cc cda) fI s.heap.objs.size))
      (exec (.Expr (.Call (.Attribute (.Call (.Name "super" p0) [] [] p1) "__init__" p2) [.Constant (.str txt) jj p3] [] p4) p5) (NdefX.envF (nfOf qual params body scope cc cda) fI s.heap.objs.size)) Q E1 s1 := by
  obtain ⟨ccl, cdd, cvs, ccs, tf, fl, lcode, hv2, hfile⟩ := T.code
  obtain ⟨cl, cld, csl, lcell⟩ := T.cell
  obtain ⟨cd, hcd⟩ := T.cls
  obtain ⟨ar, har, hars⟩ := par
  have X : K.In s1.heap := I.kIn
  obtain ⟨oD, hD1, hD2⟩ := cls_data X hcd
  obtain ⟨m, hns, hloc⟩ := I.loc
  obtain ⟨u, ru, hu⟩ := hloc 0 "self" (.ref a) hself hw (.inl hka)
  cases (show u = Value.ref a from ru)
  have hm : m "self" = some (.ref a) := by
    rcases hu with ⟨_, z⟩ | ⟨z, _⟩
    · exact z
    · rcases z with z | z
      · have z2 := hka.symm.trans z
        cases z2
      · have z2 := hka.symm.trans z
        cases z2
  obtain ⟨t1, ho⟩ := exo_at I.hok ea
  have hloc0 : (NdefX.envF (nfOf qual params body scope cc cda) fI s.heap.objs.size).kindOf "self" = some .local := hka
  refine PySem.ks_wpAt_Expr_any (PySem.ks_wpAt_MethodCall ?_ (he s.heap.objs.size)) I.quiet rfl
  refine PySem.ks_wpAt_super_base (ar := ar) (vs := cvs) (file := fl) (tf := tf) (cc := cda) hks hkc (by decide) rfl (X _ _ lf) rfl har rfl (X _ _ lcode) rfl hv2 hfile T.top ?_
  obtain ⟨mb, hb1, hb2⟩ := I.mod.blt
  have hg : (NdefX.envF (nfOf qual params body scope cc cda) fI s.heap.objs.size).kindOf "super" = some .globalImplicit := hks
  refine PySem.W.ks_loadName_global S.kind hg (Calls.loadGlobal_builtin (I.mod.glob.keeps I.bk) T.zsup (hb1.keeps I.bk) ((hb2 _ (by decide +kernel)).trans PyProof.Rows.Boot.«super») ⟨rfl, ?_⟩)
  refine wpAny_loadName_free S.kind hkc rfl ⟨_, X _ _ lcell, rfl⟩ ?_
  rw [hars]
  refine wpAny_loadName_local S.kind hka hns hm ?_
  obtain ⟨hp, g, d, t, os⟩ := s1
  refine PySem.ks_wpAny_isType_cls hD1 hD2 ⟨rfl, ?_⟩
  refine PySem.ks_wpAny_call_super hD1 hD2 ho rfl (fun c z => by cases z) (PySem.W.looks_mroIn X T.own) (fun h2 e2 k2 => ?_)
  have I2 := I.kept (h' := h2) (t' := t) k2
  have X2 : K.In h2 := I2.kIn
  have ho2 := k2 _ _ ho
  have hin : PySem.W.Looks (model P w) h2 (isInstance (.ref a) (.type "ValueError")) true := (exo_inst ho2).type.andThen (PySem.W.looks_subIn X2 T.ve)
  have hsup := T.sup
  unfold PySem.W.ks_superIn at hsup
  rw [hcd, Option.bind_some] at hsup
  have hac : a ≠ C := PySem.W.ks_ne X2 (exo_inst ho2) hcd
  refine PySem.W.kxs_getMethod PySem.W.kxs_ValueError e2 (PySem.W.looks_opaque X2 T.opq) (l₀ := cd.mro) (fun A Q E s k q => wpAny_bind ((PySem.W.looks_clsIn X2 hcd) A _ E s k (wpAny_pure q))) rfl X2 hsup hin hac (by decide) ?_
  have k3 : ∀ b o, h2.get? b = some o → (h2.push (PySem.W.kxs_mw "ValueError.__init__" a)).get? b = some o := fun b o e => Heap.get?_push_of_some _ e
  have e3 : (h2.push (PySem.W.kxs_mw "ValueError.__init__" a)).get? h2.objs.size = some (PySem.W.kxs_mw "ValueError.__init__" a) := Heap.get?_push_at rfl rfl
  have I3 := I2.kept (h' := h2.push (PySem.W.kxs_mw "ValueError.__init__" a)) (t' := t + 1) k3
  refine PySem.W.kxs_callWith (i := "ValueError.__init__") (x := a) rfl ?_
  have hst : starEach [Expr.Constant (.str txt) jj p3] (NdefX.envF (nfOf qual params body scope cc cda) fI s.heap.objs.size) = (false, eval (Expr.Constant (.str txt) jj p3) (NdefX.envF (nfOf qual params body scope cc cda) fI s.heap.objs.size)) :: starEach [] (NdefX.envF (nfOf qual params body scope cc cda) fI s.heap.objs.size) := rfl
  rw [hst]
  refine PySem.Calls.evalArgs_plain (PyProof.Rows.args_cons (PySem.Calls.Constant_str (PyProof.Rows.args_nil ⟨e3, ?_⟩)) rfl)
  have ho3 := k3 _ _ ho2
  obtain ⟨nm, qn, NN, bs, bm, sn, sub, ab, col, dd, k0, k1, k2', k3', k5, hC, hbm⟩ := T.oex.cls
  have hC3 := k3 _ _ (X2 _ _ hC)
  refine wpAny_call (codeAny_of_tree ?_)
  show PySem.wpAny _ _ (callAny (.ref h2.objs.size) ⟨_, []⟩) _ _ _
  simp only [callAny]
  refine wpAny_bind (wpAny_load e3 ?_)
  have mw1 : (Value.type "method-wrapper" == Value.type "method" || Value.type "method-wrapper" == Value.type "builtin_function_or_method" || Value.type "method-wrapper" == Value.type "method-wrapper") = true := by decide
  simp only [PySem.W.kxs_mw, mw1, if_true]
  refine PySem.W.KFB.if_so (by decide) (wpAny_bind (PySem.W.check_bound_init F.excBase_ValueError.toExcCallFacts hC3 ho3 rfl ?_))
  refine wpAny_bind (wpAny_pure (wpAny_pure ⟨plainId_quiet F.excBase_ValueError.init.plain _, codeAny_builtin F.excBase_ValueError.initEntry ?_⟩))
  refine PySem.W.exc_init_tree (cls := .ref C) (t0 := t1) (dv := none) (c2 := .none) (c3 := .none) (b4 := .bool false) ho3 (by rw [sizeLine_eq]; exact (by decide : 1 ≤ 16777216)) fun h5 k5 e5 _ => ?_
  have I5 := I3.write (t' := t + 1 + 1) (x := a) (e := a) (o := exo a C none) (by rw [ea]; exact True.intro) (.inl rfl) k5 ⟨_, e5⟩ (exo_ok e5)
  have eu : upd H a (exo a C none) = H := by
    funext b
    by_cases hb : b = a
    · rw [hb, upd_same, ea]
    · rw [upd_ne hb]
  rw [eu] at I5
  exact q _ I5
end
end Hg

set_option maxHeartbeats 4000000
namespace Hg
open PySem PySem.Spec PyProof.Rows L2
section
variable {P : Program} {w : World} {K : PySem.W.Frag} {mg : Str → Option Value} {base : Heap} {C fI cc cda : Addr}
variable {qual : Str} {params : Arguments} {rest : List Stmt} {scope : Scope} {doc pm ct oc : Value} {od : Option Addr} {osl : Array (Option Value)} {N ps : List Str} {k : Nat} {sp : Sp}
def supRow (txt : Str) (jj : Nat) (p0 p1 p2 p3 p4 p5 : Pos) : Stmt := .Expr (.Call (.Attribute (.Call (.Name "super" p0) [] [] p1) "__init__" p2) [.Constant (.str txt) jj p3] [] p4) p5
/-- THE RULE for the __init__ of an error class whose first row is super().__init__('text'): sp speaks of .ref a :: .., a the fresh exception -/
theorem fn_err (T : ErrK P K mg C fI cc cda) {txt : Str} {jj : Nat} {p0 p1 p2 p3 p4 p5 : Pos} {pl : Sem Bool}
    (S : NdefX.NScope N ps ["__class__"] scope) (lf : K.lookup fI = some ⟨oc, od, .func ((nfOf qual params (supRow txt jj p0 p1 p2 p3 p4 p5 :: rest) scope cc cda).fd doc pm ct), osl⟩)
    (hcode : PySem.W.codeIn K (.ref cda) qual = true)
    (par : ∃ ar, (params.posonlyargs ++ params.args).head? = some ar ∧ ar.arg = "self") (hps : ps[0]? = some ("self" : Str)) (hks : scope.names.lookup ("super" : Str) = some .globalImplicit)
    (he : ∀ L, SupEq (nfOf qual params (supRow txt jj p0 p1 p2 p3 p4 p5 :: rest) scope cc cda) fI L txt jj p0 p1 p2 p3 p4 pl)
    (len : ∀ vs H Q E, sp vs H Q E → vs.length = ps.length) (hself : ∀ vs H Q E, sp vs H Q E → ∃ a us, vs = .ref a :: us ∧ H a = some (exo a C none))
    (hbody : ∀ (A : Around) (outer : List Env) (s : Shared) (H : Hp) (vs : List V) (Q : VK) (E : XK), Room k (A.deeper (NdefX.envF (nfOf qual params (supRow txt jj p0 p1 p2 p3 p4 p5 :: rest) scope cc cda) fI s.heap.objs.size)) → sp vs H Q E →
      ∃ t, PSs (NdefX.ncx CX0 P w K mg base N (nfOf qual params (supRow txt jj p0 p1 p2 p3 p4 p5 :: rest) scope cc cda) fI A outer s H E) rest t ∧ t { nx := fun _ H' => Q .non H', rt := Q } (NdefX.startF N vs [some (.ref C)]) H) :
    FnOk P w K mg base CX0 (k + 1) fI ((nfOf qual params (supRow txt jj p0 p1 p2 p3 p4 p5 :: rest) scope cc cda).fd doc pm ct) ps sp := by
  refine ⟨len, fun A outer s H args us vs Q E hr e0 hb r hsp => ?_⟩
  have hl := len _ _ _ _ hsp
  have X : K.In s.heap := e0.mod.kin.keeps fun b o e => (e0.bs b o e).1
  have lim : s.heap.NoLimit := e0.mod.nolimit.keeps fun b o e => (e0.bs b o e).1
  have Hcc : H cc = none := by
    obtain ⟨cl, cld, csl, lc⟩ := T.cell
    exact (e0.bs _ _ (e0.mod.kin _ _ lc)).2
  have CA := cells_at T X Hcc
  have hka : ∀ y ∈ ps.zip us, scope.names.lookup y.1 = some .local := fun ⟨n, _⟩ hy => S.par n (List.of_mem_zip hy).1
  refine PySem.ks_codeAny_call_defAt hr.depth (X _ _ lf) rfl lim (PySem.W.codeRec_of X hcode) rfl hb S.nocell hka (fun h₁ hns kp => ?_) S.co S.gen S.kind
  obtain ⟨a, us', rfl, ea⟩ := hself _ _ _ _ hsp
  have I : Inv (NdefX.ncx CX0 P w K mg base N (nfOf qual params (supRow txt jj p0 p1 p2 p3 p4 p5 :: rest) scope cc cda) fI A outer s H E) [] (NdefX.startF N (.ref a :: us') [some (.ref C)]) H { s with heap := h₁, toks := s.toks + (ps.zip us).length } := NdefX.inv_startN S hr.hd e0 hl r CA hns kp
  have hN0 : N[0]? = some ("self" : Str) := by
    have q : (N.take (ps.length + 1))[0]? = (ps ++ [("__class__" : Str)])[0]? := congrArg (fun l : List Str => l[0]?) S.pre
    rw [List.getElem?_take_of_lt (by omega)] at q
    rw [q]
    cases ps with
    | nil => simp at hps
    | cons p r => exact hps
  have hpar : scope.names.lookup ("self" : Str) = some .local := S.par _ (List.mem_of_getElem? hps)
  refine PySem.ks_wpAt_execs_cons (super_run T S lf par hN0 hks (S.frk _ (by simp)) hpar I (by simp [NdefX.startF]) ea he fun s2 I2 => ?_)
  obtain ⟨t, ht, hq⟩ := hbody A outer s H (.ref a :: us') Q E (hr.deeper _) hsp
  refine PySem.wpAt_of_wpAny (PySem.wpAny_mono (ht.run [] _ _ H _ I2 hq) (fun fl s' hs => ?_) fun e s' hs => hs)
  have fin : ∀ {σ' : L2.St} {H' : Hp} {v : V} {u : Value}, Inv (NdefX.ncx CX0 P w K mg base N (nfOf qual params (supRow txt jj p0 p1 p2 p3 p4 p5 :: rest) scope cc cda) fI A outer s H E) [] σ' H' s' → L2.RelV v u → Q v H' → CE outer P w H s Q u s' :=
    fun {σ' H' v u} J rv q => ⟨v, H', J.os, J.bare, J.base, J.hok, rv, q⟩
  cases fl with
  | ret u =>
    obtain ⟨v, σ', H', J, rv, q⟩ := hs
    exact fin J rv q
  | next =>
    obtain ⟨σ', H', J, q⟩ := hs
    exact fin (v := V.non) (u := Value.none) J rfl q
  | brk =>
    obtain ⟨_, _, _, q⟩ := hs
    exact False.elim q
  | cont =>
    obtain ⟨_, _, _, q⟩ := hs
    exact False.elim q
end
end Hg

set_option maxHeartbeats 4000000
namespace Hg
open PySem PySem.Spec PyProof.Rows L2
section
variable {X : Cx}
/-- the end of C(): the exception has no dict and is let go -/
theorem mk_bare {pins : List (Addr × Obj)} {σ : L2.St} {H1 H2 : Hp} {Q : XK} {hp hp2 h2 : Heap} {g1 g2 : Array GenState} {d1 d2 : Drawn} {t1 t2 : Nat} {os1 os2 : OsState} {a C : Addr}
    (T : Raises X (.ref C)) (I1 : Inv X pins σ H1 ⟨hp, g1, d1, t1, os1⟩) (ha : hp.objs.size ≤ a) (k : ∀ b o, hp.get? b = some o → hp2.get? b = some o)
    (un : Un (frs X.stack) [] (upd H1 a (exo a C none)) H2 hp2 h2) (hok : HOk X.prog X.w H2 h2) (ho : os2 = os1) (hb : AllBare g2) (ea : H2 a = some (exo a C none)) (q : Q (.ref C) none (del H2 a)) :
    MkP X pins σ Q (.ref a) ⟨h2, g2, d2, t2, os2⟩ := by
  obtain ⟨t0, hoe⟩ := exo_at hok ea
  have hn : H1 a = none := I1.hok.fresh ha
  obtain ⟨G, g1', g2'⟩ := restrict h2 fun b => decide (b ≠ a)
  have gk : ∀ b, b ≠ a → G.get? b = h2.get? b := fun b hb => g1' b (decide_eq_true hb)
  have ge : G.get? a = none := g2' a (by simp)
  have old : ∀ {b : Addr} {o : Obj}, hp.get? b = some o → b ≠ a := fun {b o} z e => by
    have l := Heap.lt_size z
    rw [e] at l
    exact absurd (Nat.lt_of_lt_of_le l ha) (Nat.lt_irrefl _)
  have up : ∀ {b : Addr}, b ≠ a → H1 b = none → upd H1 a (exo a C none) b = none := fun {b} hb n => (upd_ne hb).trans n
  have U : Un (frs X.stack) [] H1 (del H2 a) hp G :=
    ⟨fun b o z n hf hx => (gk b (old z)).trans (un.keep b o (k b o z) (up (old z) n) hf hx),
     fun b o z n hf hx => by
       obtain ⟨sl, e⟩ := un.slot b o (k b o z) (up (old z) n) hf hx
       exact ⟨sl, (gk b (old z)).trans e⟩,
     fun b o z n hx => (del_ne (old z)).trans (un.free b o (k b o z) (up (old z) n) hx),
     fun b o z hx => by
       obtain ⟨o', e⟩ := un.there b o (k b o z) hx
       exact ⟨o', (gk b (old z)).trans e⟩,
     fun b xs z => (del_ne (ne_of_none z hn)).trans (un.tups b xs ((upd_ne (ne_of_none z hn)).trans z)),
     fun b o v z => (del_ne (ne_of_none z hn)).trans (un.frzs b o v ((upd_ne (ne_of_none z hn)).trans z)),
     fun b ps z => by
       obtain ⟨more, e⟩ := un.tbls b ps ((upd_ne (ne_of_none z hn)).trans z)
       exact ⟨more, (del_ne (ne_of_none z hn)).trans e⟩⟩
  have hok3 : HOk X.prog X.w (del H2 a) G := fun b o z => by
    have hba : b ≠ a := fun e => by
      rw [e, del_same] at z
      cases z
    rw [del_ne hba] at z
    have noa : ∀ {c : Addr}, H2 c = some (.own b) → c ≠ a := fun {c} hc => at_ne ea hc exo_own
    refine (hok b o z).stay (fun c v hc y => ?_) (fun c hc => (del_ne (noa hc)).trans hc) (fun c xs hc => (del_ne (at_ne ea hc exo_tup)).trans hc)
    have hca : c ≠ a := hc.elim (fun e => e ▸ hba) noa
    exact (gk c hca).trans y
  have J : Inv X pins σ (del H2 a) ⟨G, g2, d2, t2, os2⟩ := I1.call' (ch := []) ho U hok3 hb (fun b z => absurd z (by simp))
  have kG : ∀ b o, G.get? b = some o → h2.get? b = some o := fun b o z => by
    by_cases hba : b = a
    · rw [hba, ge] at z
      cases z
    · exact (gk b hba).symm.trans z
  exact ⟨a, _, _, ⟨G, g2, d2, t2, os2⟩, _, .ref C, none, rfl, J, kG, ge, hoe, ⟨rfl, rfl⟩, rfl, rfl, del_same, rfl, hb, T, q⟩
/-- C(), C an error class whose own __init__ takes nothing but itself and stores nothing -/
def tMk0 (C : Addr) (sp : Sp) : L2.St → Hp → XK → Prop := fun _ H Q => ∀ a, H a = none → sp [.ref a] (upd H a (exo a C none)) (fun v H2 => v = .non ∧ H2 a = some (exo a C none) ∧ Q (.ref C) none (del H2 a)) (fun _ _ _ => False)
theorem pmk_err0 {x : Str} {C fI : Addr} {k : Nat} {fd : FuncData} {ps : List Str} {sp : Sp} {p pos : Pos} (T : OexC X.K C) (iC : PySem.W.findIn X.K (.ref C) "__init__" = some (some (.ref fI)))
    (tI : PySem.W.typeIn X.K (.ref fI) = some (.type "function")) (F1 : FnOk X.prog X.w X.K X.mg X.base CX0 k fI fd ps sp) (hr : Room (k + 1) X.A) (hb : Binds X.K fd ps [])
    (hg : Gl X x) (hm : X.mg x = some (.ref C)) (hdb : (x == ("__debug__" : Str)) = false := by decide) : PMk X (.Call (.Name x p) [] [] pos) (tMk0 C sp) := by
  intro pins s σ H Q I h
  obtain ⟨nm, q, N, bs, bm, sn, sub, ab, col, dd, k0, k1, k2, k3, k5, hC, hbm⟩ := T.cls
  refine wpAny_Call_Name_kw (ld_glob I hg hm ?_ hdb)
  refine PySem.W.callWith_K0 I.kIn T.kC ?_
  obtain ⟨hp, g, dr, tk, os⟩ := s
  have fr : H (hp.objs.size + 1) = none := I.hok.fresh (Nat.le_succ _)
  have hq := h _ fr
  have kk : ∀ b o, hp.get? b = some o → ((hp.push (PySem.W.kdv_tup [])).push (PySem.HandSPX.excO C hp.objs.size)).get? b = some o :=
    fun b o e => Heap.get?_push_of_some _ (Heap.get?_push_of_some _ e)
  have hget : ((hp.push (PySem.W.kdv_tup [])).push (PySem.HandSPX.excO C hp.objs.size)).get? (hp.objs.size + 1) = some (PySem.HandSPX.excO C hp.objs.size) := by heap_get
  have I2 := I.laid (t' := tk) (a := hp.objs.size + 1) (o := exo (hp.objs.size + 1) C none) kk (Nat.le_succ _) (exo_ok hget)
  have hl : ([Value.ref (hp.objs.size + 1)] ++ ([] : List Value)).length = ps.length := (F1.len _ _ _ _ hq)
  have r1 : Vals [V.ref (hp.objs.size + 1)] ([Value.ref (hp.objs.size + 1)] ++ []) := .cons (show L2.RelV (V.ref (hp.objs.size + 1)) (Value.ref (hp.objs.size + 1)) from rfl) .nil
  have run := F1.run _ X.stack _ _ ⟨[Value.ref (hp.objs.size + 1)], []⟩ _ _ _ (fun _ _ _ => False) (hr.make C [] []) (I2.env0.make C [] []) (hb _ [Value.ref (hp.objs.size + 1)] I2.kIn hl) r1 hq
  refine wpAny_call (PySem.HandSPX.call_own F.excBase_ValueError (fun Y => PySem.HandSPX.refsVE_contains Y bm hbm) (I.kIn _ _ hC) (PySem.W.looks_findIn I.kIn iC) (fun self => PySem.W.bind_fn I.kIn self tI) (by simp) (codeAny_mono run fun r s' z => ?_))
  match r, z with
  | .error er, z => exact False.elim z
  | .ok (.ret u), z =>
    obtain ⟨v, H2, os2, bare2, un2, hok2, rv, ev, ea, q2⟩ := z
    subst ev
    obtain ⟨h2, g2, d2, t2, os'⟩ := s'
    exact ⟨rv, mk_bare (raises_own T.exC T.tyC) I (Nat.le_succ _) kk un2 hok2 os2 bare2 ea q2⟩
  | .ok .next, z => exact False.elim z
  | .ok .brk, z => exact False.elim z
  | .ok .cont, z => exact False.elim z
end
end Hg

set_option maxHeartbeats 4000000
namespace Hg
open PySem PySem.Spec PyProof.Rows L2
/-! ### a list or a tuple, by a flag -/
def SqK (K : PySem.W.Frag) : Bool → Hp → Addr → List V → Prop
  | true => SqT K
  | false => SqL K
def ItK (K : PySem.W.Frag) : Bool → Addr → It
  | true => Itt K
  | false => Itl K
theorem SqK.inj {X : Cx} {pins : List (Addr × Obj)} {σ : L2.St} {H : Hp} {s : Shared} {k : Bool} {a : Addr} {xs ys : List V} (I : Inv X pins σ H s) (h : SqK X.K k H a xs) (h' : SqK X.K k H a ys) : xs = ys := by
  cases k with
  | true => exact I.tuple_inj h h'
  | false => exact I.list_inj h h'
theorem walk_k {K : PySem.W.Frag} {k : Bool} {a : Addr} {xs : List V} : Walk (ItK K k a) xs.length (fun H => SqK K k H a xs) (YAt xs) := by
  cases k with
  | true => exact ⟨fun i _ hi q => ⟨xs, xs[i], q, by simp [hi]⟩, fun _ q => ⟨xs, q, Nat.le_refl _⟩, fun i H v H' _ q y => ⟨y.1, y.2 xs q⟩⟩
  | false => exact ⟨fun i _ hi q => ⟨xs, xs[i], q, by simp [hi]⟩, fun _ q => ⟨xs, q, Nat.le_refl _⟩, fun i H v H' _ q y => ⟨y.1, y.2 xs q⟩⟩
def iSeq (K : PySem.W.Frag) (te : TE) : TI := fun σ H R => te σ H fun x H1 => ∃ (k : Bool) (a : Addr) (xs : List V), x = .ref a ∧ SqK K k H1 a xs ∧ R (ItK K k a) H1
section
variable {X : Cx} {tg : Expr}
theorem pi_seq {e : Expr} {te : TE} (he : PE X e te) : PI X tg e (iSeq X.K te) := by
  refine ⟨fun pins s σ H R I h => thn (he.run pins s σ H _ I h) ?_⟩
  rintro v s1 ⟨x, H1, I1, r1, k, a, xs, rfl, hq, q⟩
  cases (show v = Value.ref a from r1)
  have one : ∀ b ∈ [s1.heap.objs.size], FpOk X pins H1 b := fun b hb => by
    rw [List.mem_singleton.mp hb]
    exact I1.fpOk (Nat.le_refl _) I1.fresh
  have up : ∀ o, Inv X pins σ H1 { s1 with heap := s1.heap.push o, toks := s1.toks } := fun o => I1.kept (t' := s1.toks) fun b u e => Heap.get?_push_of_some _ e
  cases k with
  | true =>
    obtain ⟨its, rv, p, hz⟩ := I1.tuple hq
    exact wpAny_pyIter_tuple (show s1.heap.IsTuple a its.toArray from p) ⟨_, [s1.heap.objs.size], _, _, H1, rfl, up _, turn_tuple a _, ⟨_, Heap.get?_push_size _ rfl, rfl, rfl⟩, one, q⟩
  | false =>
    obtain ⟨its, rv, p, hz⟩ := I1.list hq
    exact wpAny_pyIter_list p.isList ⟨_, [s1.heap.objs.size], _, _, H1, rfl, up _, turn_list a _, ⟨_, Heap.get?_push_size _ rfl, rfl, rfl⟩, one, q⟩
end
/-! ### zip of two of them -/
def ItzK (K : PySem.W.Frag) (k l : Bool) (a b : Addr) : It :=
  ⟨fun i H => ∃ (xs ys : List V) (x y : V), SqK K k H a xs ∧ SqK K l H b ys ∧ xs[i]? = some x ∧ ys[i]? = some y,
    fun i H v H' => ∃ T x y, v = .ref T ∧ H T = none ∧ H' = upd H T (.tup [x, y]) ∧ (∀ xs, SqK K k H a xs → xs[i]? = some x) ∧ ∀ ys, SqK K l H b ys → ys[i]? = some y,
    fun i H => ∃ xs ys : List V, SqK K k H a xs ∧ SqK K l H b ys ∧ i ≤ xs.length ∧ i ≤ ys.length ∧ (i = xs.length ∨ i = ys.length)⟩
theorem walk_zk {K : PySem.W.Frag} {k l : Bool} {a b : Addr} {xs ys : List V} {n : Nat} (hn : n = min xs.length ys.length) : Walk (ItzK K k l a b) n (fun H => SqK K k H a xs ∧ SqK K l H b ys) (YPair (fun i => xs[i]?) (fun i => ys[i]?)) := by
  subst hn
  refine ⟨fun i _ hi q => ?_, fun _ q => ⟨xs, ys, q.1, q.2, by omega, by omega, by omega⟩, fun i H v H' _ q y => ?_⟩
  · exact ⟨xs, ys, xs[i]'(by omega), ys[i]'(by omega), q.1, q.2, by simp, by simp⟩
  · obtain ⟨T, x, z, h1, h2, h3, h4, h5⟩ := y
    exact ⟨T, x, z, h1, h2, h3, h4 xs q.1, h5 ys q.2⟩
/-- the iterator at i over the sequence at a -/
def IterK : Bool → Heap → Addr → Addr → Nat → Prop
  | true => fun h i a n => h.IsTupleIter i a n
  | false => fun h i a n => h.IsListIter i a n
def AtK : Bool → Heap → Addr → Array Value → Prop
  | true => fun h a its => h.IsTuple a its
  | false => fun h a its => h.IsList a its
theorem IterK.ob {k : Bool} {h : Heap} {i a : Addr} {n : Nat} (x : IterK k h i a n) : ∃ o, h.get? i = some o ∧ ∀ v, o.data ≠ .cell v := by
  cases k with
  | true =>
    obtain ⟨o, e, _, d⟩ := x
    exact ⟨o, e, fun v q => by rw [d] at q; cases q⟩
  | false =>
    obtain ⟨o, e, _, d⟩ := x
    exact ⟨o, e, fun v q => by rw [d] at q; cases q⟩
theorem IterK.at {k : Bool} {h h' : Heap} {i a : Addr} {n : Nat} (x : IterK k h i a n) (q : ∀ o, h.get? i = some o → h'.get? i = some o) : IterK k h' i a n := by
  cases k with
  | true => exact PySem.Heap.IsTupleIter.at x q
  | false => exact PySem.Heap.IsListIter.at x q
def beginObj : Bool → Addr → Obj
  | true, a => { cls := .type "tuple_iterator", data := .fields #[.ref a, .int 0 0] }
  | false, a => { cls := .type "list_iterator", data := .fields #[.ref a, .int 0 0] }
theorem begin_k (k : Bool) (a : Addr) (its : Array Value) : Begins (.ref a) (beginObj k a) fun h => AtK k h a its := by
  cases k with
  | true => exact begins_tuple a its
  | false => exact begins_list a its
theorem draw_k {P : Program} {w : World} {A : Around} (k : Bool) (hh : A.handled = none) (i a : Addr) (hne : a ≠ i) (its : Array Value) :
    Draws P w A i [i, a] its.size (fun n v => its[n]? = some v) (fun n h => IterK k h i a n ∧ AtK k h a its) := by
  cases k with
  | true => exact Draws.tuple hh i a hne its
  | false => exact Draws.list hh i a hne its
theorem at_k {X : Cx} {pins : List (Addr × Obj)} {σ : L2.St} {H : Hp} {s : Shared} {k : Bool} {a : Addr} {xs : List V} (I : Inv X pins σ H s) (h : SqK X.K k H a xs) : ∃ its, Vals xs its ∧ AtK k s.heap a its.toArray ∧ a < s.heap.objs.size := by
  cases k with
  | true =>
    obtain ⟨its, rv, p, _⟩ := I.tuple h
    exact ⟨its, rv, p, p.lt⟩
  | false =>
    obtain ⟨its, rv, p, _⟩ := I.list h
    exact ⟨its, rv, p.isList, p.lt⟩
abbrev ZipTn (k l : Bool) (z TI TO i1 i2 a b : Addr) (n : Nat) (h : Heap) : Prop :=
  IsZip h z TI TO .none ∧ IsTupOf2 h TI (.ref i1) (.ref i2) ∧ (∃ x y, IsTupOf2 h TO x y) ∧ IterK k h i1 a n ∧ IterK l h i2 b n
theorem turn_zk {P : Program} {w : World} {K : PySem.W.Frag} {elts : List Expr} {kk : Nat} {tpos : Pos} {k l : Bool} {a b z TI TO i1 i2 : Addr} (D : ZipSep2 z TI TO i1 i2 [i1, a] [i2, b]) (na : a ≠ i1) (nb : b ≠ i2) :
    Turn P w K (.Tuple elts kk tpos) (ItzK K k l a b) [z, TI, TO, i1, i2] z (ZipTn k l z TI TO i1 i2 a b) := by
  have five : ∀ {c : Addr}, c ∈ [z, TI, TO, i1, i2] → c = z ∨ c = TI ∨ c = TO ∨ c = i1 ∨ c = i2 := fun {c} hc => by simpa using hc
  refine ⟨by simp, fun n h st c hc => ?_, fun n h h' st q => ?_, ?_, ?_, fun A n s Q E st h => wpAny_pyIter_zip st.1 h⟩
  · obtain ⟨hz, hTI, ⟨x, y, hTO⟩, h1, h2⟩ := st
    rcases five hc with e | e | e | e | e <;> subst e
    · exact ⟨_, hz, fun v q => nomatch q⟩
    · exact ⟨_, hTI, fun v q => nomatch q⟩
    · exact ⟨_, hTO, fun v q => nomatch q⟩
    · exact h1.ob
    · exact h2.ob
  · obtain ⟨hz, hTI, ⟨x, y, hTO⟩, h1, h2⟩ := st
    exact ⟨q z (by simp) _ hz, q TI (by simp) _ hTI, ⟨x, y, q TO (by simp) _ hTO⟩, h1.at fun o e => q i1 (by simp) o e, h2.at fun o e => q i2 (by simp) o e⟩
  · intro X hP hw hK hc n pins s σ H E I hf st hg
    subst hP hw hK
    obtain ⟨hz, hTI, ⟨x0, y0, hTO⟩, h1, h2⟩ := st
    obtain ⟨xs, ys, x, y, hqx, hqy, hx, hy⟩ := hg
    obtain ⟨its, rv, p1, _⟩ := at_k I hqx
    obtain ⟨its2, rv2, p2, _⟩ := at_k I hqy
    obtain ⟨u, hu, ru⟩ := rv.get hx
    obtain ⟨u2, hu2, ru2⟩ := rv2.get hy
    have hh : X.A.in1.handled = none := by simpa using I.ok.hd hc
    have b1 : n < its.toArray.size := by simpa using (List.getElem?_eq_some_iff.mp hu).1
    have b2 : n < its2.toArray.size := by simpa using (List.getElem?_eq_some_iff.mp hu2).1
    refine wpAny_pyNext_zipD2_item D (draw_k k hh i1 a na its.toArray) (draw_k l hh i2 b nb its2.toArray) hz hTI hTO ⟨h1, p1⟩ ⟨h2, p2⟩ b1 b2 fun x1 x2 h' tk hx1 hx2 z' TO' st1 st2 hT hsz hk => ?_
    have ex1 : x1 = u := by
      rw [show its.toArray[n]? = some u by simpa using hu] at hx1
      exact (Option.some.inj hx1).symm
    have ex2 : x2 = u2 := by
      rw [show its2.toArray[n]? = some u2 by simpa using hu2] at hx2
      exact (Option.some.inj hx2).symm
    subst ex1 ex2
    have lz : z < s.heap.objs.size := Heap.lt_size hz
    refine ⟨_, rfl, wpAny_letOwnedTupleGo_zip (s := { s with heap := h', toks := tk }) z' fun h'' z'' sb => ?_⟩
    have hT2 : h''.get? s.heap.objs.size = some { cls := .type "tuple", data := .seq #[x1, x2] } := (sb.2 _ (Nat.ne_of_gt lz)).trans hT
    have new : ObjOk X.prog X.w (upd H s.heap.objs.size (.tup [x, y])) h'' s.heap.objs.size (.tup [x, y]) :=
      ⟨by show 2 ≤ sizeLine; decide, [x1, x2], .cons ru (.cons ru2 .nil), ⟨_, hT2, rfl, _, rfl⟩⟩
    have I1 : Inv X pins σ (upd H s.heap.objs.size (.tup [x, y])) { s with heap := h'', toks := tk } := by
      refine I.turnedNew (t' := tk) (ch := [z, TI, TO, i1, i2]) (fun c o hb q => (sb.2 c fun e => hb (by simp [e])).trans ?_) hf (Nat.le_refl _) new
      exact hk c o (fun e => hb (by simp [e])) (fun e => hb (by simp [e])) (fun e => hb (by simp [e])) (fun e => hb (by simp [e])) q
    refine ⟨.ref s.heap.objs.size, _, I1, rfl, ⟨_, x, y, rfl, I.fresh, rfl, fun l hl => by rw [SqK.inj I hl hqx]; exact hx, fun l hl => by rw [SqK.inj I hl hqy]; exact hy⟩, ⟨z'', ?_, ⟨x1, x2, (sb.2 _ D.TOz).trans TO'⟩, ?_, ?_⟩, fun c hcm => ?_⟩
    · exact (sb.2 _ D.TIz).trans (hk _ _ D.TIz D.TITO D.TIi1 D.TIi2 hTI)
    · exact st1.1.at fun o q => (sb.2 _ (Ne.symm D.zi1)).trans q
    · exact st2.1.at fun o q => (sb.2 _ (Ne.symm D.zi2)).trans q
    · have hlt : c < s.heap.objs.size := by
        rcases five hcm with e | e | e | e | e <;> subst e
        · exact lz
        · exact Heap.lt_size hTI
        · exact Heap.lt_size hTO
        · obtain ⟨o, e, _⟩ := h1.ob
          exact Heap.lt_size e
        · obtain ⟨o, e, _⟩ := h2.ob
          exact Heap.lt_size e
      exact (upd_ne (Nat.ne_of_lt hlt)).trans (hf c hcm).1
  · intro X hP hw hK hc n pins s σ H E I hf st hg
    subst hP hw hK
    obtain ⟨hz, hTI, ⟨x0, y0, hTO⟩, h1, h2⟩ := st
    obtain ⟨xs, ys, hqx, hqy, l1, l2, le⟩ := hg
    obtain ⟨its, rv, p1, _⟩ := at_k I hqx
    obtain ⟨its2, rv2, p2, _⟩ := at_k I hqy
    have e1 : its.toArray.size = xs.length := by rw [List.size_toArray, rv.length]
    have e2 : its2.toArray.size = ys.length := by rw [List.size_toArray, rv2.length]
    have hh : X.A.in1.handled = none := by simpa using I.ok.hd hc
    refine wpAny_pyNext_zipD2_end D (draw_k k hh i1 a na its.toArray) (draw_k l hh i2 b nb its2.toArray) hz hTI hTO ⟨h1, p1⟩ ⟨h2, p2⟩ (by omega) (by omega) (by omega) fun h' tk hk => ⟨rfl, ?_⟩
    refine I.turnedL (t' := tk) (ch := [z, TI, TO, i1, i2]) (fun c o hb q => ?_) hf
    exact hk c o (fun e => hb (by simp [e])) (fun e => hb (by simp [e])) (fun e => hb (by simp [e])) (fun e => hb (by simp [e])) q
def iZipK (K : PySem.W.Frag) (ta : TA) : TI := fun σ H R => ta σ H fun vs H1 => ∃ (k l : Bool) (a b : Addr) (xs ys : List V), vs = [.ref a, .ref b] ∧ SqK K k H1 a xs ∧ SqK K l H1 b ys ∧ R (ItzK K k l a b) H1
theorem pi_zipK {X : Cx} {e e2 : Expr} {ta : TA} {p pos tpos : Pos} {elts : List Expr} {kk : Nat} (hg : Gl X "zip") (hm : X.mg "zip" = none) (ha : PA X [e, e2] ta)
    (hs : starEach [e, e2] X.env = (false, eval e X.env) :: starEach [e2] X.env := by rfl) (hpl : (backTo pos (starEach [e2] X.env)).any (·.1) = false := by rfl) :
    PI X (.Tuple elts kk tpos) (.Call (.Name "zip" p) [e, e2] [] pos) (iZipK X.K ta) := by
  refine ⟨fun pins s σ H R I h => ?_⟩
  refine Call_ (ld_blt I hg hm PyProof.Rows.boot_zip (PyProof.Rows.callWith_type1 (thn (ha.run pos pins s σ H _ I h) ?_) hs hpl))
  rintro us s1 ⟨vs, H1, I1, r1, k, l, a, b, xs, ys, rfl, hqx, hqy, q⟩
  obtain ⟨u1, u2, rfl, r1, r2⟩ := Vals.two r1
  cases (show u1 = Value.ref a from r1)
  cases (show u2 = Value.ref b from r2)
  obtain ⟨its, rv, p1, la⟩ := at_k I1 hqx
  obtain ⟨its2, rv2, p2, lb⟩ := at_k I1 hqy
  refine zip_begins2 (begin_k k a its.toArray) (begin_k l b its2.toArray) p1 p2 fun h' hz hTI hTO e1 e2 hsz hk => wpAny_pyIter_zip hz ?_
  have i1 : IterK k h' s1.heap.objs.size a 0 := by
    cases k with
    | true => exact ⟨_, e1, rfl, rfl⟩
    | false => exact ⟨_, e1, rfl, rfl⟩
  have i2 : IterK l h' (s1.heap.objs.size + 1) b 0 := by
    cases l with
    | true => exact ⟨_, e2, rfl, rfl⟩
    | false => exact ⟨_, e2, rfl, rfl⟩
  have ne1 : a ≠ s1.heap.objs.size := Nat.ne_of_lt la
  have ne2 : b ≠ s1.heap.objs.size + 1 := Nat.ne_of_lt (Nat.lt_succ_of_lt lb)
  refine ⟨_, [s1.heap.objs.size + 4, s1.heap.objs.size + 2, s1.heap.objs.size + 3, s1.heap.objs.size, s1.heap.objs.size + 1], _, _, H1, rfl, I1.kept (t' := s1.toks) hk,
    turn_zk (zip_sep2 (N := s1.heap.objs.size) (fp1 := [a]) (fp2 := [b]) (fun c hc => by rw [List.mem_singleton.mp hc]; exact la) (fun c hc => by rw [List.mem_singleton.mp hc]; exact lb)) ne1 ne2, ⟨hz, hTI, ⟨_, _, hTO⟩, i1, i2⟩, fun c hcm => ?_, q⟩
  have hle : s1.heap.objs.size ≤ c := by
    simp only [List.mem_cons, List.not_mem_nil, or_false] at hcm
    rcases hcm with e | e | e | e | e <;> rw [e]
    · exact Nat.le_add_right _ _
    · exact Nat.le_add_right _ _
    · exact Nat.le_add_right _ _
    · exact Nat.le_refl _
    · exact Nat.le_add_right _ _
  exact I1.fpOk hle (I1.hok.fresh hle)
end Hg

set_option maxHeartbeats 8000000
namespace Hg
open PySem PySem.Spec PyProof.Rows L2
abbrev set0 (w : World) : Obj := { cls := .type "set", dict := none, data := .set #[] 0 (.fresh 0 0 (!w.params.followText "set-order")) }
section
variable {P : Program} {w : World} {A : Around} {E : Value → Shared → Prop} {s : Shared}
/-- set(xs), xs a list of ints -/
theorem call_setL {l : Addr} {items : Array Value} (ns : List Int) {Q : Value → Shared → Prop} (hh : A.handled = none) (hl : s.heap.IsList l items) (hit : IntsAre items.toList ns) (hb : ns.length + 1 < scanBound)
    (h : ∀ (h' : Heap) (tk c : Nat), SetR w h' s.heap.objs.size (fun j => decide (j ∈ ns)) c → c ≤ ns.length → (∀ b o, s.heap.get? b = some o → h'.get? b = some o) → Q (.ref s.heap.objs.size) { s with heap := h', toks := tk }) :
    wpAny (model P w) A (call (.type "set") [.ref l]) Q E s := by
  have len : items.size = ns.length := by simpa using IntsAre.length hit
  have ⟨c0, tl, e1⟩ := F.called_set.mro
  have e2 := F.called_set.made
  have e3 := F.called_set.sub
  have e4 := F.called_set.notType
  have e5 := F.called_set.canCreate
  have e6 := F.typeCall_set_1 (.ref l)
  apply wpAny_call
  apply codeAny_of_tree
  show PySem.wpAny _ _ (callAny (.type "set") _) _ _ _
  apply wpAny_pure
  refine ⟨Code.quiet_builtin _ (by decide +kernel), ?_⟩
  apply codeAny_builtin F.entry_type_call
  rw [Around.under_plain (weight_type_call_type "set" [.ref l] []) rfl]
  repeat (any_goals (first | assumption | wp_step))
  refine codeAny_mono (code_set_led1 (.ref l) (E := E) (Q₁ := fun ob s1 => ob = .ref s.heap.objs.size ∧ s1 = { s with heap := s.heap.push (set0 w) }) ⟨rfl, rfl⟩) ?_
  rintro (er | fl) s1 z
  · exact z
  rcases fl with _ | _ | _ | ob
  any_goals exact z
  obtain ⟨rfl, rfl⟩ := z
  have g0 : (s.heap.push (set0 w)).get? s.heap.objs.size = some (set0 w) := Heap.get?_push_size _ rfl
  have ty : Shared.TypeIs { s with heap := s.heap.push (set0 w) } (.ref s.heap.objs.size) "set" := ⟨_, g0, rfl⟩
  have e7 := F.called_set.init.lookup
  have e8 := F.called_set.init.bind (.ref s.heap.objs.size)
  repeat (any_goals (first | assumption | wp_step))
  have fin : codeAny (model P w) A.in1 (.call (.builtin "set.__init__") ⟨[.ref s.heap.objs.size, .ref l], []⟩)
      (wants (fun r s2 => r = .none ∧ ∃ h' tk c, s2 = { s with heap := h', toks := tk } ∧ SetR w h' s.heap.objs.size (fun j => decide (j ∈ ns)) c ∧ c ≤ ns.length ∧ ∀ b o, s.heap.get? b = some o → h'.get? b = some o) E) { s with heap := s.heap.push (set0 w) } := by
    refine codeAny_call_builtin F.called_set.init.plain F.entry_set_init (check_set_init_1 ty ?_)
    obtain ⟨ol, hol, hcl, nl, hdl⟩ := hl
    obtain ⟨ocls, odict, odata, oslots⟩ := ol
    dsimp only at hcl hdl
    subst hcl hdl
    have lt : l < s.heap.objs.size := Heap.lt_size hol
    have hol1 := Heap.get?_push_of_some (set0 w) hol
    have isl : (s.heap.push (set0 w)).IsList l items := ⟨_, hol1, rfl, nl, rfl⟩
    have f1 := F.sub_list_set
    have f2 := F.sub_list_frozenset
    have f3 : (Value.type "list" == Value.type "dict") = false := by decide
    unfold Builtin.«set.__init__» noKeywords Builtin.Frozenset.updateFrom
    generalize hPI : pyIter = PI
    wp_walk
    subst hPI
    apply wpAny_pyIter_list isl
    refine wpAny_bind (wpAny_runValue ?_)
    have h3 : A.in1.in1.in1.handled = none := by simp [hh]
    have sz : (s.heap.push (set0 w)).objs.size = s.heap.objs.size + 1 := Heap.size_push ..
    have nI : l ≠ (s.heap.push (set0 w)).objs.size := by
      rw [sz]
      exact Nat.ne_of_lt (Nat.lt_succ_of_lt lt)
    have nS : s.heap.objs.size ∉ [(s.heap.push (set0 w)).objs.size, l] := by
      rw [sz]
      simp only [List.mem_cons, List.not_mem_nil, or_false, not_or]
      exact ⟨Nat.ne_of_lt (Nat.lt_succ_self _), Nat.ne_of_gt lt⟩
    have val : ∀ (i : Nat) (v : Value), items[i]? = some v → ∃ k t, ns[i]? = some k ∧ v = .int k t := fun i v hv => by
      obtain ⟨t, e⟩ := IntsAre.int_at hit i v ((Array.getElem?_toList ..).trans hv)
      have hi : i < ns.length := len ▸ (Array.getElem?_eq_some_iff.mp hv).1
      exact ⟨ns[i], t, by simp [hi], by rw [e]; simp [hi]⟩
    refine set_update_ints (Walks.list h3 _ l nI items).toS s.heap.objs.size nS ns len hb val (items.size - 0) 0 _ (Nat.sub_zero _ ▸ rfl) (Nat.zero_le _) ⟨⟨_, Heap.get?_push_size _ rfl, rfl, rfl⟩, isl.push _⟩ ⟨0, Nat.le_refl 0, setR_new_at (Heap.get?_push_of_some _ g0)⟩ ?_
    rintro ⟨h', g2, d', tk', os'⟩ c' hm hc' hS'
    obtain rfl : g2 = s.gens := hm.gens
    obtain rfl : d' = s.drawn := hm.drawn
    obtain rfl : os' = s.os := hm.os
    apply wpAny_pure
    show PySem.wpAny _ _ (ret Value.none) _ _ _
    refine wpAny_pure ⟨rfl, h', tk', c', rfl, hS', len ▸ hc', fun b o e => ?_⟩
    have b0 : b < s.heap.objs.size := Heap.lt_size e
    refine hm.heap b o ?_ (Heap.get?_push_of_some _ (Heap.get?_push_of_some _ e))
    rw [sz]
    simp only [List.mem_cons, List.not_mem_nil, or_false, not_or]
    exact ⟨Nat.ne_of_lt b0, Nat.ne_of_lt (Nat.lt_succ_of_lt b0)⟩
  refine codeAny_mono fin ?_
  rintro (er | fl) s2 z
  · exact z
  rcases fl with _ | _ | _ | r2
  any_goals exact z
  obtain ⟨rfl, h', tk, c, rfl, hS, hc, hk⟩ := z
  repeat (any_goals (first | assumption | wp_step))
  exact h _ _ _ hS hc hk
end
end Hg

set_option maxHeartbeats 4000000
namespace Hg
open PySem PySem.Spec PyProof.Rows L2
/-! ### a def of the text, its global name, its arguments -/
structure DefK (K : PySem.W.Frag) (mg : Str → Option Value) (x : Str) (st : Stmt) (ps : List Str) (f : Addr) (fd : FuncData) : Prop where
  mg : mg x = some (.ref f)
  fn : Fun K x x st f fd
  bd : Binds K fd ps []
/-! ### heaps -/
def Ex (H H' : Hp) : Prop := ∀ a o, H a = some o → H' a = some o
theorem Ex.refl (H : Hp) : Ex H H := fun _ _ h => h
theorem Ex.trans {A B C : Hp} (x : Ex A B) (y : Ex B C) : Ex A C := fun a o h => y a o (x a o h)
theorem Ex.new {H : Hp} {p : Addr} {o : HO} (h : H p = none) : Ex H (upd H p o) := fun a u e => (upd_ne (ne_of_none e h)).trans e
theorem Ex.up {G H : Hp} {p : Addr} {o : HO} (x : Ex G H) (h : G p = none) : Ex G (upd H p o) := fun a u e => (upd_ne (ne_of_none e h)).trans (x _ _ e)
theorem Ex.free {H H' : Hp} (x : Ex H H') {p : Addr} (h : H' p = none) : H p = none := by
  cases e : H p with
  | none => rfl
  | some o =>
    rw [x p o e] at h
    cases h
theorem Ex.seq {K : PySem.W.Frag} {k : Bool} {H H' : Hp} {a : Addr} {xs : List V} (e : Ex H H') (h : SqK K k H a xs) : SqK K k H' a xs := by
  have rd : ∀ {u : HO}, Rd H a u → Rd H' a u := fun {u} z => z.elim (fun z => .inl (e _ _ z)) fun ⟨o, z⟩ => .inr ⟨o, e _ _ z⟩
  cases k with
  | true => exact Or.imp rd id h
  | false => exact Or.imp rd id h
theorem SqK.lst {K : PySem.W.Frag} {H : Hp} {a : Addr} {xs : List V} (h : H a = some (.lst xs)) : SqK K false H a xs := .inl (.inl h)
theorem SqK.tup {K : PySem.W.Frag} {H : Hp} {a : Addr} {xs : List V} (h : H a = some (.tup xs)) : SqK K true H a xs := .inl (.inl h)
theorem SqK.or {K : PySem.W.Frag} {k : Bool} {H : Hp} {a : Addr} {xs : List V} (h : SqK K k H a xs) : SqL K H a xs ∨ SqT K H a xs := by
  cases k with
  | true => exact .inr h
  | false => exact .inl h
/-! ### the drawing stream of a law: at s the list [at q the script's rest, n, c, k] -/
structure Strm (s q : Addr) (B : Nat) (H : Hp) : Prop where
  ne : s ≠ q
  st : ∃ (n c k : Int) (ns : List Int), H s = some (.lst [.ref q, .int n, .int c, .int k]) ∧ H q = some (.lst (ns.map V.int)) ∧ 0 ≤ n ∧ 0 ≤ c ∧ c ≤ (B : Int) ∧ 0 ≤ k ∧ k < 2147483647
/-- G: what lies beside the stream -/
structure Ov (s q : Addr) (B : Nat) (G H : Hp) : Prop where
  sub : Ex G H
  gs : G s = none
  gq : G q = none
  str : Strm s q B H
section
variable {s q : Addr} {B : Nat} {G H : Hp}
theorem Ov.weak (x : Ov s q B G H) {G' : Hp} (e : Ex G' G) : Ov s q B G' H := ⟨e.trans x.sub, e.free x.gs, e.free x.gq, x.str⟩
theorem Ov.more (x : Ov s q B G H) {B' : Nat} (h : B ≤ B') : Ov s q B' G H := by
  obtain ⟨a, b, c, d, n, k, l, ns, e1, e2, e3, e4, e5, e6⟩ := x
  exact ⟨a, b, c, d, n, k, l, ns, e1, e2, e3, e4, by omega, e6⟩
theorem Ov.hs (x : Ov s q B G H) : ∃ o, H s = some o := let ⟨_, _, _, _, e, _⟩ := x.str.st; ⟨_, e⟩
theorem Ov.hq (x : Ov s q B G H) : ∃ o, H q = some o := let ⟨_, _, _, _, _, e, _⟩ := x.str.st; ⟨_, e⟩
/-- a new object beside the stream -/
theorem Ov.new (x : Ov s q B G H) {p : Addr} {o : HO} (hp : H p = none) : Ov s q B (upd G p o) (upd H p o) := by
  have gp : G p = none := x.sub.free hp
  obtain ⟨os, hs⟩ := x.hs
  obtain ⟨oq, hq⟩ := x.hq
  have ns : s ≠ p := ne_of_none hs hp
  have nq : q ≠ p := ne_of_none hq hp
  obtain ⟨ne, n, k, l, ms, e1, e2, e3⟩ := x.str
  refine ⟨fun a u e => ?_, (upd_ne ns).trans x.gs, (upd_ne nq).trans x.gq, ne, n, k, l, ms, (upd_ne ns).trans e1, (upd_ne nq).trans e2, e3⟩
  by_cases h : a = p
  · subst h
    rw [upd_same] at e ⊢
    exact e
  · rw [upd_ne h] at e ⊢
    exact x.sub _ _ e
/-- a new object that nobody keeps -/
theorem Ov.drop (x : Ov s q B G H) {p : Addr} {o : HO} (hp : H p = none) : Ov s q B G (upd H p o) := (x.new hp).weak (Ex.new (x.sub.free hp))
/-- an object of G is changed -/
theorem Ov.put (x : Ov s q B G H) {p : Addr} {o u : HO} (hp : G p = some u) : Ov s q B (upd G p o) (upd H p o) := by
  have ns : s ≠ p := fun e => by rw [← e, x.gs] at hp; cases hp
  have nq : q ≠ p := fun e => by rw [← e, x.gq] at hp; cases hp
  obtain ⟨ne, n, k, l, ms, e1, e2, e3⟩ := x.str
  refine ⟨fun a u e => ?_, (upd_ne ns).trans x.gs, (upd_ne nq).trans x.gq, ne, n, k, l, ms, (upd_ne ns).trans e1, (upd_ne nq).trans e2, e3⟩
  by_cases h : a = p
  · subst h
    rw [upd_same] at e ⊢
    exact e
  · rw [upd_ne h] at e ⊢
    exact x.sub _ _ e
end
/-! ### data of ints -/
theorem dpAll_ints {K : PySem.W.Frag} {H : Hp} : ∀ ns : List Int, DpAll K H (ns.map V.int) (ns.map PyData.int)
  | [] => .nil
  | n :: ns => .cons (.int n) (dpAll_ints ns)
theorem dp_l {K : PySem.W.Frag} {H : Hp} {a : Addr} {ns : List Int} (h : SqL K H a (ns.map V.int)) : Dp K H (.ref a) (.list (ns.map PyData.int)) := .lst h (dpAll_ints ns)
theorem dp_t {K : PySem.W.Frag} {H : Hp} {a : Addr} {ns : List Int} (h : SqT K H a (ns.map V.int)) : Dp K H (.ref a) (.tuple (ns.map PyData.int)) := .tup h (dpAll_ints ns)
theorem lay_ints : ∀ ns : List Int, PyData.canLayAll0 (ns.map PyData.int) = true
  | [] => rfl
  | n :: ns => by simp [PyData.canLayAll0, PyData.canLay0, lay_ints ns]
end Hg

set_option maxHeartbeats 4000000
namespace Hg
open PySem PySem.Spec PyProof.Rows L2
theorem depth_ints : ∀ ns : List Int, PyData.depthAll (ns.map PyData.int) ≤ 1
  | [] => by simp [PyData.depthAll]
  | n :: ns => by
    have := depth_ints ns
    simp [PyData.depthAll, PyData.depth]
    omega
theorem shaped_l (ns : List Int) : SeqAt.shaped (.list (ns.map PyData.int)) = true := by
  have := depth_ints ns
  simp [SeqAt.shaped, PyData.canLay0, PyData.depth, lay_ints]
  omega
theorem shaped_t (ns : List Int) : SeqAt.shaped (.tuple (ns.map PyData.int)) = true := by
  have := depth_ints ns
  simp [SeqAt.shaped, PyData.canLay0, PyData.depth, lay_ints]
  omega
theorem eqv_ints : ∀ xs ys : List Int, PyData.eqvAll (xs.map PyData.int) (ys.map PyData.int) = decide (xs = ys)
  | [], [] => by simp [PyData.eqvAll]
  | [], y :: ys => by simp [PyData.eqvAll]
  | x :: xs, [] => by simp [PyData.eqvAll]
  | x :: xs, y :: ys => by
    have := eqv_ints xs ys
    by_cases h : x = y
    · simp [PyData.eqvAll, PyData.eqv, this, h]
    · simp [PyData.eqvAll, PyData.eqv, this, h]
theorem eqv_l (xs ys : List Int) : PyData.eqv (.list (xs.map PyData.int)) (.list (ys.map PyData.int)) = decide (xs = ys) := by
  rw [PyData.eqv]
  exact eqv_ints xs ys
theorem eqv_t (xs ys : List Int) : PyData.eqv (.tuple (xs.map PyData.int)) (.tuple (ys.map PyData.int)) = decide (xs = ys) := by
  rw [PyData.eqv]
  exact eqv_ints xs ys
/-! ### items at a place -/
theorem at_lt {α : Type} {xs : List α} {i : Int} (h0 : 0 ≤ i) (h1 : i < xs.length) : ∃ v, atI xs i = some v ∧ v ∈ xs := by
  obtain ⟨j, rfl⟩ := Int.eq_ofNat_of_zero_le h0
  have hj : j < xs.length := by omega
  exact ⟨xs[j], atI_nat (by simp [hj]), List.getElem_mem ..⟩
/-! ### sets of ints -/
def rSetL (K : PySem.W.Frag) (w : World) : List V → Hp → VK → Prop := fun vs H Q => ∃ (a : Addr) (ns : List Int), vs = [.ref a] ∧ SqL K H a (ns.map V.int) ∧ ns.length ≤ 4000 ∧
  ∀ (p : Addr) (ms : List Int), H p = none → ms.Nodup → (∀ k, k ∈ ms ↔ k ∈ ns) → Q (.ref p) (upd H p (SetO w p (fun j => decide (j ∈ ns)) ms.length))
theorem cr_setL {X : Cx} (hc : X.calm = true) : CallR X (.type "set") (rSetL X.K X.w) := by
  intro pins s σ H vs us Q I r h
  obtain ⟨a, ns, rfl, hq, hl, q⟩ := h
  obtain ⟨u, rfl, ru⟩ := Vals.one r
  cases (show u = Value.ref a from ru)
  obtain ⟨its, rv, p, hz⟩ := I.list hq
  refine call_setL ns (I.ok.hd hc) p.isList (by simpa using intsAre_of rv) (by unfold scanBound; omega) fun h' tk c hS hcn hk => ?_
  have I2 : Inv X pins σ (upd H s.heap.objs.size (SetO X.w s.heap.objs.size (fun j => decide (j ∈ ns)) c)) { s with heap := h', toks := tk } := I.laid hk (Nat.le_refl _) (setO_new hS)
  obtain ⟨o, es, ep, t, e1, e2, e3, e4, e5, e6, e7, e8, e9, e10⟩ := id hS
  have hlen : (es.toList.map keyOf).length = c := by
    rw [List.length_map, Array.length_toList, e9]
  refine ⟨.ref _, _, I2, rfl, ?_⟩
  rw [← hlen]
  refine q _ _ I.fresh e5 fun k => ?_
  have := e6 k
  rw [← this]
  simp
end Hg

set_option maxHeartbeats 4000000
namespace Hg
open PySem PySem.Spec PyProof.Rows L2
def picked {α : Type} (keep : Nat → Bool) (val : Nat → α) (n : Nat) : List α := ((List.range n).filter keep).map val
theorem picked_succ {α : Type} (keep : Nat → Bool) (val : Nat → α) (n : Nat) : picked keep val (n + 1) = if keep n = true then picked keep val n ++ [val n] else picked keep val n := by
  unfold picked
  rw [List.range_succ, List.filter_append]
  by_cases h : keep n = true
  · simp [h]
  · simp [h]
theorem picked_len {α : Type} (keep : Nat → Bool) (val : Nat → α) (n : Nat) : (picked keep val n).length ≤ n := by
  unfold picked
  rw [List.length_map]
  exact Nat.le_trans (List.length_filter_le _ _) (by simp)
theorem picked_all {α : Type} (val : Nat → α) (n : Nat) : picked (fun _ => true) val n = (List.range n).map val := by
  unfold picked
  rw [List.filter_eq_self.mpr fun _ _ => rfl]
theorem map_range {α β : Type} (xs : List α) (f : α → β) (val : Nat → β) (h : ∀ i x, xs[i]? = some x → val i = f x) : (List.range xs.length).map val = xs.map f := by
  apply List.ext_getElem?
  intro i
  rw [List.getElem?_map, List.getElem?_map]
  by_cases hi : i < xs.length
  · rw [List.getElem?_range hi]
    simp [hi]
    exact h i _ (by simp [hi])
  · simp [hi]
theorem picked_map {α β : Type} (keep : Nat → Bool) (val : Nat → α) (f : α → β) (n : Nat) : (picked keep val n).map f = picked keep (fun i => f (val i)) n := by
  unfold picked
  rw [List.map_map]
  rfl
section
variable {J : It} {n : Nat} {G : Hp → Prop} {Y : Nat → Hp → V → Hp → Prop}
/-- a list comprehension whose element changes nothing that stands -/
theorem lc_pure (w : Walk J n G Y) {g : TG} {tt : TT} {te : TE} {vs : List Nat} {σ : L2.St} {H1 : Hp} {D : Addr} {Qd : Hp → Prop} (hD : H1 D = none) (keep : Nat → Bool) (val : Nat → V) (hn : n ≤ 1000000) (hG : ∀ H, Ex H1 H → G H)
    (hs : ∀ i x Hc Hy, i < n → Ex H1 Hc → Y i Hc x Hy → ∀ (Qe : VK) (Qn : Hp → Prop), (keep i = true → ∀ H4, Ex Hc H4 → Qe (val i) H4) → (keep i = false → ∀ H3, Ex Hc H3 → Qn H3) →
      g x (wipe σ vs) Hy fun σ2 H2 => wipe σ2 vs = wipe σ vs ∧ tt σ2 H2 fun b H3 => if b = true then te σ2 H3 Qe else Qn H3)
    (hd : ∀ H, Ex H1 H → H D = some (.lst (picked keep val n)) → Qd H) :
    ∃ W : Nat → Nat → Hp → Prop, (∃ m, W 0 m (upd H1 D (.lst []))) ∧ ∀ i m H, W i m H →
      (J.stop i H ∧ Qd H) ∨ (J.go i H ∧ ∃ Nx : Hp → Prop, (∀ H', Nx H' → ∃ m', m' < m ∧ W (i + 1) m' H') ∧ ∀ x H', J.yld i H x H' → g x (wipe σ vs) H' fun σ2 H2 => wipe σ2 vs = wipe σ vs ∧ tt σ2 H2 fun b H3 =>
        if b = true then te σ2 H3 fun y H4 => ∃ acc, H4 D = some (.lst acc) ∧ acc.length < sizeLine ∧ Nx (upd H4 D (.lst (acc ++ [y]))) else Nx H3) := by
  refine lc_it w (fun i H => Ex H1 H ∧ H D = some (.lst (picked keep val i))) ⟨Ex.new hD, upd_same⟩ (fun i H _ p => hG H p.1) (fun i x Hc Hy hi p y => ?_) (fun H p => hd H p.1 p.2)
  refine hs i x Hc Hy hi p.1 y _ _ (fun hk H4 e => ?_) (fun hk H3 e => ?_)
  · refine ⟨_, e _ _ p.2, Nat.lt_of_le_of_lt (picked_len _ _ _) ?_, (p.1.trans e).up hD, ?_⟩
    · rw [sizeLine_eq]
      omega
    · rw [upd_same, picked_succ, if_pos hk]
  · refine ⟨p.1.trans e, ?_⟩
    rw [picked_succ, if_neg (by rw [hk]; decide)]
    exact e _ _ p.2
/-- a list comprehension whose element draws from the stream: at most c draws a turn -/
theorem lc_strm (w : Walk J n G Y) {g : TG} {tt : TT} {te : TE} {vs : List Nat} {σ : L2.St} {G1 H1 : Hp} {D s q : Addr} {B c : Nat} {Qd : Hp → Prop} (hO : Ov s q B G1 H1) (hD : H1 D = none) (P : Nat → List V → Prop) (hP : P 0 [])
    (hl : ∀ i acc, i ≤ n → P i acc → acc.length ≤ i) (hn : n ≤ 1000000) (hG : ∀ i H acc, i ≤ n → Ov s q (B + c * i) (upd G1 D (.lst acc)) H → G H)
    (hs : ∀ i x Hc Hy acc, i < n → P i acc → Ov s q (B + c * i) (upd G1 D (.lst acc)) Hc → Y i Hc x Hy → ∀ (Qe : VK) (Qn : Hp → Prop), (∀ y H4, P (i + 1) (acc ++ [y]) → Ov s q (B + c * (i + 1)) (upd G1 D (.lst acc)) H4 → Qe y H4) →
      (∀ H3, P (i + 1) acc → Ov s q (B + c * (i + 1)) (upd G1 D (.lst acc)) H3 → Qn H3) →
      g x (wipe σ vs) Hy fun σ2 H2 => wipe σ2 vs = wipe σ vs ∧ tt σ2 H2 fun b H3 => if b = true then te σ2 H3 Qe else Qn H3)
    (hd : ∀ H acc, P n acc → Ov s q (B + c * n) (upd G1 D (.lst acc)) H → Qd H) :
    ∃ W : Nat → Nat → Hp → Prop, (∃ m, W 0 m (upd H1 D (.lst []))) ∧ ∀ i m H, W i m H →
      (J.stop i H ∧ Qd H) ∨ (J.go i H ∧ ∃ Nx : Hp → Prop, (∀ H', Nx H' → ∃ m', m' < m ∧ W (i + 1) m' H') ∧ ∀ x H', J.yld i H x H' → g x (wipe σ vs) H' fun σ2 H2 => wipe σ2 vs = wipe σ vs ∧ tt σ2 H2 fun b H3 =>
        if b = true then te σ2 H3 fun y H4 => ∃ acc, H4 D = some (.lst acc) ∧ acc.length < sizeLine ∧ Nx (upd H4 D (.lst (acc ++ [y]))) else Nx H3) := by
  refine lc_it w (fun i H => ∃ acc, P i acc ∧ Ov s q (B + c * i) (upd G1 D (.lst acc)) H) ⟨[], hP, hO.new hD⟩ (fun i H hi p => ?_) (fun i x Hc Hy hi p y => ?_) (fun H p => ?_)
  · obtain ⟨acc, _, o⟩ := p
    exact hG i H acc hi o
  · obtain ⟨acc, pa, o⟩ := p
    refine hs i x Hc Hy acc hi pa o y _ _ (fun y H4 pa' o' => ?_) (fun H3 pa' o' => ⟨acc, pa', o'⟩)
    have hA : H4 D = some (.lst acc) := o'.sub _ _ upd_same
    refine ⟨acc, hA, ?_, acc ++ [y], pa', ?_⟩
    · have := hl i acc (Nat.le_of_lt hi) pa
      rw [sizeLine_eq]
      omega
    · have z := o'.put (o := .lst (acc ++ [y])) upd_same
      rw [upd_upd] at z
      exact z
  · obtain ⟨acc, pa, o⟩ := p
    exact hd H acc pa o
end
end Hg

set_option maxHeartbeats 4000000
namespace Hg
open PySem PySem.Spec PyProof.Rows L2
/-! ### the rules with the written part said (within a comprehension's block it must not hang on the block) -/
section
variable {X : Cx} {K : PySem.W.Frag}
theorem kAdd (hK : X.K = K := by rfl) : OpR X (binaryOp .Add) (rPlus K) := hK ▸ oAdd
theorem kEq (hu : X.A.units + 64 < cLine) (hK : X.K = K := by rfl) : OpR X (compareOp .Eq) (rEqA K) := hK ▸ oEq hu
theorem kNe (hu : X.A.units + 64 < cLine) (hK : X.K = K := by rfl) : OpR X (compareOp .NotEq) (rNeA K) := hK ▸ oNe hu
theorem kSl (hK : X.K = K := by rfl) : SlR X (rSlAll K) := hK ▸ oSl
theorem kIx (hK : X.K = K := by rfl) : IxR X (rIx K) := hK ▸ ix_seq
theorem kIn (hK : X.K = K := by rfl) : OpR X (compareOp .In) (rIn K false) := hK ▸ op_in_seq
theorem kNotIn (hK : X.K = K := by rfl) : OpR X (compareOp .NotIn) (rIn K true) := hK ▸ op_notIn_seq
theorem kIsi (hK : X.K = K := by rfl) : CallR X (.builtin "isinstance") (rIsi K) := hK ▸ call_isi
def rLenK (K : PySem.W.Frag) : List V → Hp → VK → Prop := fun xs H Q => ∃ p ys, xs = [.ref p] ∧ (SqL K H p ys ∨ SqT K H p ys) ∧ Q (.int ys.length) H
theorem kLen (hK : X.K = K := by rfl) : CallR X (.builtin "len") (rLenK K) := hK ▸ call_len_seq
theorem kSum (hc : X.calm = true) (hK : X.K = K := by rfl) : CallR X (.builtin "sum") (rSum K) := hK ▸ cr_sum hc
theorem kAll (hc : X.calm = true) (hK : X.K = K := by rfl) : CallR X (.builtin "all") (rAll K) := hK ▸ cr_all hc
theorem kAny (hc : X.calm = true) (hK : X.K = K := by rfl) : CallR X (.builtin "any") (rAny K) := hK ▸ cr_any hc
def rTupK (K : PySem.W.Frag) : List V → Hp → VK → Prop := fun xs H Q => ∃ p ys, xs = [.ref p] ∧ ((SqL K H p ys ∧ ∀ l, H l = none → Q (.ref l) (upd H l (.tup ys))) ∨ (SqT K H p ys ∧ Q (.ref p) H))
theorem kTup (hK : X.K = K := by rfl) : CallR X (.type "tuple") (rTupK K) := hK ▸ call_tuple_of
def rLstK (K : PySem.W.Frag) : List V → Hp → VK → Prop := fun xs H Q => ∃ p ys, xs = [.ref p] ∧ (SqL K H p ys ∨ SqT K H p ys) ∧ ∀ l, H l = none → Q (.ref l) (upd H l (.lst ys))
theorem kLst (hK : X.K = K := by rfl) : CallR X (.type "list") (rLstK K) := hK ▸ call_list_of
theorem kSet (hc : X.calm = true) (hK : X.K = K := by rfl) : CallR X (.type "set") (rSetL K X.w) := hK ▸ cr_setL hc
theorem kSeq {tg e : Expr} {te : TE} (he : PE X e te) (hK : X.K = K := by rfl) : PI X tg e (iSeq K te) := hK ▸ pi_seq he
theorem kZip {e e2 : Expr} {ta : TA} {p pos tpos : Pos} {elts : List Expr} {kk : Nat} (hg : Gl X "zip") (hm : X.mg "zip" = none) (ha : PA X [e, e2] ta) (hK : X.K = K := by rfl)
    (hs : starEach [e, e2] X.env = (false, eval e X.env) :: starEach [e2] X.env := by rfl) (hpl : (backTo pos (starEach [e2] X.env)).any (·.1) = false := by rfl) :
    PI X (.Tuple elts kk tpos) (.Call (.Name "zip" p) [e, e2] [] pos) (iZipK K ta) := hK ▸ pi_zipK hg hm ha hs hpl
theorem kPgT {es : List Expr} {k : Nat} {pos : Pos} {t : TGs} {n : Nat} (hc : X.calm = true) (h : PGs X es t) (hK : X.K = K := by rfl)
    (hn : (assignEach es X.env).length = n := by rfl) (hst : (assignEach es X.env).findIdx? (·.1) = none := by rfl) : PG X (.Tuple es k pos) (gTup K n t) := hK ▸ pg_tup hc h hn hst
theorem kPgL {es : List Expr} {k : Nat} {pos : Pos} {t : TGs} {n : Nat} (hc : X.calm = true) (h : PGs X es t) (hK : X.K = K := by rfl)
    (hn : (assignEach es X.env).length = n := by rfl) (hst : (assignEach es X.env).findIdx? (·.1) = none := by rfl) : PG X (.Tuple es k pos) (gLst K n t) := hK ▸ pg_lst hc h hn hst
/-- an error of a callee that can't come -/
theorem passX {P : Program} {w : World} : Passes (L2.CX P w) X E0 := fun _ _ _ _ _ _ _ h => by
  obtain ⟨a, B, H', cls, d, _, _, _, _, _, _, _, z⟩ := h
  exact z.elim
end
end Hg

set_option maxHeartbeats 4000000
namespace Hg
open PySem PySem.Spec PyProof.Rows L2
/-- a block cut behind its first row -/
theorem cut {t u : TS} {D : Ends} {σ : L2.St} {H : Hp} (R : L2.St → Hp → Prop) (h2 : ∀ σ' H', R σ' H' → u D σ' H') (h1 : ∀ N : L2.St → Hp → Prop, (∀ σ' H', R σ' H' → N σ' H') → t { D with nx := N } σ H) : tSeq t u D σ H := h1 _ h2
theorem ixk {K : PySem.W.Frag} {k : Bool} {H : Hp} {p : Addr} {xs : List V} {i : Int} {v : V} {Q : VK} (h : SqK K k H p xs) (e : atI xs i = some v) (q : Q v H) : rIx K (.ref p) (.int i) H Q := by
  cases k with
  | true => exact .inr (.inl ⟨p, xs, i, v, rfl, rfl, h, e, q⟩)
  | false => exact .inl ⟨p, xs, i, v, rfl, rfl, h, e, q⟩
theorem ixl {K : PySem.W.Frag} {H : Hp} {p : Addr} {xs : List V} {i : Int} {v : V} {Q : VK} (h : H p = some (.lst xs)) (e : atI xs i = some v) (q : Q v H) : rIx K (.ref p) (.int i) H Q := ixk (k := false) (SqK.lst h) e q
theorem ixt {K : PySem.W.Frag} {H : Hp} {p : Addr} {xs : List V} {i : Int} {v : V} {Q : VK} (h : H p = some (.tup xs)) (e : atI xs i = some v) (q : Q v H) : rIx K (.ref p) (.int i) H Q := ixk (k := true) (SqK.tup h) e q
section
variable {s q : Addr} {B B' : Nat} {G H : Hp}
theorem Ov.setS (x : Ov s q B G H) {ns : List Int} (hq : H q = some (.lst (ns.map V.int))) {n c k : Int} (h0 : 0 ≤ n) (h1 : 0 ≤ c) (h2 : c ≤ (B' : Int)) (h3 : 0 ≤ k) (h4 : k < 2147483647) : Ov s q B' G (upd H s (.lst [.ref q, .int n, .int c, .int k])) := by
  refine ⟨fun a o e => ?_, x.gs, x.gq, x.str.ne, n, c, k, ns, upd_same, (upd_ne (Ne.symm x.str.ne)).trans hq, h0, h1, h2, h3, h4⟩
  have ns : a ≠ s := fun z => by rw [z, x.gs] at e; cases e
  exact (upd_ne ns).trans (x.sub _ _ e)
theorem Ov.setQ (x : Ov s q B G H) (ns : List Int) : Ov s q B G (upd H q (.lst (ns.map V.int))) := by
  obtain ⟨ne, n, c, k, ms, e1, e2, e3⟩ := x.str
  refine ⟨fun a o e => ?_, x.gs, x.gq, ne, n, c, k, ns, (upd_ne ne).trans e1, upd_same, e3⟩
  have nq : a ≠ q := fun z => by rw [z, x.gq] at e; cases e
  exact (upd_ne nq).trans (x.sub _ _ e)
theorem upd_swap {G : Hp} {p L : Addr} {a b t : HO} (h : p ≠ L) : upd (upd (upd G L a) p t) L b = upd (upd G p t) L b := by
  funext x
  by_cases e1 : x = L
  · subst e1
    rw [upd_same, upd_same]
  · rw [upd_ne e1, upd_ne e1]
    by_cases e2 : x = p
    · subst e2
      rw [upd_same, upd_same]
    · rw [upd_ne e2, upd_ne e2, upd_ne e1]
/-- nothing that stands is changed -/
theorem Ov.ex (x : Ov s q B G H) {H' : Hp} (e : Ex H H') : Ov s q B G H' := by
  obtain ⟨a, b, c, d, n, k, l, ns, e1, e2, e3⟩ := x
  exact ⟨a.trans e, b, c, d, n, k, l, ns, e _ _ e1, e _ _ e2, e3⟩
/-- draw(stream, m): what a law's draw keeps -/
def spDraw : Sp := fun vs H Q _ => ∃ (s q : Addr) (B : Nat) (G : Hp) (m : Int), vs = [.ref s, .int m] ∧ Ov s q B G H ∧ B < 1000000 ∧ 0 < m ∧ m.natAbs < 2 ^ 8000 ∧ ∀ (r : Int) (H' : Hp), 0 ≤ r → r < m → Ov s q (B + 1) G H' → Q (.int r) H'
end
end Hg

set_option maxHeartbeats 4000000
namespace K1
open PySem PySem.Spec PyProof.Rows L2 Hg
def top (i : Nat) : Stmt := PySem.Challenge.pw_hushgrain_k01_numbers_and_forms.main.body.getD i (.Pass ⟨0, 0, 0, 0⟩)
abbrev st_is_integer : Stmt := top 2
theorem sc_is_integer : FnScope ["thing"] ["thing"] (defScope st_is_integer) := ⟨rfl, rfl, rfl, by decide +kernel, rfl, by decide +kernel, by decide +kernel⟩
abbrev st_gcd_of : Stmt := top 7
theorem sc_gcd_of : FnScope ["numbers", "common", "number"] ["numbers"] (defScope st_gcd_of) := ⟨rfl, rfl, rfl, by decide +kernel, rfl, by decide +kernel, by decide +kernel⟩
abbrev st_divisors : Stmt := top 8
theorem sc_divisors : FnScope ["number", "small", "large", "k"] ["number"] (defScope st_divisors) := ⟨rfl, rfl, rfl, by decide +kernel, rfl, by decide +kernel, by decide +kernel⟩
abbrev st_fraction : Stmt := top 9
theorem sc_fraction : FnScope ["top", "bottom", "common"] ["top", "bottom"] (defScope st_fraction) := ⟨rfl, rfl, rfl, by decide +kernel, rfl, by decide +kernel, by decide +kernel⟩
abbrev st_add_fractions : Stmt := top 10
theorem sc_add_fractions : FnScope ["one", "other"] ["one", "other"] (defScope st_add_fractions) := ⟨rfl, rfl, rfl, by decide +kernel, rfl, by decide +kernel, by decide +kernel⟩
abbrev st_multiply_fractions : Stmt := top 11
theorem sc_multiply_fractions : FnScope ["one", "other"] ["one", "other"] (defScope st_multiply_fractions) := ⟨rfl, rfl, rfl, by decide +kernel, rfl, by decide +kernel, by decide +kernel⟩
abbrev st_is_form : Stmt := top 13
theorem sc_is_form : FnScope ["thing", "size", "entry"] ["thing", "size"] (defScope st_is_form) := ⟨rfl, rfl, rfl, by decide +kernel, rfl, by decide +kernel, by decide +kernel⟩
abbrev st_dot : Stmt := top 14
theorem sc_dot : FnScope ["form", "vector", "weight", "entry"] ["form", "vector"] (defScope st_dot) := ⟨rfl, rfl, rfl, by decide +kernel, rfl, by decide +kernel, by decide +kernel⟩
abbrev st_add_forms : Stmt := top 15
theorem sc_add_forms : FnScope ["one", "other", "left", "right"] ["one", "other"] (defScope st_add_forms) := ⟨rfl, rfl, rfl, by decide +kernel, rfl, by decide +kernel, by decide +kernel⟩
abbrev st_scale_form : Stmt := top 16
theorem sc_scale_form : FnScope ["factor", "form", "weight"] ["factor", "form"] (defScope st_scale_form) := ⟨rfl, rfl, rfl, by decide +kernel, rfl, by decide +kernel, by decide +kernel⟩
abbrev st_l_draw : Stmt := top 18
theorem sc_l_draw : FnScope ["_law_stream", "_law_count", "_law_number_here"] ["_law_stream", "_law_count"] (defScope st_l_draw) := ⟨rfl, rfl, rfl, by decide +kernel, rfl, by decide +kernel, by decide +kernel⟩
abbrev st_l_integer : Stmt := top 19
theorem sc_l_integer : FnScope ["_law_thing"] ["_law_thing"] (defScope st_l_integer) := ⟨rfl, rfl, rfl, by decide +kernel, rfl, by decide +kernel, by decide +kernel⟩
abbrev st_l_common : Stmt := top 20
theorem sc_l_common : FnScope ["_law_one", "_law_other"] ["_law_one", "_law_other"] (defScope st_l_common) := ⟨rfl, rfl, rfl, by decide +kernel, rfl, by decide +kernel, by decide +kernel⟩
abbrev st_l_any : Stmt := top 21
theorem sc_l_any : FnScope ["_law_stream", "_law_menu"] ["_law_stream"] (defScope st_l_any) := ⟨rfl, rfl, rfl, by decide +kernel, rfl, by decide +kernel, by decide +kernel⟩
abbrev st_l_number : Stmt := top 22
theorem sc_l_number : FnScope ["_law_stream", "_law_reach"] ["_law_stream"] (defScope st_l_number) := ⟨rfl, rfl, rfl, by decide +kernel, rfl, by decide +kernel, by decide +kernel⟩
abbrev st_l_divisors_right : Stmt := top 23
theorem sc_l_divisors_right : FnScope ["_law_stream", "_law_factor", "_law_numbers", "_law_due", "_law_number_here", "_law_some", "_law_found", "_law_factors", "_law_prime", "_law_k", "_law_one"] ["_law_stream"] (defScope st_l_divisors_right) := ⟨rfl, rfl, rfl, by decide +kernel, rfl, by decide +kernel, by decide +kernel⟩
abbrev st_l_equals : Stmt := top 24
theorem sc_l_equals : FnScope ["_law_found", "_law_top", "_law_base", "_law_part"] ["_law_found", "_law_top", "_law_base"] (defScope st_l_equals) := ⟨rfl, rfl, rfl, by decide +kernel, rfl, by decide +kernel, by decide +kernel⟩
abbrev st_l_made : Stmt := top 25
theorem sc_l_made : FnScope ["_law_top", "_law_base", "_law_found", "e"] ["_law_top", "_law_base"] (defScope st_l_made) := ⟨rfl, rfl, rfl, by decide +kernel, rfl, by decide +kernel, by decide +kernel⟩
abbrev st_l_fractions_right : Stmt := top 26
theorem sc_l_fractions_right : FnScope ["_law_stream", "_law_pairs", "_law_k", "_law_top", "_law_base", "_law_found", "_law_a", "_law_b", "_law_c", "_law_d", "_law_one", "_law_other"] ["_law_stream"] (defScope st_l_fractions_right) := ⟨rfl, rfl, rfl, by decide +kernel, rfl, by decide +kernel, by decide +kernel⟩
abbrev st_l_changed : Stmt := top 27
theorem sc_l_changed : FnScope ["_law_stream", "_law_form", "_law_way", "_law_at"] ["_law_stream", "_law_form"] (defScope st_l_changed) := ⟨rfl, rfl, rfl, by decide +kernel, rfl, by decide +kernel, by decide +kernel⟩
abbrev st_l_forms_right : Stmt := top 28
theorem sc_l_forms_right : FnScope ["_law_stream", "_law_size", "_law_k", "_law_one", "_law_other", "_law_vector", "_law_factor", "_law_thing", "_law_due", "_law_found", "_law_given", "_law_handed", "_law_entry"] ["_law_stream"] (defScope st_l_forms_right) := ⟨rfl, rfl, rfl, by decide +kernel, rfl, by decide +kernel, by decide +kernel⟩
abbrev st_law : Stmt := top 29
theorem sc_law : FnScope ["_law_script", "_law_stream"] ["_law_script"] (defScope st_law) := ⟨rfl, rfl, rfl, by decide +kernel, rfl, by decide +kernel, by decide +kernel⟩
structure Zs (mg : Str → Option Value) : Prop where
  ValueError_ : mg "ValueError" = none
  abs_ : mg "abs" = none
  all_ : mg "all" = none
  bool_ : mg "bool" = none
  int_ : mg "int" = none
  isinstance_ : mg "isinstance" = none
  len_ : mg "len" = none
  list_ : mg "list" = none
  range_ : mg "range" = none
  reversed_ : mg "reversed" = none
  set_ : mg "set" = none
  sorted_ : mg "sorted" = none
  sum_ : mg "sum" = none
  tuple_ : mg "tuple" = none
  zip_ : mg "zip" = none
  gcd_ : mg "gcd" = some (.builtin "math.gcd")
  isqrt_ : mg "isqrt" = some (.builtin "math.isqrt")
end K1

set_option maxHeartbeats 4000000
namespace K1
open PySem PySem.Spec PyProof.Rows L2 Hg
/-! ### kinds -/
def kinds : List String := ["NoneType", "bool", "int", "str", "tuple", "list"]
inductive Kd (H : Hp) : V → String → Prop
  | non : Kd H .non "NoneType"
  | bl (b : Bool) : Kd H (.bl b) "bool"
  | int (i : Int) : Kd H (.int i) "int"
  | str (x : Str) : Kd H (.str x) "str"
  | tup {a : Addr} {xs : List V} : H a = some (.tup xs) → Kd H (.ref a) "tuple"
  | lst {a : Addr} {xs : List V} : H a = some (.lst xs) → Kd H (.ref a) "list"
theorem Kd.mem {H : Hp} {v : V} {n : String} (h : Kd H v n) : n ∈ kinds := by cases h <;> simp [kinds]
theorem Kd.ty {K : PySem.W.Frag} {H : Hp} {v : V} {n : String} (h : Kd H v n) : TyX K H v (.type n) := by
  cases h with
  | non => exact .base .non
  | bl b => exact .base (.bl b)
  | int i => exact .base (.int i)
  | str x => exact .base (.str x)
  | tup e => exact .base (.tup e)
  | lst e => exact .base (.lst e)
theorem Kd.ex {H H' : Hp} {v : V} {n : String} (e : Ex H H') (h : Kd H v n) : Kd H' v n := by
  cases h with
  | non => exact .non
  | bl b => exact .bl b
  | int i => exact .int i
  | str x => exact .str x
  | tup q => exact .tup (e _ _ q)
  | lst q => exact .lst (e _ _ q)
def isI : V → Bool
  | .int _ => true
  | _ => false
theorem Kd.isI {H : Hp} {v : V} {n : String} (h : Kd H v n) : (n == "int") = K1.isI v := by cases h <;> rfl
theorem kit_int : ∀ n ∈ kinds, kitB n "int" = some (n == "int" || n == "bool") := by
  intro n h
  simp only [kinds, List.mem_cons, List.not_mem_nil, or_false] at h
  rcases h with h | h | h | h | h | h <;> subst h <;> decide +kernel
theorem kit_bool : ∀ n ∈ kinds, kitB n "bool" = some (n == "bool") := by
  intro n h
  simp only [kinds, List.mem_cons, List.not_mem_nil, or_false] at h
  rcases h with h | h | h | h | h | h <;> subst h <;> decide +kernel
theorem kit_tup : ∀ n ∈ kinds, kitB n "tuple" = some (n == "tuple") := by
  intro n h
  simp only [kinds, List.mem_cons, List.not_mem_nil, or_false] at h
  rcases h with h | h | h | h | h | h <;> subst h <;> decide +kernel
def sp_isInt (K : PySem.W.Frag) : Sp := fun vs H Q _ => ∃ (v : V) (n : String), vs = [v] ∧ Kd H v n ∧ Q (.bl (isI v)) H
abbrev sp_is_integer := sp_isInt
abbrev sp_l_integer := sp_isInt
section
variable {P : Program} {w : World} {K : PySem.W.Frag} {mg : Str → Option Value} {base : Heap}
theorem int_case (n : String) (h : n ∈ kinds) : (if (n == "int" || n == "bool") = true then !(n == "bool") else false) = (n == "int") := by
  simp only [kinds, List.mem_cons, List.not_mem_nil, or_false] at h
  rcases h with h | h | h | h | h | h <;> subst h <;> decide
theorem ok_is_integer {f : Addr} {fd : FuncData} (F : DefK K mg "is_integer" st_is_integer ["thing"] f fd) (Z : Zs mg)  :
    FnOk P w K mg base CX0 1 f fd ["thing"] (sp_is_integer K) := by
  refine F.fn.ok sc_is_integer (fun vs H Q E h => by first | (obtain ⟨_, rfl, _⟩ := h; rfl) | (obtain ⟨_, _, rfl, _⟩ := h; rfl) | (obtain ⟨_, _, _, rfl, _⟩ := h; rfl) | (obtain ⟨_, _, _, _, rfl, _⟩ := h; rfl) | (obtain ⟨_, _, _, _, _, rfl, _⟩ := h; rfl) | (obtain ⟨_, _, _, _, _, _, rfl, _⟩ := h; rfl) | (obtain ⟨_, _, _, _, _, _, _, rfl, _⟩ := h; rfl) | (obtain ⟨_, _, _, _, _, _, _, _, rfl, _⟩ := h; rfl) | (obtain ⟨_, _, _, _, _, _, _, _, _, rfl, _⟩ := h; rfl) | (obtain ⟨_, _, _, _, _, _, _, _, _, _, rfl, _⟩ := h; rfl) | (obtain ⟨_, _, _, _, _, _, _, _, _, _, _, rfl, _⟩ := h; rfl) | (obtain ⟨_, _, _, _, _, _, _, _, _, _, _, _, rfl, _⟩ := h; rfl) | (obtain ⟨_, _, _, _, _, _, _, _, _, _, _, _, _, rfl, _⟩ := h; rfl)) (fun cdv A outer s H vs Q E hr h => ?_)
  obtain ⟨v, n, rfl, kd, k⟩ := h
  have hn := kd.mem
  have ty := kd.ty (K := K)
  rw [← kd.isI] at k
  refine ⟨_, (pss_one (ps_ret (pe_and (pe_callB (kIsi (K := K)) (by rfl) Z.isinstance_ PyProof.Rows.Boot.«isinstance» (pa_cons (pv 0) (pa_cons (pe_bltn (v := .ty "int") (by rfl) Z.int_ PyProof.Rows.Boot.«int» rfl) pa_nil))) (pe_one (pe_not (pe_callB (kIsi (K := K)) (by rfl) Z.isinstance_ PyProof.Rows.Boot.«isinstance» (pa_cons (pv 0) (pa_cons (pe_bltn (v := .ty "bool") (by rfl) Z.bool_ PyProof.Rows.Boot.«bool» rfl) pa_nil)))))))), ?_⟩
  refine ⟨_, rfl, v, .ty "int", .type n, .type "int", _, rfl, .ty "int", ty, kit_ty (kit_int n hn), _, rfl, ?_⟩
  have e := int_case n hn
  cases c : (n == "int" || n == "bool") with
  | true =>
    rw [c] at e
    refine iteT ⟨_, rfl, v, .ty "bool", .type n, .type "bool", _, rfl, .ty "bool", ty, kit_ty (kit_bool n hn), _, rfl, ?_⟩
    rw [← e] at k
    exact k
  | false =>
    rw [c] at e
    rw [← e] at k
    exact iteF k
theorem ok_l_integer {f : Addr} {fd : FuncData} (F : DefK K mg "_law_integer" st_l_integer ["_law_thing"] f fd) (Z : Zs mg)  :
    FnOk P w K mg base CX0 1 f fd ["_law_thing"] (sp_l_integer K) := by
  refine F.fn.ok sc_l_integer (fun vs H Q E h => by first | (obtain ⟨_, rfl, _⟩ := h; rfl) | (obtain ⟨_, _, rfl, _⟩ := h; rfl) | (obtain ⟨_, _, _, rfl, _⟩ := h; rfl) | (obtain ⟨_, _, _, _, rfl, _⟩ := h; rfl) | (obtain ⟨_, _, _, _, _, rfl, _⟩ := h; rfl) | (obtain ⟨_, _, _, _, _, _, rfl, _⟩ := h; rfl) | (obtain ⟨_, _, _, _, _, _, _, rfl, _⟩ := h; rfl) | (obtain ⟨_, _, _, _, _, _, _, _, rfl, _⟩ := h; rfl) | (obtain ⟨_, _, _, _, _, _, _, _, _, rfl, _⟩ := h; rfl) | (obtain ⟨_, _, _, _, _, _, _, _, _, _, rfl, _⟩ := h; rfl) | (obtain ⟨_, _, _, _, _, _, _, _, _, _, _, rfl, _⟩ := h; rfl) | (obtain ⟨_, _, _, _, _, _, _, _, _, _, _, _, rfl, _⟩ := h; rfl) | (obtain ⟨_, _, _, _, _, _, _, _, _, _, _, _, _, rfl, _⟩ := h; rfl)) (fun cdv A outer s H vs Q E hr h => ?_)
  obtain ⟨v, n, rfl, kd, k⟩ := h
  have hn := kd.mem
  have ty := kd.ty (K := K)
  rw [← kd.isI] at k
  refine ⟨_, (pss_one (ps_ret (pe_and (pe_callB (kIsi (K := K)) (by rfl) Z.isinstance_ PyProof.Rows.Boot.«isinstance» (pa_cons (pv 0) (pa_cons (pe_bltn (v := .ty "int") (by rfl) Z.int_ PyProof.Rows.Boot.«int» rfl) pa_nil))) (pe_one (pe_not (pe_callB (kIsi (K := K)) (by rfl) Z.isinstance_ PyProof.Rows.Boot.«isinstance» (pa_cons (pv 0) (pa_cons (pe_bltn (v := .ty "bool") (by rfl) Z.bool_ PyProof.Rows.Boot.«bool» rfl) pa_nil)))))))), ?_⟩
  refine ⟨_, rfl, v, .ty "int", .type n, .type "int", _, rfl, .ty "int", ty, kit_ty (kit_int n hn), _, rfl, ?_⟩
  have e := int_case n hn
  cases c : (n == "int" || n == "bool") with
  | true =>
    rw [c] at e
    refine iteT ⟨_, rfl, v, .ty "bool", .type n, .type "bool", _, rfl, .ty "bool", ty, kit_ty (kit_bool n hn), _, rfl, ?_⟩
    rw [← e] at k
    exact k
  | false =>
    rw [c] at e
    rw [← e] at k
    exact iteF k
end
/-! ### gcd -/
def gcdI (a b : Int) : Int := ((Nat.gcd a.natAbs b.natAbs : Nat) : Int)
def gfold (ns : List Int) : Int := ns.foldl gcdI 0
theorem gfold_more {ns : List Int} {i : Nat} {z : Int} (h : ns[i]? = some z) : gfold (ns.take (i + 1)) = gcdI (gfold (ns.take i)) z := by
  unfold gfold
  have hi : i < ns.length := (List.getElem?_eq_some_iff.mp h).1
  rw [List.take_succ, h, Option.toList_some, List.foldl_append]
  rfl
theorem ints_at {ns : List Int} {i : Nat} {x : V} (h : (ns.map V.int)[i]? = some x) : ∃ z, ns[i]? = some z ∧ x = .int z := by
  rw [List.getElem?_map] at h
  cases e : ns[i]? with
  | none =>
    rw [e] at h
    cases h
  | some z =>
    rw [e] at h
    exact ⟨z, rfl, (Option.some.inj h).symm⟩
def sp_gcd_of (K : PySem.W.Frag) : Sp := fun vs H Q _ => ∃ (k : Bool) (a : Addr) (ns : List Int), vs = [.ref a] ∧ SqK K k H a (ns.map V.int) ∧ Q (.int (gfold ns)) H
def sp_l_common (K : PySem.W.Frag) : Sp := fun vs H Q _ => ∃ (a b : Int), vs = [.int a, .int b] ∧ Q (.int (gcdI a b)) H
section
variable {P : Program} {w : World} {K : PySem.W.Frag} {mg : Str → Option Value} {base : Heap}
theorem ok_gcd_of {f : Addr} {fd : FuncData} (F : DefK K mg "gcd_of" st_gcd_of ["numbers"] f fd) (Z : Zs mg)  :
    FnOk P w K mg base CX0 1 f fd ["numbers"] (sp_gcd_of K) := by
  refine F.fn.ok sc_gcd_of (fun vs H Q E h => by first | (obtain ⟨_, rfl, _⟩ := h; rfl) | (obtain ⟨_, _, rfl, _⟩ := h; rfl) | (obtain ⟨_, _, _, rfl, _⟩ := h; rfl) | (obtain ⟨_, _, _, _, rfl, _⟩ := h; rfl) | (obtain ⟨_, _, _, _, _, rfl, _⟩ := h; rfl) | (obtain ⟨_, _, _, _, _, _, rfl, _⟩ := h; rfl) | (obtain ⟨_, _, _, _, _, _, _, rfl, _⟩ := h; rfl) | (obtain ⟨_, _, _, _, _, _, _, _, rfl, _⟩ := h; rfl) | (obtain ⟨_, _, _, _, _, _, _, _, _, rfl, _⟩ := h; rfl) | (obtain ⟨_, _, _, _, _, _, _, _, _, _, rfl, _⟩ := h; rfl) | (obtain ⟨_, _, _, _, _, _, _, _, _, _, _, rfl, _⟩ := h; rfl) | (obtain ⟨_, _, _, _, _, _, _, _, _, _, _, _, rfl, _⟩ := h; rfl) | (obtain ⟨_, _, _, _, _, _, _, _, _, _, _, _, _, rfl, _⟩ := h; rfl)) (fun cdv A outer s H vs Q E hr h => ?_)
  obtain ⟨k, a, ns, rfl, hS, kq⟩ := h
  refine ⟨_, (pss_cons (ps_set (i := 1) sc_gcd_of.nd rfl (.inl rfl) pe_int)
      (pss_cons (ps_for PassesOwn.never rfl (kSeq (K := K) (pv 0)) (pg_name (i := 2) sc_gcd_of.nd rfl (.inl rfl)) (pss_one (ps_set (i := 1) sc_gcd_of.nd rfl (.inl rfl) (pe_callBfun cr_gcd (by rfl) Z.gcd_ (pa_cons (pv 1) (pa_cons (pv 2) pa_nil))))))
      (pss_one (ps_ret (pv 1))))), ?_⟩
  refine ⟨_, rfl, k, a, _, rfl, hS, for_it (walk_k (xs := ns.map V.int)) (fun i σ H' => ∃ v : Option V, σ = [some (.ref a), some (.int (gfold (ns.take i))), v] ∧ H' = H) ⟨none, by rw [List.take_zero]; rfl, rfl⟩ (fun i σ H' _ p => ?_) (fun i x σ H' H2 hi p y => ?_) (fun σ H' p => ?_)⟩
  · obtain ⟨v, rfl, rfl⟩ := p
    exact hS
  · obtain ⟨v, rfl, rfl⟩ := p
    obtain ⟨rfl, hx⟩ := y
    obtain ⟨z, hz, rfl⟩ := ints_at hx
    refine ⟨_, rfl, _, rfl, _, _, rfl, ?_⟩
    exact ⟨some (.int z), by rw [gfold_more hz]; rfl, rfl⟩
  · obtain ⟨v, rfl, rfl⟩ := p
    rw [List.length_map, List.take_length]
    exact ⟨_, rfl, kq⟩
theorem ok_l_common {f : Addr} {fd : FuncData} (F : DefK K mg "_law_common" st_l_common ["_law_one", "_law_other"] f fd) (Z : Zs mg)  :
    FnOk P w K mg base CX0 1 f fd ["_law_one", "_law_other"] (sp_l_common K) := by
  refine F.fn.ok sc_l_common (fun vs H Q E h => by first | (obtain ⟨_, rfl, _⟩ := h; rfl) | (obtain ⟨_, _, rfl, _⟩ := h; rfl) | (obtain ⟨_, _, _, rfl, _⟩ := h; rfl) | (obtain ⟨_, _, _, _, rfl, _⟩ := h; rfl) | (obtain ⟨_, _, _, _, _, rfl, _⟩ := h; rfl) | (obtain ⟨_, _, _, _, _, _, rfl, _⟩ := h; rfl) | (obtain ⟨_, _, _, _, _, _, _, rfl, _⟩ := h; rfl) | (obtain ⟨_, _, _, _, _, _, _, _, rfl, _⟩ := h; rfl) | (obtain ⟨_, _, _, _, _, _, _, _, _, rfl, _⟩ := h; rfl) | (obtain ⟨_, _, _, _, _, _, _, _, _, _, rfl, _⟩ := h; rfl) | (obtain ⟨_, _, _, _, _, _, _, _, _, _, _, rfl, _⟩ := h; rfl) | (obtain ⟨_, _, _, _, _, _, _, _, _, _, _, _, rfl, _⟩ := h; rfl) | (obtain ⟨_, _, _, _, _, _, _, _, _, _, _, _, _, rfl, _⟩ := h; rfl)) (fun cdv A outer s H vs Q E hr h => ?_)
  obtain ⟨a, b, rfl, k⟩ := h
  refine ⟨_, (pss_cons (ps_par (i := 0) (j := 1) (by rfl) sc_l_common.nd rfl rfl (by decide) rfl rfl (pa_cons (pe_callB call_abs (by rfl) Z.abs_ PyProof.Rows.Boot.«abs» (pa_cons (pv 0) pa_nil)) (pa_cons (pe_callB call_abs (by rfl) Z.abs_ PyProof.Rows.Boot.«abs» (pa_cons (pv 1) pa_nil)) pa_nil)) (by rfl))
      (pss_cons (ps_while PassesOwn.never (pt_cmpR op_gt (pv 1) pe_int (nomark _)) (pss_one (ps_par (i := 0) (j := 1) (by rfl) sc_l_common.nd rfl rfl (by decide) rfl rfl (pa_cons (pv 1) (pa_cons (pe_op oMod (pv 0) (pv 1)) pa_nil)) (by rfl))))
      (pss_one (ps_ret (pv 0))))), ?_⟩
  refine ⟨_, rfl, a, rfl, _, rfl, b, rfl, _, _, rfl, ?_⟩
  refine while_by (fun σ H' => ∃ x y : Int, σ = [some (.int x), some (.int y)] ∧ 0 ≤ x ∧ 0 ≤ y ∧ gcdI x y = gcdI a b ∧ H' = H)
    (fun σ _ => match σ with | [_, some (.int y)] => y.toNat | _ => 0) ?_ ?_ ?_
  · refine ⟨_, _, rfl, ?_, ?_, ?_, rfl⟩
    · split <;> omega
    · split <;> omega
    · unfold gcdI
      congr 2
      · split <;> omega
      · split <;> omega
  · rintro σ H' ⟨x, y, rfl, hx, hy, hg, rfl⟩
    refine ⟨_, rfl, y, 0, rfl, rfl, _, rfl, ?_⟩
    by_cases hy0 : 0 < y
    · rw [decide_eq_true hy0]
      refine iteT ⟨_, rfl, _, rfl, _, rfl, x, y, rfl, rfl, (by omega), _, _, rfl, ?_⟩
      have e : x.fmod y = x % y := by rw [Int.fmod_eq_emod_of_nonneg x (by omega)]
      refine ⟨⟨y, x.fmod y, rfl, hy, ?_, ?_, rfl⟩, ?_⟩
      · rw [e]
        exact Int.emod_nonneg x (by omega)
      · rw [← hg, e]
        unfold gcdI
        congr 1
        have h1 : (x % y).natAbs = x.natAbs % y.natAbs := by
          rw [Int.natAbs_emod_of_nonneg hx]
        rw [h1, Nat.gcd_comm, ← Nat.gcd_rec, Nat.gcd_comm]
      · show (x.fmod y).toNat < y.toNat
        rw [e]
        have := Int.emod_lt_of_pos x hy0
        have := Int.emod_nonneg x (show y ≠ 0 by omega)
        omega
    · rw [decide_eq_false hy0]
      refine iteF ⟨_, rfl, ?_⟩
      have y0 : y = 0 := by omega
      subst y0
      have e : x = gcdI a b := by
        rw [← hg]
        unfold gcdI
        simp
        omega
      rw [e]
      exact k
  · intro σ H' Q Q' hq h
    obtain ⟨v, h1, i, j, h2, h3, c, h4, h5⟩ := h
    exact ⟨v, h1, i, j, h2, h3, c, h4, hq _ _ h5⟩
end
end K1

set_option maxHeartbeats 4000000
namespace K1
open PySem PySem.Spec PyProof.Rows L2 Hg
/-! ### divisors -/
def root (n : Nat) : Nat := Float64.isqrt n
def smallI (n : Nat) : List Int := picked (fun i => decide (((n : Int).fmod (1 + (i : Int))) = 0)) (fun i => 1 + (i : Int)) (root n)
def largeI (n : Nat) : List Int := let s := smallI n; picked (fun i => !decide (s.getD (s.length - 1 - i) 0 * s.getD (s.length - 1 - i) 0 = (n : Int))) (fun i => (n : Int).fdiv (s.getD (s.length - 1 - i) 0)) s.length
def divI (n : Nat) : List Int := smallI n ++ largeI n
theorem picked_mem {α : Type} {keep : Nat → Bool} {val : Nat → α} {n : Nat} {x : α} (h : x ∈ picked keep val n) : ∃ i, i < n ∧ keep i = true ∧ x = val i := by
  unfold picked at h
  obtain ⟨i, hi, rfl⟩ := List.mem_map.mp h
  obtain ⟨h1, h2⟩ := List.mem_filter.mp hi
  exact ⟨i, List.mem_range.mp h1, h2, rfl⟩
/-- divisors(n), n up to 10 ** 6 -/
def sp_divisors (K : PySem.W.Frag) : Sp := fun vs H Q _ => ∃ (n : Nat), vs = [.int n] ∧ 1 ≤ n ∧ n < 2 ^ 40 ∧ root n ≤ 100000 ∧ ∀ H' p, Ex H H' → H p = none → H' p = some (.tup ((divI n).map V.int)) → Q (.ref p) H'
section
variable {P : Program} {w : World} {K : PySem.W.Frag} {mg : Str → Option Value} {base : Heap}
theorem ok_divisors {f : Addr} {fd : FuncData} (F : DefK K mg "divisors" st_divisors ["number"] f fd) (Z : Zs mg)  :
    FnOk P w K mg base CX0 1 f fd ["number"] (sp_divisors K) := by
  refine F.fn.ok sc_divisors (fun vs H Q E h => by first | (obtain ⟨_, rfl, _⟩ := h; rfl) | (obtain ⟨_, _, rfl, _⟩ := h; rfl) | (obtain ⟨_, _, _, rfl, _⟩ := h; rfl) | (obtain ⟨_, _, _, _, rfl, _⟩ := h; rfl) | (obtain ⟨_, _, _, _, _, rfl, _⟩ := h; rfl) | (obtain ⟨_, _, _, _, _, _, rfl, _⟩ := h; rfl) | (obtain ⟨_, _, _, _, _, _, _, rfl, _⟩ := h; rfl) | (obtain ⟨_, _, _, _, _, _, _, _, rfl, _⟩ := h; rfl) | (obtain ⟨_, _, _, _, _, _, _, _, _, rfl, _⟩ := h; rfl) | (obtain ⟨_, _, _, _, _, _, _, _, _, _, rfl, _⟩ := h; rfl) | (obtain ⟨_, _, _, _, _, _, _, _, _, _, _, rfl, _⟩ := h; rfl) | (obtain ⟨_, _, _, _, _, _, _, _, _, _, _, _, rfl, _⟩ := h; rfl) | (obtain ⟨_, _, _, _, _, _, _, _, _, _, _, _, _, rfl, _⟩ := h; rfl)) (fun cdv A outer s H vs Q E hr h => ?_)
  obtain ⟨n, rfl, h1, h40, hr0, k⟩ := h
  refine ⟨_, (pss_cons (ps_setLc (i := 1) (own := [("k", 3)]) rfl sc_divisors.nd rfl rfl (sw_true rfl rfl rfl (by decide +kernel)) (pi_range2 (by rfl) Z.range_ (pa_cons pe_int (pa_cons (pe_op (kAdd (K := K)) (pe_callBfun cr_isqrt (by rfl) Z.isqrt_ (pa_cons (pv 0) pa_nil)) pe_int) pa_nil))) (blkOk_by (N := ["number", "small", "large", "k"]) (sc := defScope st_divisors) (by decide +kernel)) (fun _ _ _ _ _ => (pg_name (i := 3) sc_divisors.nd rfl (.inl rfl))) (fun _ _ _ _ _ => (pts_one (pt_cmpR (kEq (K := K) hr.units) (pe_op oMod (pv 0) (pv 3)) pe_int (nomark _)))) (fun _ _ _ _ _ => (pv 3)))
      (pss_cons (ps_setLc (i := 2) (own := [("k", 3)]) rfl sc_divisors.nd rfl rfl (sw_true rfl rfl rfl (by decide +kernel)) (RT.pi_revA (by rfl) Z.reversed_ (pv 1)) (blkOk_by (N := ["number", "small", "large", "k"]) (sc := defScope st_divisors) (by decide +kernel)) (fun _ _ _ _ _ => (pg_name (i := 3) sc_divisors.nd rfl (.inl rfl))) (fun _ _ _ _ _ => (pts_one (pt_cmpR (kNe (K := K) hr.units) (pe_op oMul (pv 3) (pv 3)) (pv 0) (nomark _)))) (fun _ _ _ _ _ => (pe_op oDiv (pv 0) (pv 3))))
      (pss_one (ps_ret (pe_callTy (kTup (K := K)) (by rfl) Z.tuple_ PyProof.Rows.Boot.«tuple» (pa_cons (pe_op (kAdd (K := K)) (pv 1) (pv 2)) pa_nil)))))), ?_⟩
  have hn64 : (n : Int) < 2 ^ 64 := by omega
  refine ⟨_, rfl, n, rfl, Int.natCast_nonneg _, hn64, .inl ⟨_, _, rfl, rfl, ?_⟩⟩
  have er : Float64.isqrt (n : Int).toNat = root n := by rw [Int.toNat_natCast]; rfl
  rw [er]
  refine ⟨_, _, rfl, by omega, fun D hD => ?_⟩
  have e1 : (((root n : Nat) : Int) + 1 - 1).toNat = root n := by omega
  rw [e1]
  refine lc_pure (walk_range (lo := 1) (n := root n)) hD (fun i => decide (((n : Int).fmod (1 + (i : Int))) = 0)) (fun i => .int (1 + (i : Int))) (by omega) (fun _ _ => trivial) (fun i x Hc Hy hi e y Qe Qn qe qn => ?_) (fun H1 ex hL => ?_)
  · obtain ⟨rfl, rfl⟩ := y
    refine ⟨rfl, _, rfl, _, rfl, _, _, rfl, rfl, (by omega), .inl ⟨rfl, _, rfl, ?_⟩⟩
    by_cases c : (n : Int).fmod (1 + (i : Int)) = 0
    · have c' : decide (V.int ((n : Int).fmod (1 + (i : Int))) = V.int 0) = true := by simp [c]
      rw [c']
      exact iteT ⟨_, rfl, qe (by simp [c]) _ (Ex.refl _)⟩
    · have c' : decide (V.int ((n : Int).fmod (1 + (i : Int))) = V.int 0) = false := by simp [c]
      rw [c']
      exact iteF (qn (by simp [c]) _ (Ex.refl _))
  · have hL : H1 D = some (.lst ((smallI n).map V.int)) := by
      rw [hL]
      unfold smallI
      rw [picked_map]
    refine ⟨_, rfl, D, _, rfl, .inl ⟨SqL.of hL, fun D2 hD2 => ?_⟩⟩
    have ne2 : D ≠ D2 := ne_of_none hL hD2
    refine lc_pure walk_rev hD2 (fun i => !decide ((smallI n).getD ((smallI n).length - 1 - i) 0 * (smallI n).getD ((smallI n).length - 1 - i) 0 = (n : Int))) (fun i => .int ((n : Int).fdiv ((smallI n).getD ((smallI n).length - 1 - i) 0))) ?_ (fun _ e => SqL.of (e _ _ hL)) (fun i x Hc Hy hi e y Qe Qn qe qn => ?_) (fun H2 ex2 hL2 => ?_)
    · rw [List.length_map]
      have := picked_len (fun i => decide (((n : Int).fmod (1 + (i : Int))) = 0)) (fun i => 1 + (i : Int)) (root n)
      have e : (smallI n).length ≤ root n := this
      omega
    · rw [List.length_map] at hi y
      obtain ⟨rfl, hx⟩ := y
      obtain ⟨z, hz, rfl⟩ := ints_at hx
      have ez : (smallI n).getD ((smallI n).length - 1 - i) 0 = z := by
        rw [List.getD_eq_getElem?_getD, hz]
        rfl
      obtain ⟨j, hj, _, rfl⟩ := picked_mem (List.mem_of_getElem? hz)
      refine ⟨rfl, _, rfl, _, rfl, _, _, rfl, rfl, ?_, _, rfl, .inl ⟨rfl, _, rfl, ?_⟩⟩
      · exact wide_mul (a := 20) (b := 20) (by omega) (by omega) (by decide) (by decide) (by decide)
      rw [ez] at qe qn
      by_cases c : (1 + (j : Int)) * (1 + (j : Int)) = (n : Int)
      · have c' : (!decide (V.int ((1 + (j : Int)) * (1 + (j : Int))) = V.int n)) = false := by simp [c]
        rw [c']
        exact iteF (qn (by simp [c]) _ (Ex.refl _))
      · have c' : (!decide (V.int ((1 + (j : Int)) * (1 + (j : Int))) = V.int n)) = true := by simp [c]
        rw [c']
        refine iteT ⟨_, rfl, _, rfl, _, _, rfl, rfl, ⟨by omega, ?_⟩, qe (by simp [c]) _ (Ex.refl _)⟩
        exact Nat.lt_of_lt_of_le (PySem.Flt.log2_lt_of (k := 20) (by decide) (show (1 + (j : Int)).natAbs < 2 ^ 20 by omega)) (by decide)
    · have hL2 : H2 D2 = some (.lst ((largeI n).map V.int)) := by
        rw [hL2, List.length_map]
        unfold largeI
        rw [picked_map]
      refine ⟨_, rfl, _, rfl, .inr (.inl ⟨D, D2, _, _, rfl, rfl, ex2 _ _ hL, hL2, ?_, fun p hp => ?_⟩)⟩
      · rw [List.length_map, List.length_map]
        have l1 : (smallI n).length ≤ root n := picked_len _ _ _
        have l2 : (largeI n).length ≤ (smallI n).length := picked_len _ _ _
        rw [sizeLine_eq]
        omega
      · refine ⟨p, _, rfl, .inl ⟨SqL.of upd_same, fun t ht => ?_⟩⟩
        have fr : H2 t = none := by
          by_cases e : t = p
          · subst e
            exact hp
          · rw [upd_ne e] at ht
            exact ht
        refine k _ t (((ex.trans ex2).trans (Ex.new hp)).trans (Ex.new ht)) (ex.free (ex2.free fr)) ?_
        rw [upd_same, ← List.map_append]
        rfl
end
end K1

set_option maxHeartbeats 4000000
namespace K1
open PySem PySem.Spec PyProof.Rows L2 Hg
/-! ### forms -/
/-- what is_form is asked: no tuple, or a tuple of known kinds -/
def Frm (H : Hp) (v : V) (size : Int) (b : Bool) : Prop :=
  (∃ n, Kd H v n ∧ n ≠ "tuple" ∧ b = false) ∨ ∃ (a : Addr) (xs : List V), v = .ref a ∧ H a = some (.tup xs) ∧ xs.length ≤ 1000 ∧ (∀ x ∈ xs, ∃ n, Kd H x n) ∧ b = (decide ((xs.length : Int) = size) && xs.all isI)
def sp_is_form (K : PySem.W.Frag) : Sp := fun vs H Q _ => ∃ (v : V) (size : Int) (b : Bool), vs = [v, .int size] ∧ Frm H v size b ∧ ∀ H', Ex H H' → Q (.bl b) H'
def big (x : Int) : Prop := x.natAbs < 2 ^ 3000
theorem big_mul {x y : Int} (hx : big x) (hy : big y) : CMulW x y := wide_mul hx hy (by decide) (by decide) (by decide)
def dotI (fs vs : List Int) : Int := (List.zipWith (· * ·) fs vs).sum
def sp_dot (K : PySem.W.Frag) : Sp := fun vs H Q _ => ∃ (k l : Bool) (a b : Addr) (xs ys : List Int), vs = [.ref a, .ref b] ∧ SqK K k H a (xs.map V.int) ∧ SqK K l H b (ys.map V.int) ∧ xs.length = ys.length ∧ xs.length ≤ 1000 ∧
  (∀ x ∈ xs, big x) ∧ (∀ y ∈ ys, big y) ∧ ∀ H', Ex H H' → Q (.int (dotI xs ys)) H'
def sp_add_forms (K : PySem.W.Frag) : Sp := fun vs H Q _ => ∃ (k l : Bool) (a b : Addr) (xs ys : List Int), vs = [.ref a, .ref b] ∧ SqK K k H a (xs.map V.int) ∧ SqK K l H b (ys.map V.int) ∧ xs.length = ys.length ∧ xs.length ≤ 1000 ∧
  ∀ H' p, Ex H H' → H p = none → H' p = some (.tup ((List.zipWith (· + ·) xs ys).map V.int)) → Q (.ref p) H'
def sp_scale_form (K : PySem.W.Frag) : Sp := fun vs H Q _ => ∃ (k : Bool) (a : Addr) (c : Int) (xs : List Int), vs = [.int c, .ref a] ∧ SqK K k H a (xs.map V.int) ∧ xs.length ≤ 1000 ∧ big c ∧ (∀ x ∈ xs, big x) ∧
  ∀ H' p, Ex H H' → H p = none → H' p = some (.tup ((xs.map (c * ·)).map V.int)) → Q (.ref p) H'
theorem range_zip {xs ys : List Int} (h : xs.length = ys.length) (f : Int → Int → Int) (val : Nat → V) (hv : ∀ i x y, xs[i]? = some x → ys[i]? = some y → val i = .int (f x y)) :
    (List.range (min xs.length ys.length)).map val = (List.zipWith f xs ys).map V.int := by
  apply List.ext_getElem?
  intro i
  rw [List.getElem?_map, List.getElem?_map]
  by_cases hi : i < xs.length
  · have hj : i < ys.length := by omega
    rw [List.getElem?_range (by omega)]
    simp only [List.getElem?_zipWith, List.getElem?_eq_getElem hi, List.getElem?_eq_getElem hj, Option.map_some]
    rw [hv i _ _ (List.getElem?_eq_getElem hi) (List.getElem?_eq_getElem hj)]
  · have e1 : (List.range (min xs.length ys.length))[i]? = none := by simp; omega
    have e2 : (List.zipWith f xs ys)[i]? = none := by
      rw [List.getElem?_eq_none_iff]
      simp
      omega
    rw [e1, e2]
    rfl
section
variable {P : Program} {w : World} {K : PySem.W.Frag} {mg : Str → Option Value} {base : Heap}
theorem ok_is_form {f : Addr} {fd : FuncData} (F : DefK K mg "is_form" st_is_form ["thing", "size"] f fd) (Z : Zs mg) {f_is_integer : Addr} {fd_is_integer : FuncData} (D_is_integer : DefK K mg "is_integer" st_is_integer ["thing"] f_is_integer fd_is_integer) (G_is_integer : FnOk P w K mg base CX0 1 f_is_integer fd_is_integer ["thing"] (sp_is_integer K)) :
    FnOk P w K mg base CX0 2 f fd ["thing", "size"] (sp_is_form K) := by
  refine F.fn.ok sc_is_form (fun vs H Q E h => by first | (obtain ⟨_, rfl, _⟩ := h; rfl) | (obtain ⟨_, _, rfl, _⟩ := h; rfl) | (obtain ⟨_, _, _, rfl, _⟩ := h; rfl) | (obtain ⟨_, _, _, _, rfl, _⟩ := h; rfl) | (obtain ⟨_, _, _, _, _, rfl, _⟩ := h; rfl) | (obtain ⟨_, _, _, _, _, _, rfl, _⟩ := h; rfl) | (obtain ⟨_, _, _, _, _, _, _, rfl, _⟩ := h; rfl) | (obtain ⟨_, _, _, _, _, _, _, _, rfl, _⟩ := h; rfl) | (obtain ⟨_, _, _, _, _, _, _, _, _, rfl, _⟩ := h; rfl) | (obtain ⟨_, _, _, _, _, _, _, _, _, _, rfl, _⟩ := h; rfl) | (obtain ⟨_, _, _, _, _, _, _, _, _, _, _, rfl, _⟩ := h; rfl) | (obtain ⟨_, _, _, _, _, _, _, _, _, _, _, _, rfl, _⟩ := h; rfl) | (obtain ⟨_, _, _, _, _, _, _, _, _, _, _, _, _, rfl, _⟩ := h; rfl)) (fun cdv A outer s H vs Q E hr h => ?_)
  obtain ⟨v, size, b, rfl, hf, k⟩ := h
  refine ⟨_, (pss_cons (ps_if (PW.pt (pw_or (pt_not (pt_val (pe_callB (kIsi (K := K)) (by rfl) Z.isinstance_ PyProof.Rows.Boot.«isinstance» (pa_cons (pv 0) (pa_cons (pe_bltn (v := .ty "tuple") (by rfl) Z.tuple_ PyProof.Rows.Boot.«tuple» rfl) pa_nil))))) (pw_or1 (pt_cmpR (kNe (K := K) hr.units) (pe_callB (kLen (K := K)) (by rfl) Z.len_ PyProof.Rows.Boot.«len» (pa_cons (pv 0) pa_nil)) (pv 1) (nomark _))))) (pss_one (ps_ret pe_bl)) pss_nil)
      (pss_one (ps_ret (pe_callB (kAll (K := K) rfl) (by rfl) Z.all_ PyProof.Rows.Boot.«all» (pa_cons (pe_lc (own := [("entry", 2)]) rfl sc_is_form.nd (kSeq (K := K) (pv 0)) (blkOk_by (N := ["thing", "size", "entry"]) (sc := defScope st_is_form) (by decide +kernel)) (fun _ _ _ _ _ => (pg_name (i := 2) sc_is_form.nd rfl (.inl rfl))) (fun _ _ _ _ _ => pts_nil) (fun _ _ _ _ _ => (pe_call G_is_integer (hr.mono (by decide)) rfl D_is_integer.mg D_is_integer.fn.kp D_is_integer.bd .nil pass0 (pa_cons (pv 2) pa_nil)))) pa_nil))))), ?_⟩
  rcases hf with ⟨n, kd, hn, rfl⟩ | ⟨a, xs, rfl, ha, hlen, hx, rfl⟩
  · have e : (n == "tuple") = false := by simpa using hn
    refine ⟨_, rfl, v, .ty "tuple", .type n, .type "tuple", _, rfl, .ty "tuple", kd.ty, kit_ty (kit_tup n kd.mem), _, rfl, ?_⟩
    rw [e]
    exact iteT (iteT (k _ (Ex.refl _)))
  · have kd : Kd H (.ref a) "tuple" := .tup ha
    refine ⟨_, rfl, .ref a, .ty "tuple", .type "tuple", .type "tuple", _, rfl, .ty "tuple", kd.ty, kit_ty (kit_tup "tuple" kd.mem), _, rfl, ?_⟩
    refine iteF ⟨_, rfl, a, xs, rfl, .inr (SqT.of ha), _, rfl, .inl ⟨rfl, _, rfl, ?_⟩⟩
    by_cases c : (xs.length : Int) = size
    · have c' : (!decide (V.int xs.length = V.int size)) = false := by simp [c]
      rw [c']
      refine iteF ⟨_, rfl, true, a, xs, rfl, SqK.tup ha, fun D hD => ?_⟩
      refine lc_pure (walk_k (xs := xs)) hD (fun _ => true) (fun i => .bl (isI (xs.getD i .non))) (by omega) (fun _ e => e.seq (SqK.tup ha)) (fun i x Hc Hy hi e y Qe Qn qe qn => ?_) (fun H1 ex hL => ?_)
      · obtain ⟨rfl, hxi⟩ := y
        obtain ⟨n, kx⟩ := hx x (List.mem_of_getElem? hxi)
        refine ⟨rfl, _, rfl, x, n, rfl, kx.ex e, ?_⟩
        have ez : xs.getD i .non = x := by
          rw [List.getD_eq_getElem?_getD, hxi]
          rfl
        rw [ez] at qe
        exact qe rfl _ (Ex.refl _)
      · have hL : H1 D = some (.lst ((xs.map isI).map V.bl)) := by
          rw [hL, picked_all]
          rw [map_range xs (fun x => V.bl (isI x)) _ (fun i x h => by rw [List.getD_eq_getElem?_getD, h]; rfl), List.map_map]
          rfl
        refine ⟨D, _, rfl, SqL.of hL, ?_⟩
        have q := k H1 ex
        rw [decide_eq_true c, Bool.true_and] at q
        rw [List.all_map]
        exact q
    · have c' : (!decide (V.int xs.length = V.int size)) = true := by simp [c]
      rw [c']
      have q := k _ (Ex.refl H)
      rw [decide_eq_false c, Bool.false_and] at q
      exact iteT q
theorem ok_dot {f : Addr} {fd : FuncData} (F : DefK K mg "dot" st_dot ["form", "vector"] f fd) (Z : Zs mg)  :
    FnOk P w K mg base CX0 1 f fd ["form", "vector"] (sp_dot K) := by
  refine F.fn.ok sc_dot (fun vs H Q E h => by first | (obtain ⟨_, rfl, _⟩ := h; rfl) | (obtain ⟨_, _, rfl, _⟩ := h; rfl) | (obtain ⟨_, _, _, rfl, _⟩ := h; rfl) | (obtain ⟨_, _, _, _, rfl, _⟩ := h; rfl) | (obtain ⟨_, _, _, _, _, rfl, _⟩ := h; rfl) | (obtain ⟨_, _, _, _, _, _, rfl, _⟩ := h; rfl) | (obtain ⟨_, _, _, _, _, _, _, rfl, _⟩ := h; rfl) | (obtain ⟨_, _, _, _, _, _, _, _, rfl, _⟩ := h; rfl) | (obtain ⟨_, _, _, _, _, _, _, _, _, rfl, _⟩ := h; rfl) | (obtain ⟨_, _, _, _, _, _, _, _, _, _, rfl, _⟩ := h; rfl) | (obtain ⟨_, _, _, _, _, _, _, _, _, _, _, rfl, _⟩ := h; rfl) | (obtain ⟨_, _, _, _, _, _, _, _, _, _, _, _, rfl, _⟩ := h; rfl) | (obtain ⟨_, _, _, _, _, _, _, _, _, _, _, _, _, rfl, _⟩ := h; rfl)) (fun cdv A outer s H vs Q E hr h => ?_)
  obtain ⟨k, l, a, b, xs, ys, rfl, ha, hb, he, hlen, bx, by_, kq⟩ := h
  refine ⟨_, (pss_one (ps_ret (pe_callB (kSum (K := K) rfl) (by rfl) Z.sum_ PyProof.Rows.Boot.«sum» (pa_cons (pe_lc (own := [("weight", 2), ("entry", 3)]) rfl sc_dot.nd (kZip (K := K) (by rfl) Z.zip_ (pa_cons (pv 0) (pa_cons (pv 1) pa_nil))) (blkOk_by (N := ["form", "vector", "weight", "entry"]) (sc := defScope st_dot) (by decide +kernel)) (fun _ _ _ _ _ => (kPgT (K := K) (n := 2) rfl (pgs_cons (pg_name (i := 2) sc_dot.nd rfl (.inl rfl)) (pgs_cons (pg_name (i := 3) sc_dot.nd rfl (.inl rfl)) pgs_nil)))) (fun _ _ _ _ _ => pts_nil) (fun _ _ _ _ _ => (pe_op oMul (pv 2) (pv 3)))) pa_nil)))), ?_⟩
  refine ⟨_, rfl, _, rfl, k, l, a, b, _, _, rfl, ha, hb, fun D hD => ?_⟩
  have hmin : min xs.length ys.length = min (xs.map V.int).length (ys.map V.int).length := by simp
  refine lc_pure (walk_zk (K := K) (k := k) (l := l) (a := a) (b := b) (xs := xs.map V.int) (ys := ys.map V.int) hmin) hD (fun _ => true) (fun i => .int (xs.getD i 0 * ys.getD i 0)) (by omega) (fun _ e => ⟨e.seq ha, e.seq hb⟩) (fun i x Hc Hy hi e y Qe Qn qe qn => ?_) (fun H1 ex hL => ?_)
  · obtain ⟨T, x1, y1, rfl, hT, rfl, hx, hy⟩ := y
    obtain ⟨z1, hz1, rfl⟩ := ints_at hx
    obtain ⟨z2, hz2, rfl⟩ := ints_at hy
    have e1 : xs.getD i 0 = z1 := by rw [List.getD_eq_getElem?_getD, hz1]; rfl
    have e2 : ys.getD i 0 = z2 := by rw [List.getD_eq_getElem?_getD, hz2]; rfl
    rw [e1, e2] at qe
    refine ⟨T, _, rfl, SqT.of upd_same, rfl, _, _, rfl, _, _, rfl, rfl, rfl, _, rfl, _, rfl, z1, z2, rfl, rfl, big_mul (bx _ (List.mem_of_getElem? hz1)) (by_ _ (List.mem_of_getElem? hz2)), qe rfl _ (Ex.new hT)⟩
  · rw [picked_all, range_zip he (· * ·) _ (fun i x y h1 h2 => by rw [List.getD_eq_getElem?_getD, List.getD_eq_getElem?_getD, h1, h2]; rfl)] at hL
    exact ⟨D, _, rfl, SqL.of hL, kq H1 ex⟩
theorem ok_add_forms {f : Addr} {fd : FuncData} (F : DefK K mg "add_forms" st_add_forms ["one", "other"] f fd) (Z : Zs mg)  :
    FnOk P w K mg base CX0 1 f fd ["one", "other"] (sp_add_forms K) := by
  refine F.fn.ok sc_add_forms (fun vs H Q E h => by first | (obtain ⟨_, rfl, _⟩ := h; rfl) | (obtain ⟨_, _, rfl, _⟩ := h; rfl) | (obtain ⟨_, _, _, rfl, _⟩ := h; rfl) | (obtain ⟨_, _, _, _, rfl, _⟩ := h; rfl) | (obtain ⟨_, _, _, _, _, rfl, _⟩ := h; rfl) | (obtain ⟨_, _, _, _, _, _, rfl, _⟩ := h; rfl) | (obtain ⟨_, _, _, _, _, _, _, rfl, _⟩ := h; rfl) | (obtain ⟨_, _, _, _, _, _, _, _, rfl, _⟩ := h; rfl) | (obtain ⟨_, _, _, _, _, _, _, _, _, rfl, _⟩ := h; rfl) | (obtain ⟨_, _, _, _, _, _, _, _, _, _, rfl, _⟩ := h; rfl) | (obtain ⟨_, _, _, _, _, _, _, _, _, _, _, rfl, _⟩ := h; rfl) | (obtain ⟨_, _, _, _, _, _, _, _, _, _, _, _, rfl, _⟩ := h; rfl) | (obtain ⟨_, _, _, _, _, _, _, _, _, _, _, _, _, rfl, _⟩ := h; rfl)) (fun cdv A outer s H vs Q E hr h => ?_)
  obtain ⟨k, l, a, b, xs, ys, rfl, ha, hb, he, hlen, kq⟩ := h
  refine ⟨_, (pss_one (ps_ret (pe_callTy (kTup (K := K)) (by rfl) Z.tuple_ PyProof.Rows.Boot.«tuple» (pa_cons (pe_lc (own := [("left", 2), ("right", 3)]) rfl sc_add_forms.nd (kZip (K := K) (by rfl) Z.zip_ (pa_cons (pv 0) (pa_cons (pv 1) pa_nil))) (blkOk_by (N := ["one", "other", "left", "right"]) (sc := defScope st_add_forms) (by decide +kernel)) (fun _ _ _ _ _ => (kPgT (K := K) (n := 2) rfl (pgs_cons (pg_name (i := 2) sc_add_forms.nd rfl (.inl rfl)) (pgs_cons (pg_name (i := 3) sc_add_forms.nd rfl (.inl rfl)) pgs_nil)))) (fun _ _ _ _ _ => pts_nil) (fun _ _ _ _ _ => (pe_op (kAdd (K := K)) (pv 2) (pv 3)))) pa_nil)))), ?_⟩
  refine ⟨_, rfl, _, rfl, k, l, a, b, _, _, rfl, ha, hb, fun D hD => ?_⟩
  have hmin : min xs.length ys.length = min (xs.map V.int).length (ys.map V.int).length := by simp
  refine lc_pure (walk_zk (K := K) (k := k) (l := l) (a := a) (b := b) (xs := xs.map V.int) (ys := ys.map V.int) hmin) hD (fun _ => true) (fun i => .int (xs.getD i 0 + ys.getD i 0)) (by omega) (fun _ e => ⟨e.seq ha, e.seq hb⟩) (fun i x Hc Hy hi e y Qe Qn qe qn => ?_) (fun H1 ex hL => ?_)
  · obtain ⟨T, x1, y1, rfl, hT, rfl, hx, hy⟩ := y
    obtain ⟨z1, hz1, rfl⟩ := ints_at hx
    obtain ⟨z2, hz2, rfl⟩ := ints_at hy
    have e1 : xs.getD i 0 = z1 := by rw [List.getD_eq_getElem?_getD, hz1]; rfl
    have e2 : ys.getD i 0 = z2 := by rw [List.getD_eq_getElem?_getD, hz2]; rfl
    rw [e1, e2] at qe
    refine ⟨T, _, rfl, SqT.of upd_same, rfl, _, _, rfl, _, _, rfl, rfl, rfl, _, rfl, _, rfl, .inl ⟨z1, z2, rfl, rfl, qe rfl _ (Ex.new hT)⟩⟩
  · rw [picked_all, range_zip he (· + ·) _ (fun i x y h1 h2 => by rw [List.getD_eq_getElem?_getD, List.getD_eq_getElem?_getD, h1, h2]; rfl)] at hL
    refine ⟨D, _, rfl, .inl ⟨SqL.of hL, fun t ht => ?_⟩⟩
    exact kq _ t (ex.trans (Ex.new ht)) (ex.free ht) upd_same
theorem ok_scale_form {f : Addr} {fd : FuncData} (F : DefK K mg "scale_form" st_scale_form ["factor", "form"] f fd) (Z : Zs mg)  :
    FnOk P w K mg base CX0 1 f fd ["factor", "form"] (sp_scale_form K) := by
  refine F.fn.ok sc_scale_form (fun vs H Q E h => by first | (obtain ⟨_, rfl, _⟩ := h; rfl) | (obtain ⟨_, _, rfl, _⟩ := h; rfl) | (obtain ⟨_, _, _, rfl, _⟩ := h; rfl) | (obtain ⟨_, _, _, _, rfl, _⟩ := h; rfl) | (obtain ⟨_, _, _, _, _, rfl, _⟩ := h; rfl) | (obtain ⟨_, _, _, _, _, _, rfl, _⟩ := h; rfl) | (obtain ⟨_, _, _, _, _, _, _, rfl, _⟩ := h; rfl) | (obtain ⟨_, _, _, _, _, _, _, _, rfl, _⟩ := h; rfl) | (obtain ⟨_, _, _, _, _, _, _, _, _, rfl, _⟩ := h; rfl) | (obtain ⟨_, _, _, _, _, _, _, _, _, _, rfl, _⟩ := h; rfl) | (obtain ⟨_, _, _, _, _, _, _, _, _, _, _, rfl, _⟩ := h; rfl) | (obtain ⟨_, _, _, _, _, _, _, _, _, _, _, _, rfl, _⟩ := h; rfl) | (obtain ⟨_, _, _, _, _, _, _, _, _, _, _, _, _, rfl, _⟩ := h; rfl)) (fun cdv A outer s H vs Q E hr h => ?_)
  obtain ⟨k, a, c, xs, rfl, ha, hlen, bc, bx, kq⟩ := h
  refine ⟨_, (pss_one (ps_ret (pe_callTy (kTup (K := K)) (by rfl) Z.tuple_ PyProof.Rows.Boot.«tuple» (pa_cons (pe_lc (own := [("weight", 2)]) rfl sc_scale_form.nd (kSeq (K := K) (pv 1)) (blkOk_by (N := ["factor", "form", "weight"]) (sc := defScope st_scale_form) (by decide +kernel)) (fun _ _ _ _ _ => (pg_name (i := 2) sc_scale_form.nd rfl (.inl rfl))) (fun _ _ _ _ _ => pts_nil) (fun _ _ _ _ _ => (pe_op oMul (pv 0) (pv 2)))) pa_nil)))), ?_⟩
  refine ⟨_, rfl, k, a, _, rfl, ha, fun D hD => ?_⟩
  refine lc_pure (walk_k (xs := xs.map V.int)) hD (fun _ => true) (fun i => .int (c * xs.getD i 0)) (by simp; omega) (fun _ e => e.seq ha) (fun i x Hc Hy hi e y Qe Qn qe qn => ?_) (fun H1 ex hL => ?_)
  · obtain ⟨rfl, hx⟩ := y
    obtain ⟨z1, hz1, rfl⟩ := ints_at hx
    have e1 : xs.getD i 0 = z1 := by rw [List.getD_eq_getElem?_getD, hz1]; rfl
    rw [e1] at qe
    exact ⟨rfl, _, rfl, _, rfl, c, z1, rfl, rfl, big_mul bc (bx _ (List.mem_of_getElem? hz1)), qe rfl _ (Ex.refl _)⟩
  · rw [picked_all, List.length_map, map_range xs (fun x => V.int (c * x)) _ (fun i x h => by rw [List.getD_eq_getElem?_getD, h]; rfl)] at hL
    refine ⟨D, _, rfl, .inl ⟨SqL.of hL, fun t ht => ?_⟩⟩
    refine kq _ t (ex.trans (Ex.new ht)) (ex.free ht) ?_
    rw [upd_same, List.map_map]
    rfl
end
end K1

set_option maxHeartbeats 4000000
namespace K1
open PySem PySem.Spec PyProof.Rows L2 Hg
/-! ### fractions: the mathematics -/
def signed (t b : Int) : Int := if b < 0 then -gcdI t b else gcdI t b
def fracI (t b : Int) : Int × Int := (t.fdiv (signed t b), b.fdiv (signed t b))
theorem gcd_pos {t b : Int} (h : b ≠ 0) : 0 < gcdI t b := by
  unfold gcdI
  have : 0 < Nat.gcd t.natAbs b.natAbs := Nat.gcd_pos_of_pos_right _ (Int.natAbs_pos.mpr h)
  omega
theorem signed_ne {t b : Int} (h : b ≠ 0) : signed t b ≠ 0 := by
  have := gcd_pos (t := t) h
  unfold signed
  split <;> omega
theorem gcd_split (t b : Int) (h : b ≠ 0) : ∃ x y : Int, t = gcdI t b * x ∧ b = gcdI t b * y ∧ gcdI x y = 1 := by
  have hp := gcd_pos (t := t) h
  have d1 : gcdI t b ∣ t := Int.ofNat_dvd_left.mpr (Nat.gcd_dvd_left _ _)
  have d2 : gcdI t b ∣ b := Int.ofNat_dvd_left.mpr (Nat.gcd_dvd_right _ _)
  obtain ⟨x, hx⟩ := d1
  obtain ⟨y, hy⟩ := d2
  refine ⟨x, y, hx, hy, ?_⟩
  have e : (gcdI t b).natAbs = Nat.gcd t.natAbs b.natAbs := by unfold gcdI; exact Int.natAbs_natCast _
  have e1 : t.natAbs = (gcdI t b).natAbs * x.natAbs := by conv => lhs; rw [hx, Int.natAbs_mul]
  have e2 : b.natAbs = (gcdI t b).natAbs * y.natAbs := by conv => lhs; rw [hy, Int.natAbs_mul]
  have q : Nat.gcd t.natAbs b.natAbs = (gcdI t b).natAbs * Nat.gcd x.natAbs y.natAbs := by
    conv => lhs; rw [e1, e2]
    exact Nat.gcd_mul_left _ _ _
  rw [← e] at q
  have hpn : 0 < (gcdI t b).natAbs := by omega
  have one : Nat.gcd x.natAbs y.natAbs = 1 := by
    have q2 : (gcdI t b).natAbs * 1 = (gcdI t b).natAbs * Nat.gcd x.natAbs y.natAbs := by rw [Nat.mul_one]; exact q
    exact (Nat.eq_of_mul_eq_mul_left hpn q2).symm
  show ((Nat.gcd x.natAbs y.natAbs : Nat) : Int) = 1
  rw [one]
  rfl
theorem frac_ok (t b : Int) (h : b ≠ 0) : 0 < (fracI t b).2 ∧ gcdI (fracI t b).1 (fracI t b).2 = 1 ∧ (fracI t b).1 * b = t * (fracI t b).2 := by
  obtain ⟨x, y, hx, hy, hg⟩ := gcd_split t b h
  have hp := gcd_pos (t := t) h
  generalize hgg : gcdI t b = g at *
  have neg1 : gcdI (-x) (-y) = 1 := by
    have : gcdI (-x) (-y) = gcdI x y := by unfold gcdI; rw [Int.natAbs_neg, Int.natAbs_neg]
    rw [this]; exact hg
  by_cases hb : b < 0
  · have es : signed t b = -g := by unfold signed; rw [if_pos hb, hgg]
    have e1 : t.fdiv (-g) = -x := by
      rw [hx, show g * x = (-g) * (-x) by rw [Int.neg_mul_neg]]
      exact Int.mul_fdiv_cancel_left _ (by omega)
    have e2 : b.fdiv (-g) = -y := by
      rw [hy, show g * y = (-g) * (-y) by rw [Int.neg_mul_neg]]
      exact Int.mul_fdiv_cancel_left _ (by omega)
    have e : fracI t b = (-x, -y) := by unfold fracI; rw [es, e1, e2]
    rw [e]
    refine ⟨?_, neg1, ?_⟩
    · show 0 < -y
      have : g * y < 0 := by rw [← hy]; exact hb
      have : y < 0 := by
        by_cases c : 0 ≤ y
        · have := Int.mul_nonneg (Int.le_of_lt hp) c
          omega
        · omega
      omega
    · show -x * b = t * -y
      rw [hx, hy]
      grind
  · have es : signed t b = g := by unfold signed; rw [if_neg hb, hgg]
    have e1 : t.fdiv g = x := by
      rw [hx]
      exact Int.mul_fdiv_cancel_left _ (by omega)
    have e2 : b.fdiv g = y := by
      rw [hy]
      exact Int.mul_fdiv_cancel_left _ (by omega)
    have e : fracI t b = (x, y) := by unfold fracI; rw [es, e1, e2]
    rw [e]
    refine ⟨?_, hg, ?_⟩
    · show 0 < y
      have : 0 < g * y := by rw [← hy]; omega
      by_cases c : 0 < y
      · exact c
      · have := Int.mul_nonneg (Int.le_of_lt hp) (show 0 ≤ -y by omega)
        rw [Int.mul_neg] at this
        omega
    · show x * b = t * y
      rw [hx, hy]
      grind
theorem frac_form (t b : Int) (h : b ≠ 0) : ∃ x y : Int, t = gcdI t b * x ∧ b = gcdI t b * y ∧ (fracI t b = (x, y) ∨ fracI t b = (-x, -y)) := by
  obtain ⟨x, y, hx, hy, hg⟩ := gcd_split t b h
  have hp := gcd_pos (t := t) h
  refine ⟨x, y, hx, hy, ?_⟩
  generalize hgg : gcdI t b = g at *
  by_cases hb : b < 0
  · right
    have es : signed t b = -g := by unfold signed; rw [if_pos hb, hgg]
    unfold fracI
    rw [es, hx, hy, show g * x = (-g) * (-x) by rw [Int.neg_mul_neg], show g * y = (-g) * (-y) by rw [Int.neg_mul_neg], Int.mul_fdiv_cancel_left _ (by omega), Int.mul_fdiv_cancel_left _ (by omega)]
  · left
    have es : signed t b = g := by unfold signed; rw [if_neg hb, hgg]
    unfold fracI
    rw [es, hx, hy, Int.mul_fdiv_cancel_left _ (by omega), Int.mul_fdiv_cancel_left _ (by omega)]
theorem frac_big (t b : Int) (h : b ≠ 0) : (fracI t b).1.natAbs ≤ t.natAbs ∧ (fracI t b).2.natAbs ≤ b.natAbs := by
  obtain ⟨x, y, hx, hy, e⟩ := frac_form t b h
  have hp := gcd_pos (t := t) h
  have hpn : 1 ≤ (gcdI t b).natAbs := by omega
  have e1 : x.natAbs ≤ t.natAbs := by
    have q : t.natAbs = (gcdI t b).natAbs * x.natAbs := by conv => lhs; rw [hx, Int.natAbs_mul]
    rw [q]
    exact Nat.le_mul_of_pos_left _ hpn
  have e2 : y.natAbs ≤ b.natAbs := by
    have q : b.natAbs = (gcdI t b).natAbs * y.natAbs := by conv => lhs; rw [hy, Int.natAbs_mul]
    rw [q]
    exact Nat.le_mul_of_pos_left _ hpn
  rcases e with e | e <;> rw [e]
  · exact ⟨e1, e2⟩
  · exact ⟨by rw [Int.natAbs_neg]; exact e1, by rw [Int.natAbs_neg]; exact e2⟩
theorem frac_ne (t b : Int) (h : b ≠ 0) : (fracI t b).2 ≠ 0 := by
  have := (frac_ok t b h).1
  omega
/-- what the law asks of a sum, of a product -/
theorem frac_add (a b c d t1 b1 t2 b2 : Int) (hb : b ≠ 0) (hd : d ≠ 0) (h1 : b1 ≠ 0) (h2 : b2 ≠ 0) (e1 : t1 * b = a * b1) (e2 : t2 * d = c * b2) :
    (fracI (t1 * b2 + t2 * b1) (b1 * b2)).1 * (b * d) = (a * d + c * b) * (fracI (t1 * b2 + t2 * b1) (b1 * b2)).2 := by
  have hne : b1 * b2 ≠ 0 := Int.mul_ne_zero h1 h2
  have h := (frac_ok (t1 * b2 + t2 * b1) (b1 * b2) hne).2.2
  generalize (fracI (t1 * b2 + t2 * b1) (b1 * b2)).1 = x at *
  generalize (fracI (t1 * b2 + t2 * b1) (b1 * b2)).2 = y at *
  apply Int.eq_of_mul_eq_mul_left hne
  grind
theorem frac_mul (a b c d t1 b1 t2 b2 : Int) (hb : b ≠ 0) (hd : d ≠ 0) (h1 : b1 ≠ 0) (h2 : b2 ≠ 0) (e1 : t1 * b = a * b1) (e2 : t2 * d = c * b2) :
    (fracI (t1 * t2) (b1 * b2)).1 * (b * d) = (a * c) * (fracI (t1 * t2) (b1 * b2)).2 := by
  have hne : b1 * b2 ≠ 0 := Int.mul_ne_zero h1 h2
  have h := (frac_ok (t1 * t2) (b1 * b2) hne).2.2
  generalize (fracI (t1 * t2) (b1 * b2)).1 = x at *
  generalize (fracI (t1 * t2) (b1 * b2)).2 = y at *
  apply Int.eq_of_mul_eq_mul_left hne
  grind
end K1

set_option maxHeartbeats 4000000
namespace K1
open PySem PySem.Spec PyProof.Rows L2 Hg
abbrev in_ZeroBottom : Stmt := inClass (top 5) 0
theorem ns_ZeroBottom : NdefX.NScope ["self", "__class__"] ["self"] ["__class__"] (defScope in_ZeroBottom) := NdefX.nscope_by (by decide +kernel)
abbrev row_ZeroBottom : Stmt := supRow "the bottom of a fraction is 0" 0 ⟨11, 8, 11, 13⟩ ⟨11, 8, 11, 15⟩ ⟨11, 8, 11, 24⟩ ⟨11, 25, 11, 56⟩ ⟨11, 8, 11, 57⟩ ⟨11, 8, 11, 57⟩
abbrev nf_ZeroBottom (cc cda : Addr) : NdefX.NF := nfOf "ZeroBottom.__init__" (defArgs in_ZeroBottom) (defBody in_ZeroBottom) (defScope in_ZeroBottom) cc cda
theorem body_ZeroBottom : defBody in_ZeroBottom = row_ZeroBottom :: (defBody in_ZeroBottom).tail := rfl
/-- ZeroBottom, as the top leaves it -/
structure ZBt (P : Program) (K : PySem.W.Frag) (mg : Str → Option Value) (C fI cc cda : Addr) (fdI : FuncData) : Prop where
  err : ErrK P K mg C fI cc cda
  mgC : mg "ZeroBottom" = some (.ref C)
  nsC : PySem.W.nsIn K mainGlobals "ZeroBottom" = some (some (.ref C))
  iC : PySem.W.findIn K (.ref C) "__init__" = some (some (.ref fI))
  tI : PySem.W.typeIn K (.ref fI) = some (.type "function")
  fn : ∃ (oc : Value) (od : Option Addr) (doc pm ct : Value) (osl : Array (Option Value)), fdI = (nf_ZeroBottom cc cda).fd doc pm ct ∧ K.lookup fI = some ⟨oc, od, .func fdI, osl⟩
  code : PySem.W.codeIn K (.ref cda) "ZeroBottom.__init__" = true
  bI : Binds K fdI ["self"] []
theorem ZBt.oex {P : Program} {K : PySem.W.Frag} {mg : Str → Option Value} {C fI cc cda : Addr} {fdI : FuncData} (T : ZBt P K mg C fI cc cda fdI) : OexC K C := T.err.oex
def sp_zinit (C : Addr) : Sp := fun vs H Q _ => ∃ a, vs = [.ref a] ∧ H a = some (exo a C none) ∧ Q .non H
theorem del_upd {H : Hp} {a : Addr} {o : HO} (h : H a = none) : del (upd H a o) a = H := by
  funext b
  by_cases e : b = a
  · subst e
    rw [del_same, h]
  · rw [del_ne e, upd_ne e]
/-- a def with a default -/
structure DefF (K : PySem.W.Frag) (mg : Str → Option Value) (ps : List Str) (f : Addr) (fd : FuncData) : Prop where
  mg : mg "fraction" = some (.ref f)
  fn : FunD K "fraction" "fraction" (defArgs st_fraction) (defBody st_fraction) (defScope st_fraction) [.int 1] [] f fd
  bd : Binds K fd ps []
  bd1 : ∃ ds, Vals [.int 1] ds ∧ Binds K fd ps ds
/-- fraction(top, bottom) -/
def sp_fraction (K : PySem.W.Frag) : Sp := fun vs H Q E => ∃ (t b : Int), vs = [.int t, .int b] ∧ big t ∧ big b ∧ (b = 0 → ∀ C, PySem.W.nsIn K mainGlobals "ZeroBottom" = some (some (.ref C)) → E (.ref C) none H) ∧
  (b ≠ 0 → ∀ p, H p = none → Q (.ref p) (upd H p (.tup [.int (fracI t b).1, .int (fracI t b).2])))
section
variable {P : Program} {w : World} {K : PySem.W.Frag} {mg : Str → Option Value} {base : Heap} {CZ fZ cZ kZ : Addr} {fdZ : FuncData}
theorem ok_zinit (T : ZBt P K mg CZ fZ cZ kZ fdZ) : FnOk P w K mg base CX0 1 fZ fdZ ["self"] (sp_zinit CZ) := by
  obtain ⟨oc, od, doc, pm, ct, osl, rfl, lf⟩ := T.fn
  refine fn_err (k := 0) T.err (N := ["self", "__class__"]) (rest := []) ns_ZeroBottom lf T.code ⟨_, rfl, rfl⟩ rfl rfl (pl := _) (fun L => rfl) (fun vs H Q E h => ?_) (fun vs H Q E h => ?_) (fun A outer s H vs Q E hr h => ?_)
  · obtain ⟨a, rfl, _⟩ := h
    rfl
  · obtain ⟨a, rfl, ea, _⟩ := h
    exact ⟨a, [], rfl, ea⟩
  · obtain ⟨a, rfl, ea, q⟩ := h
    exact ⟨_, pss_nil, q⟩
theorem ok_fraction {f : Addr} {fd : FuncData} (F : DefF K mg ["top", "bottom"] f fd) (Z : Zs mg) (T : ZBt P K mg CZ fZ cZ kZ fdZ) (GI : FnOk P w K mg base CX0 1 fZ fdZ ["self"] (sp_zinit CZ)) :
    FnOk P w K mg base (L2.CX P w) 3 f fd ["top", "bottom"] (sp_fraction K) := by
  refine F.fn.ok sc_fraction (fun vs H Q E h => by obtain ⟨_, _, rfl, _⟩ := h; rfl) (fun cdv A outer s H vs Q E hr h => ?_)
  obtain ⟨t, b, rfl, bt, bb, kz, kq⟩ := h
  refine ⟨_, (pss_cons (ps_if (pt_cmpR (kEq (K := K) hr.units) (pv 1) pe_int (nomark _)) (pss_one (ps_raise rfl (takes_of rfl rfl rfl rfl) (pmk_err0 T.oex T.iC T.tI GI (hr.mono (by decide)) T.bI rfl T.mgC))) pss_nil)
      (pss_cons (ps_set (i := 2) sc_fraction.nd rfl (.inl rfl) (pe_callBfun cr_gcd (by rfl) Z.gcd_ (pa_cons (pv 0) (pa_cons (pv 1) pa_nil))))
      (pss_cons (ps_if (pt_cmpR op_lt (pv 1) pe_int (nomark _)) (pss_one (ps_set (i := 2) sc_fraction.nd rfl (.inl rfl) (pe_un un_neg (pv 2)))) pss_nil)
      (pss_one (ps_ret (pe_tup (pa_cons (pe_op oDiv (pv 0) (pv 2)) (pa_cons (pe_op oDiv (pv 1) (pv 2)) pa_nil)))))))), ?_⟩
  refine ⟨_, rfl, .inl ⟨rfl, _, rfl, ?_⟩⟩
  by_cases hb : b = 0
  · subst hb
    refine iteT fun a ha => ⟨a, rfl, upd_same, rfl, upd_same, ?_⟩
    rw [del_upd ha]
    exact kz rfl _ T.nsC
  · have c' : decide (V.int b = V.int 0) = false := by simp [hb]
    rw [c']
    have hp := gcd_pos (t := t) hb
    have hsg : CDivA t (signed t b) ∧ CDivA b (signed t b) := by
      have h1 := signed_ne (t := t) hb
      have h2 : (signed t b).natAbs ≤ b.natAbs := by
        have q : (signed t b).natAbs = (gcdI t b).natAbs := by
          unfold signed
          split
          · exact Int.natAbs_neg _
          · rfl
        rw [q]
        unfold gcdI
        rw [Int.natAbs_natCast]
        exact Nat.gcd_le_right _ (Int.natAbs_pos.mpr hb)
      have h3 : (signed t b).natAbs.log2 < 9000 := Nat.lt_of_lt_of_le (PySem.Flt.log2_lt_of (k := 3000) (by decide) (Nat.lt_of_le_of_lt h2 bb)) (by decide)
      exact ⟨⟨h1, h3⟩, ⟨h1, h3⟩⟩
    refine iteF ⟨_, rfl, _, rfl, _, _, rfl, _, rfl, _, _, rfl, rfl, _, rfl, ?_⟩
    by_cases hn : b < 0
    · have e : signed t b = -((Nat.gcd t.natAbs b.natAbs : Nat) : Int) := if_pos hn
      rw [e] at hsg
      rw [decide_eq_true hn]
      refine iteT ⟨_, rfl, _, rfl, _, rfl, _, rfl, _, _, rfl, rfl, hsg.1, _, rfl, _, rfl, _, _, rfl, rfl, hsg.2, (by show 2 ≤ sizeLine; decide), fun p hp => ?_⟩
      have q := kq hb p hp
      unfold fracI at q
      rw [e] at q
      exact q
    · have e : signed t b = ((Nat.gcd t.natAbs b.natAbs : Nat) : Int) := if_neg hn
      rw [e] at hsg
      rw [decide_eq_false hn]
      refine iteF ⟨_, rfl, _, rfl, _, _, rfl, rfl, hsg.1, _, rfl, _, rfl, _, _, rfl, rfl, hsg.2, (by show 2 ≤ sizeLine; decide), fun p hp => ?_⟩
      have q := kq hb p hp
      unfold fracI at q
      rw [e] at q
      exact q
end
end K1

set_option maxHeartbeats 4000000
set_option exponentiation.threshold 5000
namespace K1
open PySem PySem.Spec PyProof.Rows L2 Hg
theorem ixk {K : PySem.W.Frag} {k : Bool} {H : Hp} {p : Addr} {xs : List V} {i : Int} {v : V} {Q : VK} (h : SqK K k H p xs) (e : atI xs i = some v) (q : Q v H) : rIx K (.ref p) (.int i) H Q := by
  cases k with
  | true => exact .inr (.inl ⟨p, xs, i, v, rfl, rfl, h, e, q⟩)
  | false => exact .inl ⟨p, xs, i, v, rfl, rfl, h, e, q⟩
def big1 (x : Int) : Prop := x.natAbs < 2 ^ 1000
theorem big1.big {x : Int} (h : big1 x) : big x := Nat.lt_of_lt_of_le h (Nat.pow_le_pow_right (by decide) (by decide))
theorem big1.mul {x y : Int} (h : big1 x) (h' : big1 y) : (x * y).natAbs < 2 ^ 2000 := wide_lt h h'
theorem big_of {x : Int} {n : Nat} (h : x.natAbs < 2 ^ n) (hn : n ≤ 3000) : big x := Nat.lt_of_lt_of_le h (Nat.pow_le_pow_right (by decide) hn)
theorem big_add {x y : Int} (h : x.natAbs < 2 ^ 2000) (h' : y.natAbs < 2 ^ 2000) : big (x + y) := by
  have e : (2 : Nat) ^ 2001 = 2 ^ 2000 + 2 ^ 2000 := by rw [Nat.pow_succ] <;> omega
  refine big_of (n := 2001) ?_ (by decide)
  rw [e]
  omega
def sp_add_fractions (K : PySem.W.Frag) : Sp := fun vs H Q _ => ∃ (k l : Bool) (a b : Addr) (t1 b1 t2 b2 : Int), vs = [.ref a, .ref b] ∧ SqK K k H a [.int t1, .int b1] ∧ SqK K l H b [.int t2, .int b2] ∧
  (big1 t1 ∧ big1 b1 ∧ big1 t2 ∧ big1 b2) ∧ b1 ≠ 0 ∧ b2 ≠ 0 ∧ ∀ p, H p = none → Q (.ref p) (upd H p (.tup [.int (fracI (t1 * b2 + t2 * b1) (b1 * b2)).1, .int (fracI (t1 * b2 + t2 * b1) (b1 * b2)).2]))
def sp_multiply_fractions (K : PySem.W.Frag) : Sp := fun vs H Q _ => ∃ (k l : Bool) (a b : Addr) (t1 b1 t2 b2 : Int), vs = [.ref a, .ref b] ∧ SqK K k H a [.int t1, .int b1] ∧ SqK K l H b [.int t2, .int b2] ∧
  (big1 t1 ∧ big1 b1 ∧ big1 t2 ∧ big1 b2) ∧ b1 ≠ 0 ∧ b2 ≠ 0 ∧ ∀ p, H p = none → Q (.ref p) (upd H p (.tup [.int (fracI (t1 * t2) (b1 * b2)).1, .int (fracI (t1 * t2) (b1 * b2)).2]))
def sp_l_equals (K : PySem.W.Frag) : Sp := fun vs H Q _ => ∃ (a : Addr) (x y t b : Int), vs = [.ref a, .int t, .int b] ∧ H a = some (.tup [.int x, .int y]) ∧ 0 < y ∧ gcdI x y = 1 ∧ x * b = t * y ∧ (big x ∧ big y ∧ big t ∧ big b) ∧
  ∀ H', Ex H H' → Q (.bl true) H'
def sp_l_made (K : PySem.W.Frag) : Sp := fun vs H Q _ => ∃ (t b : Int), vs = [.int t, .int b] ∧ big t ∧ big b ∧ (b = 0 → ∀ H', Ex H H' → Q .non H') ∧
  (b ≠ 0 → ∀ H' p, Ex H H' → H p = none → H' p = some (.tup [.int (fracI t b).1, .int (fracI t b).2]) → Q (.ref p) H')
/-- HushError, and what isinstance asks of a ZeroBottom -/
structure HErr (K : PySem.W.Frag) (mg : Str → Option Value) (CZ CH : Addr) : Prop where
  exc : ExcC K CZ
  mgH : mg "HushError" = some (.ref CH)
  isH : PySem.W.kitOne K (.ref CZ) (.ref CH) = some true
  isV : PySem.W.kitOne K (.ref CZ) (.type "ValueError") = some true
  te : PySem.W.exmOne K (.ref CZ) (.ref CZ) = some true
def rIsE1 (K : PySem.W.Frag) (D a : Addr) (cls : Value) (d : Option Addr) : List V → Hp → VK → Prop := fun xs H Q => cls = .ref D ∧ d = none ∧ rIsE K D a xs H Q
theorem call_isE1 {X : Cx} {K : PySem.W.Frag} {a D : Addr} {oe : Obj} {cls : Value} {d : Option Addr} {pn : List (Addr × Obj)} (C : ExcC K D) (hz : Zc cls d oe) (hf : ∃ vs, oe.data = .fields vs) (hK : X.K = K := by rfl) :
    CallR (X.suite a ((a, oe) :: pn)) (.builtin "isinstance") (rIsE1 K D a cls d) := by
  subst hK
  intro pins s σ H xs us Q I r h
  obtain ⟨rfl, rfl, h⟩ := h
  exact call_isE C hz hf pins s σ H xs us Q I r h
section
variable {P : Program} {w : World} {K : PySem.W.Frag} {mg : Str → Option Value} {base : Heap} {CZ CH fZ cZ kZ : Addr} {fdZ : FuncData}
theorem ok_add_fractions {f : Addr} {fd : FuncData} (F : DefK K mg "add_fractions" st_add_fractions ["one", "other"] f fd) (Z : Zs mg) {f_fraction : Addr} {fd_fraction : FuncData} (D_fraction : DefF K mg ["top", "bottom"] f_fraction fd_fraction) (G_fraction : FnOk P w K mg base (L2.CX P w) 3 f_fraction fd_fraction ["top", "bottom"] (sp_fraction K)) :
    FnOk P w K mg base CX0 4 f fd ["one", "other"] (sp_add_fractions K) := by
  refine F.fn.ok sc_add_fractions (fun vs H Q E h => by first | (obtain ⟨_, rfl, _⟩ := h; rfl) | (obtain ⟨_, _, rfl, _⟩ := h; rfl) | (obtain ⟨_, _, _, rfl, _⟩ := h; rfl) | (obtain ⟨_, _, _, _, rfl, _⟩ := h; rfl) | (obtain ⟨_, _, _, _, _, rfl, _⟩ := h; rfl) | (obtain ⟨_, _, _, _, _, _, rfl, _⟩ := h; rfl) | (obtain ⟨_, _, _, _, _, _, _, rfl, _⟩ := h; rfl) | (obtain ⟨_, _, _, _, _, _, _, _, rfl, _⟩ := h; rfl) | (obtain ⟨_, _, _, _, _, _, _, _, _, rfl, _⟩ := h; rfl) | (obtain ⟨_, _, _, _, _, _, _, _, _, _, rfl, _⟩ := h; rfl) | (obtain ⟨_, _, _, _, _, _, _, _, _, _, _, rfl, _⟩ := h; rfl) | (obtain ⟨_, _, _, _, _, _, _, _, _, _, _, _, rfl, _⟩ := h; rfl) | (obtain ⟨_, _, _, _, _, _, _, _, _, _, _, _, _, rfl, _⟩ := h; rfl)) (fun cdv A outer s H vs Q E hr h => ?_)
  obtain ⟨k, l, a, b, t1, b1, t2, b2, rfl, ha, hb, ⟨B1, B2, B3, B4⟩, n1, n2, kq⟩ := h
  refine ⟨_, (pss_one (ps_ret (pe_call G_fraction (hr.mono (by decide)) rfl D_fraction.mg D_fraction.fn.kp D_fraction.bd .nil passX (pa_cons (pe_op (kAdd (K := K)) (pe_op oMul (pe_ix (kIx (K := K)) (pv 0) pe_int (fun _ _ => rfl)) (pe_ix (kIx (K := K)) (pv 1) pe_int (fun _ _ => rfl))) (pe_op oMul (pe_ix (kIx (K := K)) (pv 1) pe_int (fun _ _ => rfl)) (pe_ix (kIx (K := K)) (pv 0) pe_int (fun _ _ => rfl)))) (pa_cons (pe_op oMul (pe_ix (kIx (K := K)) (pv 0) pe_int (fun _ _ => rfl)) (pe_ix (kIx (K := K)) (pv 1) pe_int (fun _ _ => rfl))) pa_nil))))), ?_⟩
  refine ⟨_, rfl, ixk ha rfl ⟨_, rfl, ixk hb rfl ⟨t1, b2, rfl, rfl, big_mul B1.big B4.big, ⟨_, rfl, ixk hb rfl ⟨_, rfl, ixk ha rfl ⟨t2, b1, rfl, rfl, big_mul B3.big B2.big, .inl ⟨_, _, rfl, rfl, ?_⟩⟩⟩⟩⟩⟩⟩
  refine ⟨_, rfl, ixk ha rfl ⟨_, rfl, ixk hb rfl ⟨b1, b2, rfl, rfl, big_mul B2.big B4.big, _, _, rfl, ?_, ?_, fun z => absurd z (Int.mul_ne_zero n1 n2), fun _ p hp => kq p hp⟩⟩⟩
  · exact big_add (B1.mul B4) (B3.mul B2)
  · exact big_of (B2.mul B4) (by decide)
theorem ok_multiply_fractions {f : Addr} {fd : FuncData} (F : DefK K mg "multiply_fractions" st_multiply_fractions ["one", "other"] f fd) (Z : Zs mg) {f_fraction : Addr} {fd_fraction : FuncData} (D_fraction : DefF K mg ["top", "bottom"] f_fraction fd_fraction) (G_fraction : FnOk P w K mg base (L2.CX P w) 3 f_fraction fd_fraction ["top", "bottom"] (sp_fraction K)) :
    FnOk P w K mg base CX0 4 f fd ["one", "other"] (sp_multiply_fractions K) := by
  refine F.fn.ok sc_multiply_fractions (fun vs H Q E h => by first | (obtain ⟨_, rfl, _⟩ := h; rfl) | (obtain ⟨_, _, rfl, _⟩ := h; rfl) | (obtain ⟨_, _, _, rfl, _⟩ := h; rfl) | (obtain ⟨_, _, _, _, rfl, _⟩ := h; rfl) | (obtain ⟨_, _, _, _, _, rfl, _⟩ := h; rfl) | (obtain ⟨_, _, _, _, _, _, rfl, _⟩ := h; rfl) | (obtain ⟨_, _, _, _, _, _, _, rfl, _⟩ := h; rfl) | (obtain ⟨_, _, _, _, _, _, _, _, rfl, _⟩ := h; rfl) | (obtain ⟨_, _, _, _, _, _, _, _, _, rfl, _⟩ := h; rfl) | (obtain ⟨_, _, _, _, _, _, _, _, _, _, rfl, _⟩ := h; rfl) | (obtain ⟨_, _, _, _, _, _, _, _, _, _, _, rfl, _⟩ := h; rfl) | (obtain ⟨_, _, _, _, _, _, _, _, _, _, _, _, rfl, _⟩ := h; rfl) | (obtain ⟨_, _, _, _, _, _, _, _, _, _, _, _, _, rfl, _⟩ := h; rfl)) (fun cdv A outer s H vs Q E hr h => ?_)
  obtain ⟨k, l, a, b, t1, b1, t2, b2, rfl, ha, hb, ⟨B1, B2, B3, B4⟩, n1, n2, kq⟩ := h
  refine ⟨_, (pss_one (ps_ret (pe_call G_fraction (hr.mono (by decide)) rfl D_fraction.mg D_fraction.fn.kp D_fraction.bd .nil passX (pa_cons (pe_op oMul (pe_ix (kIx (K := K)) (pv 0) pe_int (fun _ _ => rfl)) (pe_ix (kIx (K := K)) (pv 1) pe_int (fun _ _ => rfl))) (pa_cons (pe_op oMul (pe_ix (kIx (K := K)) (pv 0) pe_int (fun _ _ => rfl)) (pe_ix (kIx (K := K)) (pv 1) pe_int (fun _ _ => rfl))) pa_nil))))), ?_⟩
  refine ⟨_, rfl, ixk ha rfl ⟨_, rfl, ixk hb rfl ⟨t1, t2, rfl, rfl, big_mul B1.big B3.big, ?_⟩⟩⟩
  refine ⟨_, rfl, ixk ha rfl ⟨_, rfl, ixk hb rfl ⟨b1, b2, rfl, rfl, big_mul B2.big B4.big, _, _, rfl, ?_, ?_, fun z => absurd z (Int.mul_ne_zero n1 n2), fun _ p hp => kq p hp⟩⟩⟩
  · exact big_of (B1.mul B3) (by decide)
  · exact big_of (B2.mul B4) (by decide)
theorem ok_l_equals {f : Addr} {fd : FuncData} (F : DefK K mg "_law_equals" st_l_equals ["_law_found", "_law_top", "_law_base"] f fd) (Z : Zs mg) {f_l_integer : Addr} {fd_l_integer : FuncData} (D_l_integer : DefK K mg "_law_integer" st_l_integer ["_law_thing"] f_l_integer fd_l_integer) (G_l_integer : FnOk P w K mg base CX0 1 f_l_integer fd_l_integer ["_law_thing"] (sp_l_integer K)) {f_l_common : Addr} {fd_l_common : FuncData} (D_l_common : DefK K mg "_law_common" st_l_common ["_law_one", "_law_other"] f_l_common fd_l_common) (G_l_common : FnOk P w K mg base CX0 1 f_l_common fd_l_common ["_law_one", "_law_other"] (sp_l_common K)) :
    FnOk P w K mg base CX0 2 f fd ["_law_found", "_law_top", "_law_base"] (sp_l_equals K) := by
  refine F.fn.ok sc_l_equals (fun vs H Q E h => by first | (obtain ⟨_, rfl, _⟩ := h; rfl) | (obtain ⟨_, _, rfl, _⟩ := h; rfl) | (obtain ⟨_, _, _, rfl, _⟩ := h; rfl) | (obtain ⟨_, _, _, _, rfl, _⟩ := h; rfl) | (obtain ⟨_, _, _, _, _, rfl, _⟩ := h; rfl) | (obtain ⟨_, _, _, _, _, _, rfl, _⟩ := h; rfl) | (obtain ⟨_, _, _, _, _, _, _, rfl, _⟩ := h; rfl) | (obtain ⟨_, _, _, _, _, _, _, _, rfl, _⟩ := h; rfl) | (obtain ⟨_, _, _, _, _, _, _, _, _, rfl, _⟩ := h; rfl) | (obtain ⟨_, _, _, _, _, _, _, _, _, _, rfl, _⟩ := h; rfl) | (obtain ⟨_, _, _, _, _, _, _, _, _, _, _, rfl, _⟩ := h; rfl) | (obtain ⟨_, _, _, _, _, _, _, _, _, _, _, _, rfl, _⟩ := h; rfl) | (obtain ⟨_, _, _, _, _, _, _, _, _, _, _, _, _, rfl, _⟩ := h; rfl)) (fun cdv A outer s H vs Q E hr h => ?_)
  obtain ⟨a, x, y, t, b, rfl, ha, y0, g1, e1, ⟨bx, by_, bt, bb⟩, kq⟩ := h
  refine ⟨_, (pss_cons (ps_if (PW.pt (pw_or (pt_not (pt_val (pe_callB (kIsi (K := K)) (by rfl) Z.isinstance_ PyProof.Rows.Boot.«isinstance» (pa_cons (pv 0) (pa_cons (pe_bltn (v := .ty "tuple") (by rfl) Z.tuple_ PyProof.Rows.Boot.«tuple» rfl) pa_nil))))) (pw_or (pt_cmpR (kNe (K := K) hr.units) (pe_callB (kLen (K := K)) (by rfl) Z.len_ PyProof.Rows.Boot.«len» (pa_cons (pv 0) pa_nil)) pe_int (nomark _)) (pw_or1 (pt_not (pt_val (pe_callB (kAll (K := K) rfl) (by rfl) Z.all_ PyProof.Rows.Boot.«all» (pa_cons (pe_lc (own := [("_law_part", 3)]) rfl sc_l_equals.nd (kSeq (K := K) (pv 0)) (blkOk_by (N := ["_law_found", "_law_top", "_law_base", "_law_part"]) (sc := defScope st_l_equals) (by decide +kernel)) (fun _ _ _ _ _ => (pg_name (i := 3) sc_l_equals.nd rfl (.inl rfl))) (fun _ _ _ _ _ => pts_nil) (fun _ _ _ _ _ => (pe_call G_l_integer (hr.mono (by decide)) rfl D_l_integer.mg D_l_integer.fn.kp D_l_integer.bd .nil pass0 (pa_cons (pv 3) pa_nil)))) pa_nil)))))))) (pss_one (ps_ret pe_bl)) pss_nil)
      (pss_one (ps_ret (pe_and (pe_cmpR op_gt (pe_ix (kIx (K := K)) (pv 0) pe_int (fun _ _ => rfl)) pe_int (nomark _)) (pe_and (pe_cmpR (kEq (K := K) hr.units) (pe_call G_l_common (hr.mono (by decide)) rfl D_l_common.mg D_l_common.fn.kp D_l_common.bd .nil pass0 (pa_cons (pe_ix (kIx (K := K)) (pv 0) pe_int (fun _ _ => rfl)) (pa_cons (pe_ix (kIx (K := K)) (pv 0) pe_int (fun _ _ => rfl)) pa_nil))) pe_int (nomark _)) (pe_one (pe_cmpR (kEq (K := K) hr.units) (pe_op oMul (pe_ix (kIx (K := K)) (pv 0) pe_int (fun _ _ => rfl)) (pv 2)) (pe_op oMul (pv 1) (pe_ix (kIx (K := K)) (pv 0) pe_int (fun _ _ => rfl))) (nomark _)))))))), ?_⟩
  have kd : Kd H (.ref a) "tuple" := .tup ha
  refine ⟨_, rfl, .ref a, .ty "tuple", .type "tuple", .type "tuple", _, rfl, .ty "tuple", kd.ty, kit_ty (kit_tup "tuple" kd.mem), _, rfl, ?_⟩
  refine iteF ⟨_, rfl, a, _, rfl, .inr (SqT.of ha), .inl ⟨rfl, _, rfl, ?_⟩⟩
  refine iteF ⟨_, rfl, true, a, _, rfl, SqK.tup ha, fun D hD => ?_⟩
  refine lc_pure (walk_k (xs := [V.int x, V.int y])) hD (fun _ => true) (fun i => .bl true) (by show 2 ≤ 1000000; decide) (fun _ e => e.seq (SqK.tup ha)) (fun i z Hc Hy hi e q Qe Qn qe qn => ?_) (fun H1 ex hL => ?_)
  · obtain ⟨rfl, hz⟩ := q
    have hz2 : ∃ n, z = .int n := by
      have := List.mem_of_getElem? hz
      simp at this
      rcases this with h | h <;> exact ⟨_, h⟩
    obtain ⟨n, rfl⟩ := hz2
    exact ⟨rfl, _, rfl, _, _, rfl, .int n, qe rfl _ (Ex.refl _)⟩
  · have ha1 := SqK.tup (K := K) (ex _ _ ha)
    refine ⟨D, [true, true], rfl, SqL.of hL, _, rfl, iteF ?_⟩
    refine ⟨_, rfl, ixk ha1 rfl ⟨y, 0, rfl, rfl, _, rfl, ?_⟩⟩
    rw [decide_eq_true y0]
    refine iteT ⟨_, rfl, ixk ha1 rfl ⟨_, rfl, ixk ha1 rfl ⟨x, y, rfl, .inl ⟨rfl, _, rfl, ?_⟩⟩⟩⟩
    rw [g1]
    refine iteT ⟨_, rfl, ixk ha1 rfl ⟨_, rfl, x, b, rfl, rfl, big_mul bx bb, _, rfl, _, rfl, ixk ha1 rfl ⟨t, y, rfl, rfl, big_mul bt by_, .inl ⟨rfl, ?_⟩⟩⟩⟩
    have c' : decide (V.int (x * b) = V.int (t * y)) = true := by simp [e1]
    rw [c']
    exact kq _ ex
theorem ok_l_made {f : Addr} {fd : FuncData} (F : DefK K mg "_law_made" st_l_made ["_law_top", "_law_base"] f fd) (Z : Zs mg) {f_fraction : Addr} {fd_fraction : FuncData} (D_fraction : DefF K mg ["top", "bottom"] f_fraction fd_fraction) (G_fraction : FnOk P w K mg base (L2.CX P w) 3 f_fraction fd_fraction ["top", "bottom"] (sp_fraction K)) (T : ZBt P K mg CZ fZ cZ kZ fdZ) (U : HErr K mg CZ CH) :
    FnOk P w K mg base CX0 4 f fd ["_law_top", "_law_base"] (sp_l_made K) := by
  refine F.fn.ok sc_l_made (fun vs H Q E h => by first | (obtain ⟨_, rfl, _⟩ := h; rfl) | (obtain ⟨_, _, rfl, _⟩ := h; rfl) | (obtain ⟨_, _, _, rfl, _⟩ := h; rfl) | (obtain ⟨_, _, _, _, rfl, _⟩ := h; rfl) | (obtain ⟨_, _, _, _, _, rfl, _⟩ := h; rfl) | (obtain ⟨_, _, _, _, _, _, rfl, _⟩ := h; rfl) | (obtain ⟨_, _, _, _, _, _, _, rfl, _⟩ := h; rfl) | (obtain ⟨_, _, _, _, _, _, _, _, rfl, _⟩ := h; rfl) | (obtain ⟨_, _, _, _, _, _, _, _, _, rfl, _⟩ := h; rfl) | (obtain ⟨_, _, _, _, _, _, _, _, _, _, rfl, _⟩ := h; rfl) | (obtain ⟨_, _, _, _, _, _, _, _, _, _, _, rfl, _⟩ := h; rfl) | (obtain ⟨_, _, _, _, _, _, _, _, _, _, _, _, rfl, _⟩ := h; rfl) | (obtain ⟨_, _, _, _, _, _, _, _, _, _, _, _, _, rfl, _⟩ := h; rfl)) (fun cdv A outer s H vs Q E hr h => ?_)
  obtain ⟨t, b, rfl, bt, bb, kz, kq⟩ := h
  refine ⟨_, (pss_cons (ps_set (i := 2) sc_l_made.nd rfl (.inl rfl) pe_non)
      (pss_cons (ps_try_as (i := 3) (Wout := fun _ _ _ _ => False) rfl rfl sc_l_made.nd rfl rfl ⟨rfl, by decide, Or.inl T.mgC⟩ takes0 (fun W pn xe tk _ => pss_one (ps_set (i := 2) sc_l_made.nd rfl (Or.inl rfl) (by exact (pe_callS G_fraction (hr.mono (by decide)) rfl D_fraction.mg D_fraction.fn.kp D_fraction.bd (fun σ => passAt tk σ) (by exact (pa_cons (pv 0) (pa_cons (pv 1) pa_nil))))))) (fun a oe cls d pn hz hf => pss_one (ps_set (i := 2) sc_l_made.nd rfl (Or.inl rfl) (by exact (pe_ix (kIx (K := K)) (pe_lst (pa_cons (pe_tup pa_nil) (pa_cons pe_non pa_nil))) (pe_callTy call_int1 (by rfl) Z.int_ PyProof.Rows.Boot.«int» (pa_cons (pe_and (pe_callB (call_isE1 (K := K) U.exc hz hf) (by rfl) Z.isinstance_ PyProof.Rows.Boot.«isinstance» (pa_cons (pv 3) (pa_cons (pe_glob (v := .ref CH) rfl U.mgH rfl) pa_nil))) (pe_one (pe_callB (call_isE1 (K := K) U.exc hz hf) (by rfl) Z.isinstance_ PyProof.Rows.Boot.«isinstance» (pa_cons (pv 3) (pa_cons (pe_bltn (v := .ty "ValueError") (by rfl) Z.ValueError_ PyProof.Rows.Boot.«ValueError» rfl) pa_nil))))) pa_nil)) (fun _ _ => rfl))))))
      (pss_one (ps_ret (pv 2))))), ?_⟩
  refine ⟨_, rfl, _, rfl, t, b, rfl, bt, bb, fun hb C hC => ?_, fun hb p hp => ?_⟩
  · have e : C = CZ := by
      rw [T.nsC] at hC
      cases hC
      rfl
    subst e
    refine ⟨true, U.te, fun _ a0 ha0 => ?_, fun q => Bool.noConfusion q⟩
    refine ⟨Nat.zero_le _, fun t0 ht0 => ⟨by show 2 ≤ sizeLine; decide, fun l0 hl0 => ?_⟩⟩
    refine ⟨_, rfl, rfl, rfl, .ref CH, .ref CH, true, rfl, fun u hu => hu, U.isH, _, rfl, iteT ⟨_, rfl, rfl, rfl, .ty "ValueError", .type "ValueError", true, rfl, fun u hu => hu, U.isV, .inr ⟨true, rfl, ?_⟩⟩⟩
    refine ixk (SqK.lst upd_same) (v := .non) rfl ⟨_, rfl, ?_⟩
    exact kz hb _ ((Ex.new ht0).trans (Ex.new hl0))
  · exact ⟨_, rfl, kq hb _ p (Ex.new hp) hp upd_same⟩
end
end K1

set_option maxHeartbeats 4000000
set_option exponentiation.threshold 10000
namespace K1
open PySem PySem.Spec PyProof.Rows L2 Hg
def sp_l_draw (_ : PySem.W.Frag) : Sp := spDraw
theorem eqv_nil (ns : List Int) : (!PyData.eqv (.list (ns.map PyData.int)) (.list [])) = !decide (ns = []) := by
  rw [show ([] : List PyData) = ([] : List Int).map PyData.int from rfl, eqv_l]
theorem seq0 (n : Nat) : seqIndex? 0 (n + 1) = some 0 := by
  unfold seqIndex?
  simp
section
variable {P : Program} {w : World} {K : PySem.W.Frag} {mg : Str → Option Value} {base : Heap}
theorem ok_l_draw {f : Addr} {fd : FuncData} (F : DefK K mg "_law_draw" st_l_draw ["_law_stream", "_law_count"] f fd) (Z : Zs mg)  :
    FnOk P w K mg base CX0 1 f fd ["_law_stream", "_law_count"] (sp_l_draw K) := by
  refine F.fn.ok sc_l_draw (fun vs H Q E h => by first | (obtain ⟨_, rfl, _⟩ := h; rfl) | (obtain ⟨_, _, rfl, _⟩ := h; rfl) | (obtain ⟨_, _, _, rfl, _⟩ := h; rfl) | (obtain ⟨_, _, _, _, rfl, _⟩ := h; rfl) | (obtain ⟨_, _, _, _, _, rfl, _⟩ := h; rfl) | (obtain ⟨_, _, _, _, _, _, rfl, _⟩ := h; rfl) | (obtain ⟨_, _, _, _, _, _, _, rfl, _⟩ := h; rfl) | (obtain ⟨_, _, _, _, _, _, _, _, rfl, _⟩ := h; rfl) | (obtain ⟨_, _, _, _, _, _, _, _, _, rfl, _⟩ := h; rfl) | (obtain ⟨_, _, _, _, _, _, _, _, _, _, rfl, _⟩ := h; rfl) | (obtain ⟨_, _, _, _, _, _, _, _, _, _, _, rfl, _⟩ := h; rfl) | (obtain ⟨_, _, _, _, _, _, _, _, _, _, _, _, rfl, _⟩ := h; rfl) | (obtain ⟨_, _, _, _, _, _, _, _, _, _, _, _, _, rfl, _⟩ := h; rfl)) (fun cdv A outer s H vs Q E hr h => ?_)
  obtain ⟨s0, q, B, G, m, rfl, O, hB, hm0, hm1, kq⟩ := h
  obtain ⟨ne, n, c, k, ns, e1, e2, n0, c0, c1, k0, k1⟩ := O.str
  refine ⟨_, (pss_cons (ps_asg (pe_op (kAdd (K := K)) (pe_ix (kIx (K := K)) (pv 0) pe_int (fun _ _ => rfl)) pe_int) (pg_sub (pv 0) pe_int set_list))
      (pss_cons (ps_if (PW.pt (pw_and (pt_cmpR (kEq (K := K) hr.units) (pe_ix (kIx (K := K)) (pv 0) pe_int (fun _ _ => rfl)) pe_int (nomark _)) (pw_and1 (pt_cmpR (kNe (K := K) hr.units) (pe_ix (kIx (K := K)) (pv 0) pe_int (fun _ _ => rfl)) (pe_lst pa_nil) (nomark _))))) (pss_cons (ps_asg (pe_bm PySem.F.plainAttrs_list PySem.F.slot_list_pop PySem.F.type_list_pop mt_popAt (pe_ix (kIx (K := K)) (pv 0) pe_int (fun _ _ => rfl)) (pa_cons pe_int pa_nil)) (pg_sub (pv 0) pe_int set_list))
      (pss_one (ps_if (pt_cmpR op_lt (pe_ix (kIx (K := K)) (pv 0) pe_int (fun _ _ => rfl)) (pe_op op_pow pe_int pe_int) (nomark _)) (pss_cons (ps_asg (pe_op oMod (pe_op (kAdd (K := K)) (pe_op oMul (pe_ix (kIx (K := K)) (pv 0) pe_int (fun _ _ => rfl)) pe_int) (pe_ix (kIx (K := K)) (pv 0) pe_int (fun _ _ => rfl))) pe_int) (pg_sub (pv 0) pe_int set_list))
      (pss_one (ps_asg pe_int (pg_sub (pv 0) pe_int set_list)))) pss_nil))) pss_nil)
      (pss_cons (ps_if (pt_cmpR op_gt (pe_ix (kIx (K := K)) (pv 0) pe_int (fun _ _ => rfl)) pe_int (nomark _)) (pss_cons (ps_set (i := 2) sc_l_draw.nd rfl (.inl rfl) (pe_op oMod (pe_ix (kIx (K := K)) (pv 0) pe_int (fun _ _ => rfl)) (pv 1)))
      (pss_cons (ps_asg (pe_op oDiv (pe_ix (kIx (K := K)) (pv 0) pe_int (fun _ _ => rfl)) (pv 1)) (pg_sub (pv 0) pe_int set_list))
      (pss_one (ps_ret (pv 2))))) pss_nil)
      (pss_cons (ps_set (i := 2) sc_l_draw.nd rfl (.inl rfl) (pe_op oMod (pe_op op_pow (pe_op (kAdd (K := K)) (pe_op (kAdd (K := K)) (pe_ix (kIx (K := K)) (pv 0) pe_int (fun _ _ => rfl)) (pe_op oMul pe_int (pe_ix (kIx (K := K)) (pv 0) pe_int (fun _ _ => rfl)))) pe_int) pe_int) pe_int))
      (pss_one (ps_ret (pe_op oMod (pe_op oMod (pe_op oMul (pe_op (kAdd (K := K)) (pv 2) (pe_ix (kIx (K := K)) (pv 0) pe_int (fun _ _ => rfl))) pe_int) pe_int) (pv 1)))))))), ?_⟩
  -- stream[2] = stream[2] + 1
  refine ⟨_, rfl, ixl e1 rfl (.inl ⟨c, 1, rfl, rfl, _, rfl, s0, _, 2, 2, rfl, rfl, e1, rfl, ?_⟩)⟩
  have O1 : Ov s0 q (B + 1) G (upd H s0 (.lst [.ref q, .int n, .int (c + 1), .int k])) := O.setS e2 n0 (by omega) (by omega) k0 k1
  dsimp only
  refine cut (fun σ' H' => σ' = [some (.ref s0), some (.int m), none] ∧ Ov s0 q (B + 1) G H') ?_ ?_
  · -- what is left of the def
    rintro σ' H' ⟨rfl, O'⟩
    obtain ⟨_, n', c', k', ns', f1, f2, n0', c0', c1', k0', k1'⟩ := O'.str
    refine ⟨_, rfl, ixl f1 rfl ⟨n', 0, rfl, rfl, _, rfl, ?_⟩⟩
    by_cases hn : 0 < n'
    · rw [decide_eq_true hn]
      refine iteT ⟨_, rfl, ixl f1 rfl ⟨_, rfl, n', m, rfl, rfl, (by omega), ?_⟩⟩
      refine ⟨_, rfl, ixl f1 rfl ⟨_, rfl, n', m, rfl, rfl, ⟨by omega, ?_⟩, _, rfl, s0, _, 1, 1, rfl, rfl, f1, rfl, _, rfl, ?_⟩⟩
      · exact Nat.lt_of_lt_of_le (PySem.Flt.log2_lt_of (k := 8000) (by decide) hm1) (by decide)
      · have fm : n'.fmod m = n' % m := Int.fmod_eq_emod_of_nonneg n' (by omega)
        have fd : n'.fdiv m = n' / m := Int.fdiv_eq_ediv_of_nonneg n' (by omega)
        show Q (.int (n'.fmod m)) (upd H' s0 (.lst [.ref q, .int (n'.fdiv m), .int c', .int k']))
        rw [fm, fd]
        refine kq _ _ (Int.emod_nonneg _ (by omega)) (Int.emod_lt_of_pos _ hm0) ?_
        exact O'.setS f2 (Int.ediv_nonneg n0' (by omega)) c0' c1' k0' k1'
    · rw [decide_eq_false hn]
      refine iteF ⟨_, rfl, ixl f1 rfl ⟨_, rfl, ixl f1 rfl ⟨7919, c', rfl, rfl, ?_, .inl ⟨k', 7919 * c', rfl, rfl, .inl ⟨_, 104729, rfl, rfl, _, 5, rfl, rfl, ⟨by decide, by decide, ?_⟩, _, 2147483647, rfl, rfl, (show (2147483647 : Int) ≠ 0 by decide), ?_⟩⟩⟩⟩⟩
      · exact wide_mul (a := 20) (b := 40) (by decide) (by omega) (by decide) (by decide) (by decide)
      · omega
      · generalize hX : (k' + 7919 * c' + 104729) ^ (5 : Int).toNat = X
        have hx0 : 0 ≤ X.fmod 2147483647 ∧ X.fmod 2147483647 < 2147483647 := by
          rw [Int.fmod_eq_emod_of_nonneg X (by decide)]
          exact ⟨Int.emod_nonneg _ (by decide), Int.emod_lt_of_pos _ (by decide)⟩
        have hmu : CMulW (X.fmod 2147483647 + c') 48271 := by
          generalize X.fmod 2147483647 = Y at hx0
          exact wide_mul (a := 40) (b := 20) (by omega) (by decide) (by decide) (by decide) (by decide)
        refine ⟨_, rfl, _, rfl, ixl f1 rfl (.inl ⟨_, c', rfl, rfl, _, 48271, rfl, rfl, hmu, _, 2147483629, rfl, rfl, (show (2147483629 : Int) ≠ 0 by decide), _, rfl, _, m, rfl, rfl, (show m ≠ 0 by omega), ?_⟩)⟩
        show Q (.int ((((X.fmod 2147483647 + c') * 48271).fmod 2147483629).fmod m)) _
        generalize ((X.fmod 2147483647 + c') * 48271).fmod 2147483629 = W
        have fm : W.fmod m = W % m := Int.fmod_eq_emod_of_nonneg W (by omega)
        rw [fm]
        exact kq _ _ (Int.emod_nonneg _ (by omega)) (Int.emod_lt_of_pos _ hm0) O'
  · intro N hN
    have done : ∀ H', Ov s0 q (B + 1) G H' → N [some (.ref s0), some (.int m), none] H' := fun H' o => hN _ _ ⟨rfl, o⟩
    obtain ⟨ne1, n1, c2, k2, ns1, f1, f2, g0, g1, g2, g3, g4⟩ := O1.str
    refine ⟨_, rfl, ixl f1 rfl (.inl ⟨rfl, _, rfl, ?_⟩)⟩
    by_cases hn : n1 = 0
    · have d1 : decide (V.int n1 = V.int 0) = true := by simp [hn]
      rw [d1]
      refine iteT ⟨_, rfl, ixl f1 rfl ⟨Nat.zero_le _, fun l hl => ?_⟩⟩
      have nl : q ≠ l := ne_of_none f2 hl
      have nsl : s0 ≠ l := ne_of_none f1 hl
      have O2 := O1.drop (o := .lst []) hl
      refine .inr ⟨_, _, dp_l (SqL.of ((upd_ne nl).trans f2)), .lst (SqL.of upd_same) .nil, shaped_l _, shaped_l [], _, rfl, ?_⟩
      rw [eqv_nil]
      cases ns1 with
      | nil => exact iteF (done _ O2)
      | cons z zs =>
        refine iteT ?_
        have f1' : upd (upd H s0 (.lst [.ref q, .int n, .int (c + 1), .int k])) l (.lst []) s0 = some (.lst [.ref q, .int n1, .int c2, .int k2]) := (upd_ne nsl).trans f1
        have f2' : upd (upd H s0 (.lst [.ref q, .int n, .int (c + 1), .int k])) l (.lst []) q = some (.lst ((z :: zs).map V.int)) := (upd_ne nl).trans f2
        -- stream[1] = stream[0].pop(0)
        refine ⟨_, rfl, ixl f1' rfl ⟨.inl ⟨rfl, _, SqL.of f2'⟩, q, _, 0, 0, .int z, rfl, rfl, f2', by decide, by decide, (by show seqIndex? 0 ((zs.map V.int).length + 1) = some 0; exact seq0 _), rfl, ?_⟩⟩
        have O3 := O2.setQ zs
        have g1' := (upd_ne (H := upd (upd H s0 (.lst [.ref q, .int n, .int (c + 1), .int k])) l (.lst [])) (o := .lst (zs.map V.int)) ne).trans f1'
        have g2' : upd (upd (upd H s0 (.lst [.ref q, .int n, .int (c + 1), .int k])) l (.lst [])) q (.lst (zs.map V.int)) q = some (.lst (zs.map V.int)) := upd_same
        refine ⟨_, rfl, s0, _, 1, 1, rfl, rfl, g1', rfl, ?_⟩
        have h1' := upd_same (H := upd (upd (upd H s0 (.lst [.ref q, .int n, .int (c + 1), .int k])) l (.lst [])) q (.lst (zs.map V.int))) (a := s0) (o := .lst [.ref q, .int z, .int c2, .int k2])
        refine ⟨_, rfl, ixl h1' rfl ⟨10, 18, rfl, rfl, ⟨by decide, by decide, by decide⟩, z, _, rfl, rfl, _, rfl, ?_⟩⟩
        have p18 : (10 : Int) ^ (18 : Int).toNat = 1000000000000000000 := by decide
        rw [p18]
        by_cases hz : z < 1000000000000000000
        · rw [decide_eq_true hz]
          refine iteT ⟨_, rfl, ixl h1' rfl ⟨k2, 39373, rfl, rfl, ?_, _, rfl, ixl h1' rfl (.inl ⟨k2 * 39373, z, rfl, rfl, k2 * 39373 + z, 2147483647, rfl, rfl, (show (2147483647 : Int) ≠ 0 by decide), _, rfl, s0, _, 3, 3, rfl, rfl, h1', rfl, ?_⟩)⟩⟩
          · exact wide_mul (a := 40) (b := 20) (by omega) (by decide) (by decide) (by decide) (by decide)
          · refine ⟨_, rfl, s0, _, 1, 1, rfl, rfl, upd_same, rfl, ?_⟩
            have b0 : 0 ≤ (k2 * 39373 + z).fmod 2147483647 ∧ (k2 * 39373 + z).fmod 2147483647 < 2147483647 := by
              rw [Int.fmod_eq_emod_of_nonneg _ (by decide)]
              exact ⟨Int.emod_nonneg _ (by decide), Int.emod_lt_of_pos _ (by decide)⟩
            refine done _ ?_
            rw [upd_upd, upd_upd]
            exact O3.setS g2' (Int.le_refl 0) g1 g2 b0.1 b0.2
        · rw [decide_eq_false hz]
          refine iteF (done _ ?_)
          exact O3.setS g2' (by omega) g1 g2 g3 g4
    · have d1 : decide (V.int n1 = V.int 0) = false := by simp [hn]
      rw [d1]
      exact iteF (done _ O1)
end
end K1

set_option maxHeartbeats 4000000
namespace K1
open PySem PySem.Spec PyProof.Rows L2 Hg
abbrev num (r : Int) : Prop := r.natAbs ≤ 10 ^ 30
/-- number(stream) -/
def sp_l_number (K : PySem.W.Frag) : Sp := fun vs H Q _ => ∃ (s q : Addr) (B : Nat) (G : Hp), vs = [.ref s] ∧ Ov s q B G H ∧ B < 900000 ∧ ∀ (r : Int) (H' : Hp), num r → Ov s q (B + 4) G H' → Q (.int r) H'
/-- any object of the law's menu -/
def AnyOk (G : Hp) (v : V) : Prop := (∃ n, Kd G v n ∧ n ≠ "tuple") ∨ ∃ (a : Addr) (xs : List V), v = .ref a ∧ G a = some (.tup xs) ∧ xs.length ≤ 1000 ∧ ∀ x ∈ xs, ∃ n, Kd G x n
def sp_l_any (K : PySem.W.Frag) : Sp := fun vs H Q _ => ∃ (s q : Addr) (B : Nat) (G : Hp), vs = [.ref s] ∧ Ov s q B G H ∧ B < 900000 ∧ ∀ (v : V) (G' H' : Hp), Ex G G' → AnyOk G' v → Ov s q (B + 1) G' H' → Q v H'
theorem menu {vs : List V} {r : Int} (h0 : 0 ≤ r) {n : Nat} (h1 : r < n) (hn : vs.length = n) : ∃ v, atI vs r = some v ∧ v ∈ vs := at_lt h0 (by omega)
section
variable {P : Program} {w : World} {K : PySem.W.Frag} {mg : Str → Option Value} {base : Heap}
theorem ok_l_number {f : Addr} {fd : FuncData} (F : DefK K mg "_law_number" st_l_number ["_law_stream"] f fd) (Z : Zs mg) {f_l_draw : Addr} {fd_l_draw : FuncData} (D_l_draw : DefK K mg "_law_draw" st_l_draw ["_law_stream", "_law_count"] f_l_draw fd_l_draw) (G_l_draw : FnOk P w K mg base CX0 1 f_l_draw fd_l_draw ["_law_stream", "_law_count"] (sp_l_draw K)) :
    FnOk P w K mg base CX0 2 f fd ["_law_stream"] (sp_l_number K) := by
  refine F.fn.ok sc_l_number (fun vs H Q E h => by first | (obtain ⟨_, rfl, _⟩ := h; rfl) | (obtain ⟨_, _, rfl, _⟩ := h; rfl) | (obtain ⟨_, _, _, rfl, _⟩ := h; rfl) | (obtain ⟨_, _, _, _, rfl, _⟩ := h; rfl) | (obtain ⟨_, _, _, _, _, rfl, _⟩ := h; rfl) | (obtain ⟨_, _, _, _, _, _, rfl, _⟩ := h; rfl) | (obtain ⟨_, _, _, _, _, _, _, rfl, _⟩ := h; rfl) | (obtain ⟨_, _, _, _, _, _, _, _, rfl, _⟩ := h; rfl) | (obtain ⟨_, _, _, _, _, _, _, _, _, rfl, _⟩ := h; rfl) | (obtain ⟨_, _, _, _, _, _, _, _, _, _, rfl, _⟩ := h; rfl) | (obtain ⟨_, _, _, _, _, _, _, _, _, _, _, rfl, _⟩ := h; rfl) | (obtain ⟨_, _, _, _, _, _, _, _, _, _, _, _, rfl, _⟩ := h; rfl) | (obtain ⟨_, _, _, _, _, _, _, _, _, _, _, _, _, rfl, _⟩ := h; rfl)) (fun cdv A outer s H vs Q E hr h => ?_)
  obtain ⟨s0, q, B, G, rfl, O, hB, kq⟩ := h
  refine ⟨_, (pss_cons (ps_set (i := 1) sc_l_number.nd rfl (.inl rfl) (pe_ix (kIx (K := K)) (pe_lst (pa_cons pe_int (pa_cons pe_int (pa_cons (pe_op op_pow pe_int pe_int) (pa_cons (pe_op op_pow pe_int pe_int) pa_nil))))) (pe_call G_l_draw (hr.mono (by decide)) rfl D_l_draw.mg D_l_draw.fn.kp D_l_draw.bd .nil pass0 (pa_cons (pv 0) (pa_cons pe_int pa_nil))) (fun _ _ => rfl)))
      (pss_one (ps_ret (pe_ix (kIx (K := K)) (pe_lst (pa_cons pe_int (pa_cons (pe_call G_l_draw (hr.mono (by decide)) rfl D_l_draw.mg D_l_draw.fn.kp D_l_draw.bd .nil pass0 (pa_cons (pv 0) (pa_cons (pv 1) pa_nil))) (pa_cons (pe_op op_sub pe_int (pe_call G_l_draw (hr.mono (by decide)) rfl D_l_draw.mg D_l_draw.fn.kp D_l_draw.bd .nil pass0 (pa_cons (pv 0) (pa_cons (pv 1) pa_nil)))) pa_nil)))) (pe_call G_l_draw (hr.mono (by decide)) rfl D_l_draw.mg D_l_draw.fn.kp D_l_draw.bd .nil pass0 (pa_cons (pv 0) (pa_cons pe_int pa_nil))) (fun _ _ => rfl))))), ?_⟩
  refine ⟨10, 6, rfl, rfl, ⟨by decide, by decide, by decide⟩, 10, 30, rfl, rfl, ⟨by decide, by decide, by decide⟩, by show 4 ≤ sizeLine; decide, fun l hl => ?_⟩
  refine ⟨_, rfl, s0, q, B, _, 4, rfl, O.new hl, by omega, by decide, by decide, fun r H1 r0 r1 O1 => ?_⟩
  have hL1 := O1.sub l _ upd_same
  obtain ⟨v, hv, hm⟩ := menu (n := 4) r0 r1 (vs := [.int 4, .int 100, .int (10 ^ (6 : Int).toNat), .int (10 ^ (30 : Int).toNat)]) rfl
  have hreach : ∃ m : Int, v = .int m ∧ 0 < m ∧ m ≤ 10 ^ 30 := by
    simp only [List.mem_cons, List.not_mem_nil, or_false] at hm
    rcases hm with h | h | h | h <;> exact ⟨_, h, by decide, by decide⟩
  obtain ⟨m, rfl, m0, m1⟩ := hreach
  have mb : m.natAbs < 2 ^ 8000 := Nat.lt_of_lt_of_le (show m.natAbs < 10 ^ 31 by omega) (by decide)
  have O1' := O1.weak (Ex.new (O.sub.free hl))
  refine ixl hL1 hv ?_
  refine ⟨_, rfl, _, rfl, s0, q, B + 1, G, m, rfl, O1', by omega, m0, mb, fun a H2 a0 a1 O2 => ?_⟩
  refine ⟨_, rfl, _, rfl, s0, q, B + 1 + 1, G, m, rfl, O2, by omega, m0, mb, fun b H3 b0 b1 O3 => ⟨0, b, rfl, rfl, by show 3 ≤ sizeLine; decide, fun l2 hl2 => ?_⟩⟩
  refine ⟨_, rfl, s0, q, B + 1 + 1 + 1, _, 3, rfl, O3.new hl2, by omega, by decide, by decide, fun c H4 c0 c1 O4 => ?_⟩
  obtain ⟨v, hv, hm⟩ := menu (n := 3) c0 c1 (vs := [.int 0, .int a, .int (0 - b)]) rfl
  have hr : ∃ z : Int, v = .int z ∧ num z := by
    simp only [List.mem_cons, List.not_mem_nil, or_false] at hm
    rcases hm with h | h | h
    · exact ⟨_, h, by decide⟩
    · exact ⟨_, h, by show a.natAbs ≤ _; omega⟩
    · exact ⟨_, h, by show (0 - b).natAbs ≤ _; omega⟩
  obtain ⟨z, rfl, hz⟩ := hr
  exact ixl (O4.sub l2 _ upd_same) hv (kq z H4 hz (O4.weak (Ex.new (O3.sub.free hl2))))
theorem ok_l_any {f : Addr} {fd : FuncData} (F : DefK K mg "_law_any" st_l_any ["_law_stream"] f fd) (Z : Zs mg) {f_l_draw : Addr} {fd_l_draw : FuncData} (D_l_draw : DefK K mg "_law_draw" st_l_draw ["_law_stream", "_law_count"] f_l_draw fd_l_draw) (G_l_draw : FnOk P w K mg base CX0 1 f_l_draw fd_l_draw ["_law_stream", "_law_count"] (sp_l_draw K)) :
    FnOk P w K mg base CX0 2 f fd ["_law_stream"] (sp_l_any K) := by
  refine F.fn.ok sc_l_any (fun vs H Q E h => by first | (obtain ⟨_, rfl, _⟩ := h; rfl) | (obtain ⟨_, _, rfl, _⟩ := h; rfl) | (obtain ⟨_, _, _, rfl, _⟩ := h; rfl) | (obtain ⟨_, _, _, _, rfl, _⟩ := h; rfl) | (obtain ⟨_, _, _, _, _, rfl, _⟩ := h; rfl) | (obtain ⟨_, _, _, _, _, _, rfl, _⟩ := h; rfl) | (obtain ⟨_, _, _, _, _, _, _, rfl, _⟩ := h; rfl) | (obtain ⟨_, _, _, _, _, _, _, _, rfl, _⟩ := h; rfl) | (obtain ⟨_, _, _, _, _, _, _, _, _, rfl, _⟩ := h; rfl) | (obtain ⟨_, _, _, _, _, _, _, _, _, _, rfl, _⟩ := h; rfl) | (obtain ⟨_, _, _, _, _, _, _, _, _, _, _, rfl, _⟩ := h; rfl) | (obtain ⟨_, _, _, _, _, _, _, _, _, _, _, _, rfl, _⟩ := h; rfl) | (obtain ⟨_, _, _, _, _, _, _, _, _, _, _, _, _, rfl, _⟩ := h; rfl)) (fun cdv A outer s H vs Q E hr h => ?_)
  obtain ⟨s0, q, B, G, rfl, O, hB, kq⟩ := h
  refine ⟨_, (pss_cons (ps_set (i := 1) sc_l_any.nd rfl (.inl rfl) (pe_lst (pa_cons pe_non (pa_cons pe_bl (pa_cons pe_bl (pa_cons pe_int (pa_cons pe_int (pa_cons (pe_un un_neg pe_int) (pa_cons pe_int (pa_cons (pe_op op_pow pe_int pe_int) (pa_cons pe_str (pa_cons pe_str (pa_cons (pe_tup pa_nil) (pa_cons (pe_lst pa_nil) (pa_cons (pe_tup (pa_cons pe_int pa_nil)) (pa_cons (pe_lst (pa_cons pe_int pa_nil)) (pa_cons (pe_tup (pa_cons pe_bl pa_nil)) (pa_cons (pe_tup (pa_cons pe_str pa_nil)) (pa_cons (pe_tup (pa_cons (pe_tup (pa_cons pe_int pa_nil)) pa_nil)) (pa_cons pe_str pa_nil))))))))))))))))))))
      (pss_one (ps_ret (pe_ix (kIx (K := K)) (pv 1) (pe_call G_l_draw (hr.mono (by decide)) rfl D_l_draw.mg D_l_draw.fn.kp D_l_draw.bd .nil pass0 (pa_cons (pv 0) (pa_cons pe_int pa_nil))) (fun _ _ => rfl))))), ?_⟩
  refine ⟨1, rfl, 10, 30, rfl, rfl, ⟨by decide, by decide, by decide⟩, ?_⟩
  refine ⟨Nat.zero_le _, fun p1 h1 => ⟨Nat.zero_le _, fun p2 h2 => ⟨by show 1 ≤ sizeLine; decide, fun p3 h3 => ⟨by show 1 ≤ sizeLine; decide, fun p4 h4 => ⟨by show 1 ≤ sizeLine; decide, fun p5 h5 => ⟨by show 1 ≤ sizeLine; decide, fun p6 h6 => ⟨by show 1 ≤ sizeLine; decide, fun p7 h7 => ⟨by show 1 ≤ sizeLine; decide, fun p8 h8 => ⟨by show 18 ≤ sizeLine; decide, fun l hl => ?_⟩⟩⟩⟩⟩⟩⟩⟩⟩
  have O1 := O.new (o := .tup []) h1
  have O2 := O1.new (o := .lst []) h2
  have O3 := O2.new (o := .tup [.int 0]) h3
  have O4 := O3.new (o := .lst [.int 0]) h4
  have O5 := O4.new (o := .tup [.bl true]) h5
  have O6 := O5.new (o := .tup [.str "a"]) h6
  have O7 := O6.new (o := .tup [.int 1]) h7
  have O8 := O7.new (o := .tup [.ref p7]) h8
  have O9 := O8.new (o := .lst [.non, .bl true, .bl false, .int 0, .int 1, .int (-1), .int 7, .int (10 ^ (30 : Int).toNat), .str "", .str "a", .ref p1, .ref p2, .ref p3, .ref p4, .ref p5, .ref p6, .ref p8, .str "primal"]) hl
  have e8 := Ex.new (o := .lst [.non, .bl true, .bl false, .int 0, .int 1, .int (-1), .int 7, .int (10 ^ (30 : Int).toNat), .str "", .str "a", .ref p1, .ref p2, .ref p3, .ref p4, .ref p5, .ref p6, .ref p8, .str "primal"]) (O8.sub.free hl)
  have e7 := (Ex.new (o := .tup [.ref p7]) (O7.sub.free h8)).trans e8
  have e6 := (Ex.new (o := .tup [.int 1]) (O6.sub.free h7)).trans e7
  have e5 := (Ex.new (o := .tup [.str "a"]) (O5.sub.free h6)).trans e6
  have e4 := (Ex.new (o := .tup [.bl true]) (O4.sub.free h5)).trans e5
  have e3 := (Ex.new (o := .lst [.int 0]) (O3.sub.free h4)).trans e4
  have e2 := (Ex.new (o := .tup [.int 0]) (O2.sub.free h3)).trans e3
  have e1 := (Ex.new (o := .lst []) (O1.sub.free h2)).trans e2
  have e0 := (Ex.new (o := .tup []) (O.sub.free h1)).trans e1
  have f1 := e1 p1 _ upd_same
  have f2 := e2 p2 _ upd_same
  have f3 := e3 p3 _ upd_same
  have f4 := e4 p4 _ upd_same
  have f5 := e5 p5 _ upd_same
  have f6 := e6 p6 _ upd_same
  have f7 := e7 p7 _ upd_same
  have f8 := e8 p8 _ upd_same
  refine ⟨_, rfl, _, rfl, s0, q, B, _, 18, rfl, O9, by omega, by decide, by decide, fun r H1 r0 r1 OO => ?_⟩
  obtain ⟨v, hv, hm⟩ := menu (n := 18) r0 r1 (vs := [.non, .bl true, .bl false, .int 0, .int 1, .int (-1), .int 7, .int (10 ^ (30 : Int).toNat), .str "", .str "a", .ref p1, .ref p2, .ref p3, .ref p4, .ref p5, .ref p6, .ref p8, .str "primal"]) rfl
  refine ixl (OO.sub l _ upd_same) hv (kq v _ H1 e0 ?_ OO)
  simp only [List.mem_cons, List.not_mem_nil, or_false] at hm
  rcases hm with h | h | h | h | h | h | h | h | h | h | h | h | h | h | h | h | h | h <;> subst h
  · exact .inl ⟨_, .non, by decide⟩
  · exact .inl ⟨_, .bl _, by decide⟩
  · exact .inl ⟨_, .bl _, by decide⟩
  · exact .inl ⟨_, .int _, by decide⟩
  · exact .inl ⟨_, .int _, by decide⟩
  · exact .inl ⟨_, .int _, by decide⟩
  · exact .inl ⟨_, .int _, by decide⟩
  · exact .inl ⟨_, .int _, by decide⟩
  · exact .inl ⟨_, .str _, by decide⟩
  · exact .inl ⟨_, .str _, by decide⟩
  · exact .inr ⟨p1, [], rfl, f1, by decide, fun x hx => nomatch hx⟩
  · exact .inl ⟨_, .lst f2, by decide⟩
  · exact .inr ⟨p3, _, rfl, f3, by decide, fun x hx => by simp at hx; subst hx; exact ⟨_, .int _⟩⟩
  · exact .inl ⟨_, .lst f4, by decide⟩
  · exact .inr ⟨p5, _, rfl, f5, by decide, fun x hx => by simp at hx; subst hx; exact ⟨_, .bl _⟩⟩
  · exact .inr ⟨p6, _, rfl, f6, by decide, fun x hx => by simp at hx; subst hx; exact ⟨_, .str _⟩⟩
  · exact .inr ⟨p8, [.ref p7], rfl, f8, by show 1 ≤ 1000; decide, fun x hx => by simp at hx; subst hx; exact ⟨_, .tup f7⟩⟩
  · exact .inl ⟨_, .str _, by decide⟩
end
end K1

set_option maxHeartbeats 4000000
namespace K1
open PySem PySem.Spec PyProof.Rows L2 Hg
/-! ### the products of primes: every state of the law's loop -/
def primes7 : List Nat := [2, 3, 2, 5, 997, 7, 11]
def stepSt (p : Nat) (l : List (Nat × List Nat)) : List (Nat × List Nat) := l.flatMap fun x => x :: (if x.1 * p ≤ 1000000 then [(x.1 * p, x.2 ++ x.2.map (p * ·))] else [])
def St : Nat → List (Nat × List Nat)
  | 0 => [(1, [1])]
  | i + 1 => stepSt (primes7.getD i 1) (St i)
theorem st_skip {i : Nat} {x : Nat × List Nat} (h : x ∈ St i) : x ∈ St (i + 1) := by
  show x ∈ stepSt _ (St i)
  unfold stepSt
  exact List.mem_flatMap.mpr ⟨x, h, List.mem_cons_self⟩
theorem st_take {i p n : Nat} {fs : List Nat} (hp : primes7.getD i 1 = p) (h : (n, fs) ∈ St i) (hn : n * p ≤ 1000000) : (n * p, fs ++ fs.map (p * ·)) ∈ St (i + 1) := by
  show _ ∈ stepSt _ (St i)
  unfold stepSt
  rw [hp]
  refine List.mem_flatMap.mpr ⟨_, h, List.mem_cons_of_mem _ ?_⟩
  rw [if_pos hn]
  exact List.mem_singleton.mpr rfl
def rises : List Int → Bool
  | [] => true
  | [_] => true
  | a :: b :: r => decide (a < b) && rises (b :: r)
def toI (l : List Nat) : List Int := l.map fun n : Nat => (n : Int)
def check (x : Nat × List Nat) : Bool :=
  decide (1 ≤ x.1) && decide (x.1 ≤ 1000000) && decide (root x.1 ≤ 100000) && decide (x.2.length ≤ 64) && rises (divI x.1) && decide ((divI x.1).length < 64) &&
    (divI x.1).all (fun k => (toI x.2).contains k) && x.2.all fun n => (divI x.1).contains (n : Int)
theorem small_len : ∀ i, i ≤ 7 → (St i).all (fun x => decide (x.2.length ≤ 64)) = true := by decide +kernel
theorem small_num : ∀ i, i ≤ 7 → (St i).all (fun x => decide (x.1 ≤ 1000000)) = true := by decide +kernel
theorem small_fac : ∀ i, i ≤ 7 → (St i).all (fun x => x.2.all fun n => decide (n ≤ 1000000)) = true := by decide +kernel
theorem st7 : (St 7).all check = true := by decide +kernel
theorem rises_pw : ∀ l : List Int, rises l = true → l.Pairwise (· < ·)
  | [], _ => .nil
  | [a], _ => List.pairwise_singleton _ _
  | a :: b :: r, h => by
    simp only [rises, Bool.and_eq_true, decide_eq_true_eq] at h
    have ih := rises_pw (b :: r) h.2
    refine List.pairwise_cons.mpr ⟨fun x hx => ?_, ih⟩
    rcases List.mem_cons.mp hx with e | e
    · rw [e]
      exact h.1
    · exact Int.lt_trans h.1 ((List.pairwise_cons.mp ih).1 x e)
theorem pw_unique : ∀ {l m : List Int}, l.Pairwise (· < ·) → m.Pairwise (· < ·) → (∀ k, k ∈ l ↔ k ∈ m) → l = m
  | [], [], _, _, _ => rfl
  | [], b :: m, _, _, h => absurd ((h b).mpr List.mem_cons_self) (by simp)
  | a :: l, [], _, _, h => absurd ((h a).mp List.mem_cons_self) (by simp)
  | a :: l, b :: m, h1, h2, h => by
    obtain ⟨p1, q1⟩ := List.pairwise_cons.mp h1
    obtain ⟨p2, q2⟩ := List.pairwise_cons.mp h2
    have e : a = b := by
      rcases List.mem_cons.mp ((h a).mp List.mem_cons_self) with e | e
      · exact e
      · rcases List.mem_cons.mp ((h b).mpr List.mem_cons_self) with e' | e'
        · exact e'.symm
        · have x1 := p2 a e
          have x2 := p1 b e'
          omega
    subst e
    have t := pw_unique q1 q2 fun k => by
      constructor
      · intro hk
        rcases List.mem_cons.mp ((h k).mp (List.mem_cons_of_mem _ hk)) with e | e
        · have := p1 k hk
          omega
        · exact e
      · intro hk
        rcases List.mem_cons.mp ((h k).mpr (List.mem_cons_of_mem _ hk)) with e | e
        · have := p2 k hk
          omega
        · exact e
    rw [t]
/-- the law's sorted set is divisors' tuple -/
theorem divs_right {n : Nat} {fs : List Nat} (h : (n, fs) ∈ St 7) {ns : List Int} (pw : ns.Pairwise (· < ·)) (hm : ∀ k : Int, k ∈ ns ↔ k ∈ toI fs) : divI n = ns := by
  have c := List.all_eq_true.mp st7 _ h
  simp only [check, Bool.and_eq_true, decide_eq_true_eq, List.all_eq_true, List.contains_iff_mem] at c
  obtain ⟨⟨⟨⟨⟨⟨⟨c1, c2⟩, c3⟩, c4⟩, c5⟩, c6⟩, c7⟩, c8⟩ := c
  refine pw_unique (rises_pw _ c5) pw fun k => ?_
  rw [hm]
  constructor
  · exact fun hk => c7 k hk
  · intro hk
    obtain ⟨n, hn, rfl⟩ := List.mem_map.mp hk
    exact c8 n hn
theorem st_facts {n : Nat} {fs : List Nat} (h : (n, fs) ∈ St 7) : 1 ≤ n ∧ n ≤ 1000000 ∧ root n ≤ 100000 ∧ fs.length ≤ 64 ∧ (divI n).length < 64 := by
  have c := List.all_eq_true.mp st7 _ h
  simp only [check, Bool.and_eq_true, decide_eq_true_eq] at c
  obtain ⟨⟨⟨⟨⟨⟨⟨c1, c2⟩, c3⟩, c4⟩, c5⟩, c6⟩, c7⟩, c8⟩ := c
  exact ⟨c1, c2, c3, c4, c6⟩
end K1

set_option maxHeartbeats 4000000
namespace K1
open PySem PySem.Spec PyProof.Rows L2 Hg
def sp_l_divisors_right (K : PySem.W.Frag) : Sp := fun vs H Q _ => ∃ (s q : Addr) (B : Nat) (G : Hp), vs = [.ref s] ∧ Ov s q B G H ∧ B ≤ 1000 ∧ ∀ H', Ov s q (B + 60) G H' → Q (.bl true) H'
section
variable {P : Program} {w : World} {K : PySem.W.Frag} {mg : Str → Option Value} {base : Heap}
theorem ok_l_divisors_right {f : Addr} {fd : FuncData} (F : DefK K mg "_law_divisors_right" st_l_divisors_right ["_law_stream"] f fd) (Z : Zs mg) {f_gcd_of : Addr} {fd_gcd_of : FuncData} (D_gcd_of : DefK K mg "gcd_of" st_gcd_of ["numbers"] f_gcd_of fd_gcd_of) (G_gcd_of : FnOk P w K mg base CX0 1 f_gcd_of fd_gcd_of ["numbers"] (sp_gcd_of K)) {f_divisors : Addr} {fd_divisors : FuncData} (D_divisors : DefK K mg "divisors" st_divisors ["number"] f_divisors fd_divisors) (G_divisors : FnOk P w K mg base CX0 1 f_divisors fd_divisors ["number"] (sp_divisors K)) {f_l_draw : Addr} {fd_l_draw : FuncData} (D_l_draw : DefK K mg "_law_draw" st_l_draw ["_law_stream", "_law_count"] f_l_draw fd_l_draw) (G_l_draw : FnOk P w K mg base CX0 1 f_l_draw fd_l_draw ["_law_stream", "_law_count"] (sp_l_draw K)) {f_l_integer : Addr} {fd_l_integer : FuncData} (D_l_integer : DefK K mg "_law_integer" st_l_integer ["_law_thing"] f_l_integer fd_l_integer) (G_l_integer : FnOk P w K mg base CX0 1 f_l_integer fd_l_integer ["_law_thing"] (sp_l_integer K)) {f_l_common : Addr} {fd_l_common : FuncData} (D_l_common : DefK K mg "_law_common" st_l_common ["_law_one", "_law_other"] f_l_common fd_l_common) (G_l_common : FnOk P w K mg base CX0 1 f_l_common fd_l_common ["_law_one", "_law_other"] (sp_l_common K)) {f_l_number : Addr} {fd_l_number : FuncData} (D_l_number : DefK K mg "_law_number" st_l_number ["_law_stream"] f_l_number fd_l_number) (G_l_number : FnOk P w K mg base CX0 2 f_l_number fd_l_number ["_law_stream"] (sp_l_number K)) :
    FnOk P w K mg base CX0 3 f fd ["_law_stream"] (sp_l_divisors_right K) := by
  refine F.fn.ok sc_l_divisors_right (fun vs H Q E h => by first | (obtain ⟨_, rfl, _⟩ := h; rfl) | (obtain ⟨_, _, rfl, _⟩ := h; rfl) | (obtain ⟨_, _, _, rfl, _⟩ := h; rfl) | (obtain ⟨_, _, _, _, rfl, _⟩ := h; rfl) | (obtain ⟨_, _, _, _, _, rfl, _⟩ := h; rfl) | (obtain ⟨_, _, _, _, _, _, rfl, _⟩ := h; rfl) | (obtain ⟨_, _, _, _, _, _, _, rfl, _⟩ := h; rfl) | (obtain ⟨_, _, _, _, _, _, _, _, rfl, _⟩ := h; rfl) | (obtain ⟨_, _, _, _, _, _, _, _, _, rfl, _⟩ := h; rfl) | (obtain ⟨_, _, _, _, _, _, _, _, _, _, rfl, _⟩ := h; rfl) | (obtain ⟨_, _, _, _, _, _, _, _, _, _, _, rfl, _⟩ := h; rfl) | (obtain ⟨_, _, _, _, _, _, _, _, _, _, _, _, rfl, _⟩ := h; rfl) | (obtain ⟨_, _, _, _, _, _, _, _, _, _, _, _, _, rfl, _⟩ := h; rfl)) (fun cdv A outer s H vs Q E hr h => ?_)
  obtain ⟨s0, q, B, G, rfl, O, hB, kq⟩ := h
  refine ⟨_, (pss_cons (ps_set (i := 1) sc_l_divisors_right.nd rfl (.inr rfl) (pe_ix (kIx (K := K)) (pe_lst (pa_cons pe_int (pa_cons (pe_op (kAdd (K := K)) pe_int (pe_call G_l_draw (hr.mono (by decide)) rfl D_l_draw.mg D_l_draw.fn.kp D_l_draw.bd .nil pass0 (pa_cons (pv 0) (pa_cons (pe_op op_pow pe_int pe_int) pa_nil)))) pa_nil))) (pe_call G_l_draw (hr.mono (by decide)) rfl D_l_draw.mg D_l_draw.fn.kp D_l_draw.bd .nil pass0 (pa_cons (pv 0) (pa_cons pe_int pa_nil))) (fun _ _ => rfl)))
      (pss_cons (ps_setLc (i := 2) (own := [("_law_k", 9)]) rfl sc_l_divisors_right.nd rfl rfl (sw_true rfl rfl rfl (by decide +kernel)) (pi_range1 (by rfl) Z.range_ (pa_cons (pe_call G_l_draw (hr.mono (by decide)) rfl D_l_draw.mg D_l_draw.fn.kp D_l_draw.bd .nil pass0 (pa_cons (pv 0) (pa_cons pe_int pa_nil))) pa_nil)) (blkOk_by (N := ["_law_stream", "_law_factor", "_law_numbers", "_law_due", "_law_number_here", "_law_some", "_law_found", "_law_factors", "_law_prime", "_law_k", "_law_one"]) (sc := defScope st_l_divisors_right) (by decide +kernel)) (fun _ _ _ _ _ => (pg_name (i := 9) sc_l_divisors_right.nd rfl (.inl rfl))) (fun _ _ _ _ _ => pts_nil) (fun _ _ _ _ _ => (pe_op oMul (pv 1) (pe_call G_l_number (hr.mono (by decide)) rfl D_l_number.mg D_l_number.fn.kp D_l_number.bd .nil pass0 (pa_cons (pv 0) pa_nil)))))
      (pss_cons (ps_set (i := 3) sc_l_divisors_right.nd rfl (.inl rfl) pe_int)
      (pss_cons (ps_for PassesOwn.never rfl (kSeq (K := K) (pv 2)) (pg_name (i := 4) sc_l_divisors_right.nd rfl (.inl rfl)) (pss_one (ps_set (i := 3) sc_l_divisors_right.nd rfl (.inl rfl) (pe_call G_l_common (hr.mono (by decide)) rfl D_l_common.mg D_l_common.fn.kp D_l_common.bd .nil pass0 (pa_cons (pv 3) (pa_cons (pv 4) pa_nil))))))
      (pss_cons (ps_for PassesOwn.never rfl (kSeq (K := K) (pe_tup (pa_cons (pv 2) (pa_cons (pe_callTy (kTup (K := K)) (by rfl) Z.tuple_ PyProof.Rows.Boot.«tuple» (pa_cons (pv 2) pa_nil)) pa_nil)))) (pg_name (i := 5) sc_l_divisors_right.nd rfl (.inl rfl)) (pss_cons (ps_set (i := 6) sc_l_divisors_right.nd rfl (.inl rfl) (pe_call G_gcd_of (hr.mono (by decide)) rfl D_gcd_of.mg D_gcd_of.fn.kp D_gcd_of.bd .nil pass0 (pa_cons (pv 5) pa_nil)))
      (pss_one (ps_if (PW.pt (pw_or (pt_not (pt_val (pe_call G_l_integer (hr.mono (by decide)) rfl D_l_integer.mg D_l_integer.fn.kp D_l_integer.bd .nil pass0 (pa_cons (pv 6) pa_nil)))) (pw_or1 (pt_cmpR (kNe (K := K) hr.units) (pv 6) (pv 3) (nomark _))))) (pss_one (ps_ret pe_bl)) pss_nil))))
      (pss_cons (ps_set (i := 4) sc_l_divisors_right.nd rfl (.inl rfl) pe_int)
      (pss_cons (ps_set (i := 7) sc_l_divisors_right.nd rfl (.inl rfl) (pe_lst (pa_cons pe_int pa_nil)))
      (pss_cons (ps_for PassesOwn.never rfl (kSeq (K := K) (pe_tup (pa_cons pe_int (pa_cons pe_int (pa_cons pe_int (pa_cons pe_int (pa_cons pe_int (pa_cons pe_int (pa_cons pe_int pa_nil))))))))) (pg_name (i := 8) sc_l_divisors_right.nd rfl (.inr rfl)) (pss_one (ps_if (PW.pt (pw_and (pt_cmpR (kEq (K := K) hr.units) (pe_call G_l_draw (hr.mono (by decide)) rfl D_l_draw.mg D_l_draw.fn.kp D_l_draw.bd .nil pass0 (pa_cons (pv 0) (pa_cons pe_int pa_nil))) pe_int (nomark _)) (pw_and1 (pt_cmpR op_le (pe_op oMul (pv 4) (pv 8)) (pe_op op_pow pe_int pe_int) (nomark _))))) (pss_cons (ps_set (i := 4) sc_l_divisors_right.nd rfl (.inl rfl) (pe_op oMul (pv 4) (pv 8)))
      (pss_one (ps_set (i := 7) sc_l_divisors_right.nd rfl (.inl rfl) (pe_op (kAdd (K := K)) (pv 7) (pe_lc (own := [("_law_one", 10)]) rfl sc_l_divisors_right.nd (kSeq (K := K) (pv 7)) (blkOk_by (N := ["_law_stream", "_law_factor", "_law_numbers", "_law_due", "_law_number_here", "_law_some", "_law_found", "_law_factors", "_law_prime", "_law_k", "_law_one"]) (sc := defScope st_l_divisors_right) (by decide +kernel)) (fun _ _ _ _ _ => (pg_name (i := 10) sc_l_divisors_right.nd rfl (.inl rfl))) (fun _ _ _ _ _ => pts_nil) (fun _ _ _ _ _ => (pe_op oMul (pv 8) (pv 10)))))))) pss_nil)))
      (pss_one (ps_ret (pe_cmpR (kEq (K := K) hr.units) (pe_call G_divisors (hr.mono (by decide)) rfl D_divisors.mg D_divisors.fn.kp D_divisors.bd .nil pass0 (pa_cons (pv 4) pa_nil)) (pe_callTy (kTup (K := K)) (by rfl) Z.tuple_ PyProof.Rows.Boot.«tuple» (pa_cons (pe_callB (cr_sortedSet rfl) (by rfl) Z.sorted_ PyProof.Rows.Boot.«sorted» (pa_cons (pe_callTy (kSet (K := K) rfl) (by rfl) Z.set_ PyProof.Rows.Boot.«set» (pa_cons (pv 7) pa_nil)) pa_nil)) pa_nil)) (nomark _)))))))))))), ?_⟩
  -- factor
  refine ⟨_, rfl, 10, 12, rfl, rfl, ⟨by decide, by decide, by decide⟩, s0, q, B, G, _, rfl, O, by omega, by decide, by decide, fun r H1 r0 r1 O1 => .inl ⟨1, r, rfl, rfl, by show 2 ≤ sizeLine; decide, fun l hl => ?_⟩⟩
  refine ⟨_, rfl, s0, q, B + 1, _, 2, rfl, O1.new hl, by omega, by decide, by decide, fun r2 H2 r20 r21 O2 => ?_⟩
  obtain ⟨v, hv, hm⟩ := menu (n := 2) r20 r21 (vs := [.int 1, .int (1 + r)]) rfl
  have hp12 : (10 : Int) ^ (12 : Int).toNat = 1000000000000 := by decide
  rw [hp12] at r1
  have hf : ∃ f : Int, v = .int f ∧ f.natAbs < 2 ^ 41 := by
    simp only [List.mem_cons, List.not_mem_nil, or_false] at hm
    rcases hm with h | h
    · exact ⟨_, h, by decide⟩
    · exact ⟨_, h, by omega⟩
  obtain ⟨fac, rfl, hfac⟩ := hf
  refine ixl (O2.sub l _ upd_same) hv ?_
  have O2' := O2.weak (Ex.new (O1.sub.free hl))
  -- numbers
  refine ⟨_, rfl, s0, q, B + 1 + 1, G, 9, rfl, O2', by omega, by decide, by decide, fun j H3 j0 j1 O3 => ⟨j, rfl, by omega, by omega, fun D hD => ?_⟩⟩
  refine lc_strm (walk_range (lo := 0) (n := j.toNat)) (c := 4) O3 hD (fun i acc => ∃ ns : List Int, acc = ns.map V.int ∧ ns.length = i) ⟨[], rfl, rfl⟩ (fun i acc _ p => by obtain ⟨ns, rfl, e⟩ := p; simp [e]) (by omega) (fun _ _ _ _ _ => trivial) (fun i x Hc Hy acc hi pa oc y Qe Qn qe qn => ?_) (fun H4 acc pa O4 => ?_)
  · obtain ⟨rfl, rfl⟩ := y
    obtain ⟨ns, rfl, hns⟩ := pa
    refine ⟨rfl, _, rfl, _, rfl, s0, q, B + 1 + 1 + 1 + 4 * i, _, rfl, oc, by omega, fun z H5 hz O5 => ⟨fac, z, rfl, rfl, ?_, ?_⟩⟩
    · exact wide_mul (a := 41) (b := 200) hfac (Nat.lt_of_le_of_lt hz (by decide)) (by decide) (by decide) (by decide)
    · refine qe _ _ ⟨ns ++ [fac * z], by simp, by simp [hns]⟩ ?_
      exact O5.more (by omega)
  obtain ⟨ns, rfl, hns⟩ := pa
  have hD4 : H4 D = some (.lst (ns.map V.int)) := O4.sub _ _ upd_same
  have O4' := O4.weak (Ex.new (O3.sub.free hD))
  -- due
  refine ⟨_, rfl, false, D, _, rfl, SqK.lst hD4, for_it (walk_k (xs := ns.map V.int)) (fun i σ H' => ∃ v4 : Option V, σ = [some (.ref s0), some (.int fac), some (.ref D), some (.int (gfold (ns.take i))), v4, none, none, none, none, none, none] ∧ H' = H4)
    ⟨none, by rw [List.take_zero]; rfl, rfl⟩ (fun i σ H' _ p => ?_) (fun i x σ H' H5 hi p y => ?_) (fun σ H' p => ?_)⟩
  · obtain ⟨v4, rfl, rfl⟩ := p
    exact SqK.lst hD4
  · obtain ⟨v4, rfl, rfl⟩ := p
    obtain ⟨rfl, hx⟩ := y
    obtain ⟨z, hz, rfl⟩ := ints_at hx
    refine ⟨_, rfl, _, rfl, _, _, rfl, ?_⟩
    exact ⟨some (.int z), by rw [gfold_more hz]; rfl, rfl⟩
  obtain ⟨v4, rfl, rfl⟩ := p
  rw [List.length_map, List.take_length]
  -- for some in (numbers, tuple(numbers))
  refine ⟨_, rfl, _, rfl, D, _, rfl, .inl ⟨SqL.of hD4, fun t ht => ⟨by show 2 ≤ sizeLine; decide, fun p hp => ?_⟩⟩⟩
  have e5 : Ex H' (upd (upd H' t (.tup (ns.map V.int))) p (.tup [.ref D, .ref t])) := (Ex.new ht).trans (Ex.new hp)
  have hD5 := e5 _ _ hD4
  have ht5 : upd (upd H' t (.tup (ns.map V.int))) p (.tup [.ref D, .ref t]) t = some (.tup (ns.map V.int)) := Ex.new hp _ _ upd_same
  have hp5 : upd (upd H' t (.tup (ns.map V.int))) p (.tup [.ref D, .ref t]) p = some (.tup [.ref D, .ref t]) := upd_same
  have O5 := O4'.ex e5
  generalize upd (upd H' t (.tup (ns.map V.int))) p (.tup [.ref D, .ref t]) = Hd at e5 hD5 ht5 hp5 O5
  refine ⟨true, p, _, rfl, SqK.tup hp5, for_it (walk_k (xs := [V.ref D, V.ref t])) (fun i σ H' => ∃ v4 v5 v6 : Option V, σ = [some (.ref s0), some (.int fac), some (.ref D), some (.int (gfold ns)), v4, v5, v6, none, none, none, none] ∧ H' = Hd)
    ⟨_, _, _, rfl, rfl⟩ (fun i σ H' _ p => ?_) (fun i x σ H' H6 hi p y => ?_) (fun σ H' p => ?_)⟩
  · obtain ⟨_, _, _, rfl, rfl⟩ := p
    exact SqK.tup hp5
  · obtain ⟨v4, v5, v6, rfl, rfl⟩ := p
    obtain ⟨rfl, hx⟩ := y
    have hk : ∃ k a, x = .ref a ∧ SqK K k H6 a (ns.map V.int) := by
      have := List.mem_of_getElem? hx
      simp only [List.mem_cons, List.not_mem_nil, or_false] at this
      rcases this with h | h
      · exact ⟨false, D, h, SqK.lst hD5⟩
      · exact ⟨true, t, h, SqK.tup ht5⟩
    obtain ⟨k, a, rfl, hk⟩ := hk
    refine ⟨_, rfl, k, a, ns, rfl, hk, _, rfl, _, "int", rfl, .int _, _, rfl, iteF ⟨_, rfl, _, rfl, .inl ⟨rfl, _, rfl, ?_⟩⟩⟩
    have c' : (!decide (V.int (gfold ns) = V.int (gfold ns))) = false := by simp
    rw [c']
    exact iteF ⟨_, _, _, rfl, rfl⟩
  obtain ⟨v4, v5, v6, rfl, rfl⟩ := p
  -- number_here = 1; factors = [1]
  refine ⟨Nat.succ_le_of_lt (by decide), fun L0 hL0 => ?_⟩
  have O6 := O5.new (o := .lst [.int 1]) hL0
  have g6 : Ex G (upd G L0 (.lst [.int 1])) := Ex.new (O5.sub.free hL0)
  refine ⟨by show 7 ≤ sizeLine; decide, fun pp hpp => ?_⟩
  have O7 := O6.new (o := .tup [.int 2, .int 3, .int 2, .int 5, .int 997, .int 7, .int 11]) hpp
  have e7 := Ex.new (o := .tup [.int 2, .int 3, .int 2, .int 5, .int 997, .int 7, .int 11]) (O6.sub.free hpp)
  refine ⟨true, pp, _, rfl, SqK.tup upd_same, for_it (walk_k (xs := [V.int 2, V.int 3, V.int 2, V.int 5, V.int 997, V.int 7, V.int 11]))
    (fun i σ H' => ∃ (v5 v6 v8 : Option V) (n : Nat) (fs : List Nat) (L : Addr) (G' : Hp), σ = [some (.ref s0), some (.int fac), some (.ref D), some (.int (gfold ns)), some (.int n), v5, v6, some (.ref L), v8, none, none] ∧ (n, fs) ∈ St i ∧ Ex G G' ∧
      G' L = some (.lst ((toI fs).map V.int)) ∧ G' pp = some (.tup [.int 2, .int 3, .int 2, .int 5, .int 997, .int 7, .int 11]) ∧ Ov s0 q (B + 1 + 1 + 1 + 4 * j.toNat + i) G' H')
    ⟨_, _, _, 1, [1], L0, _, rfl, by decide, g6.trans e7, e7 _ _ upd_same, upd_same, O7⟩ (fun i σ H' _ p => ?_) (fun i x σ H' H6 hi p y => ?_) (fun σ H' p => ?_)⟩
  · obtain ⟨_, _, _, _, _, _, _, rfl, _, _, _, gp, OO⟩ := p
    exact SqK.tup (OO.sub _ _ gp)
  · obtain ⟨v5, v6, v8, n, fs, L, G', rfl, hst, eG, gL, gp, OO⟩ := p
    obtain ⟨rfl, hx⟩ := y
    have hp : ∃ m : Nat, x = .int m ∧ primes7.getD i 1 = m ∧ m ≤ 1000 := by
      have hi7 : i < 7 := hi
      match i, hi7 with
      | 0, _ => exact ⟨2, (Option.some.inj hx).symm, rfl, by decide⟩
      | 1, _ => exact ⟨3, (Option.some.inj hx).symm, rfl, by decide⟩
      | 2, _ => exact ⟨2, (Option.some.inj hx).symm, rfl, by decide⟩
      | 3, _ => exact ⟨5, (Option.some.inj hx).symm, rfl, by decide⟩
      | 4, _ => exact ⟨997, (Option.some.inj hx).symm, rfl, by decide⟩
      | 5, _ => exact ⟨7, (Option.some.inj hx).symm, rfl, by decide⟩
      | 6, _ => exact ⟨11, (Option.some.inj hx).symm, rfl, by decide⟩
    obtain ⟨m, rfl, hm, hm1⟩ := hp
    have hlen : fs.length ≤ 64 := by
      have c := List.all_eq_true.mp (small_len i (by have : i < 7 := hi; omega)) _ hst
      exact of_decide_eq_true c
    have hn1 : n ≤ 1000000 := by
      have c := List.all_eq_true.mp (small_num i (by have : i < 7 := hi; omega)) _ hst
      exact of_decide_eq_true c
    have hi7 : i < 7 := hi
    have hj8 : j.toNat ≤ 8 := by omega
    refine ⟨_, rfl, s0, q, _, G', 2, rfl, OO, by omega, by decide, by decide, fun z H7 z0 z1 O8 => .inl ⟨rfl, _, rfl, ?_⟩⟩
    by_cases hz : z = 1
    · have c' : decide (V.int z = V.int 1) = true := by simp [hz]
      rw [c']
      refine iteT ⟨_, rfl, _, rfl, n, m, rfl, rfl, ?_, 10, 6, rfl, rfl, ⟨by decide, by decide, by decide⟩, _, _, rfl, rfl, _, rfl, ?_⟩
      · exact wide_mul (a := 30) (b := 20) (by omega) (by omega) (by decide) (by decide) (by decide)
      have p6 : (10 : Int) ^ (6 : Int).toNat = 1000000 := by decide
      rw [p6]
      by_cases hle : (n : Int) * (m : Int) ≤ 1000000
      · rw [decide_eq_true hle]
        refine iteT ⟨_, rfl, _, rfl, n, m, rfl, rfl, ?_, ?_⟩
        · exact wide_mul (a := 30) (b := 20) (by omega) (by omega) (by decide) (by decide) (by decide)
        have hL7 := O8.sub _ _ gL
        refine ⟨_, rfl, _, rfl, false, L, _, rfl, SqK.lst hL7, fun D2 hD2 => ?_⟩
        refine lc_pure (walk_k (xs := (toI fs).map V.int)) hD2 (fun _ => true) (fun i => .int ((m : Int) * (toI fs).getD i 0)) ?_ (fun _ e => SqK.lst (e _ _ hL7)) (fun i2 x Hc Hy hi2 e y Qe Qn qe qn => ?_) (fun H8 ex hL8 => ?_)
        · simp [toI]
          omega
        · obtain ⟨rfl, hx2⟩ := y
          obtain ⟨u, hu, rfl⟩ := ints_at hx2
          have eu : (toI fs).getD i2 0 = u := by rw [List.getD_eq_getElem?_getD, hu]; rfl
          rw [eu] at qe
          have hub : u.natAbs < 2 ^ 60 ∨ True := .inr trivial
          refine ⟨rfl, _, rfl, _, rfl, m, u, rfl, rfl, ?_, qe rfl _ (Ex.refl _)⟩
          have hmem := List.mem_of_getElem? hu
          obtain ⟨w0, hw0, rfl⟩ := List.mem_map.mp hmem
          have hw1 : w0 ≤ 1000000 := by
            have c := List.all_eq_true.mp (small_fac i (by omega)) _ hst
            exact of_decide_eq_true (List.all_eq_true.mp c _ hw0)
          exact wide_mul (a := 20) (b := 30) (by omega) (by omega) (by decide) (by decide) (by decide)
        · rw [picked_all, List.length_map, map_range (toI fs) (fun x => V.int ((m : Int) * x)) _ (fun i x h => by rw [List.getD_eq_getElem?_getD, h]; rfl)] at hL8
          have O9 := O8.ex ex
          refine .inr (.inl ⟨L, D2, _, _, rfl, rfl, ex _ _ hL7, hL8, ?_, fun L2 hL2 => ?_⟩)
          · simp [toI]
            rw [sizeLine_eq]
            omega
          have O10 := O9.new (o := .lst (((toI fs).map V.int) ++ ((toI fs).map fun x => V.int ((m : Int) * x)))) hL2
          have e10 := Ex.new (o := .lst (((toI fs).map V.int) ++ ((toI fs).map fun x => V.int ((m : Int) * x)))) (O9.sub.free hL2)
          refine ⟨v5, v6, some (.int m), n * m, fs ++ fs.map (m * ·), L2, _, ?_, st_take hm hst ?_, eG.trans e10, ?_, e10 _ _ gp, O10⟩
          · rw [Int.natCast_mul]
            rfl
          · rw [← Int.natCast_mul] at hle
            omega
          · rw [upd_same]
            unfold toI
            rw [List.map_append, List.map_append, List.map_map, List.map_map, List.map_map, List.map_map]
            congr 4
      · rw [decide_eq_false hle]
        exact iteF ⟨_, _, _, n, fs, L, G', rfl, st_skip hst, eG, gL, gp, O8⟩
    · have c' : decide (V.int z = V.int 1) = false := by simp [hz]
      rw [c']
      exact iteF ⟨_, _, _, n, fs, L, G', rfl, st_skip hst, eG, gL, gp, O8⟩
  obtain ⟨v5, v6, v8, n, fs, L, G', rfl, hst, eG, gL, gp, OO⟩ := p
  obtain ⟨f1, f2, f3, f4, f5⟩ := st_facts hst
  -- divisors(number_here) == tuple(sorted(set(factors)))
  refine ⟨_, rfl, n, rfl, f1, by omega, f3, fun H8 pd ex hpd hd => ?_⟩
  have hL8 := ex _ _ (OO.sub _ _ gL)
  have hlf : (toI fs).length ≤ 4000 := by
    unfold toI
    rw [List.length_map]
    omega
  refine ⟨_, rfl, L, toI fs, rfl, SqL.of hL8, hlf, fun ps ms hps hnd hms => ?_⟩
  have hlen : ms.length = (divI n).length := by
    have hdm : ∀ k, k ∈ divI n ↔ k ∈ toI fs := by
      have c := List.all_eq_true.mp st7 _ hst
      simp only [check, Bool.and_eq_true, decide_eq_true_eq, List.all_eq_true, List.contains_iff_mem] at c
      intro k
      constructor
      · exact fun hk => c.1.2 k hk
      · intro hk
        obtain ⟨n0, hn0, rfl⟩ := List.mem_map.mp hk
        exact c.2 n0 hn0
    have hdn : (divI n).Nodup := by
      have c := List.all_eq_true.mp st7 _ hst
      simp only [check, Bool.and_eq_true] at c
      exact (rises_pw _ c.1.1.1.2).imp fun h => Int.ne_of_lt h
    exact (List.Perm.length_eq ((List.perm_ext_iff_of_nodup hnd hdn).mpr fun k => (hms k).trans (hdm k).symm))
  refine ⟨ps, _, _, rfl, upd_same, by omega, fun zs p2 hpw hzs hzl hp2 => ?_⟩
  refine ⟨p2, _, rfl, .inl ⟨SqL.of upd_same, fun p3 hp3 => ?_⟩⟩
  have hzs' : ∀ k : Int, k ∈ zs ↔ k ∈ toI fs := fun k => (hzs k).trans (by simp)
  have hdz := divs_right hst hpw hzs'
  have e9 := ((Ex.new (o := SetO w ps (fun j => decide (j ∈ toI fs)) ms.length) hps).trans (Ex.new (o := .lst (zs.map V.int)) hp2)).trans (Ex.new (o := .tup (zs.map V.int)) hp3)
  refine .inr ⟨_, _, dp_t (SqT.of (e9 _ _ hd)), dp_t (SqT.of upd_same), shaped_t _, shaped_t _, ?_⟩
  rw [eqv_t, hdz, decide_eq_true rfl]
  refine kq _ (((OO.ex (ex.trans e9)).weak eG).more ?_)
  have : [V.int 2, V.int 3, V.int 2, V.int 5, V.int 997, V.int 7, V.int 11].length = 7 := rfl
  omega
end
end K1

set_option maxHeartbeats 4000000
namespace K1
open PySem PySem.Spec PyProof.Rows L2 Hg
def sp_l_fractions_right (K : PySem.W.Frag) : Sp := fun vs H Q _ => ∃ (s q : Addr) (B : Nat) (G : Hp), vs = [.ref s] ∧ Ov s q B G H ∧ B ≤ 2000 ∧ ∀ H', Ov s q (B + 20) G H' → Q (.bl true) H'
theorem num.big {r : Int} (h : num r) : big r := Nat.lt_of_le_of_lt h (by decide)
theorem num.big1 {r : Int} (h : num r) : big1 r := Nat.lt_of_le_of_lt h (by decide)
theorem num.mul {x y : Int} (h : num x) (h' : num y) : (x * y).natAbs < 2 ^ 2000 := (num.big1 h).mul (num.big1 h')
section
variable {P : Program} {w : World} {K : PySem.W.Frag} {mg : Str → Option Value} {base : Heap}
theorem ok_l_fractions_right {f : Addr} {fd : FuncData} (F : DefK K mg "_law_fractions_right" st_l_fractions_right ["_law_stream"] f fd) (Z : Zs mg) {f_fraction : Addr} {fd_fraction : FuncData} (D_fraction : DefF K mg ["top", "bottom"] f_fraction fd_fraction) (G_fraction : FnOk P w K mg base (L2.CX P w) 3 f_fraction fd_fraction ["top", "bottom"] (sp_fraction K)) {f_add_fractions : Addr} {fd_add_fractions : FuncData} (D_add_fractions : DefK K mg "add_fractions" st_add_fractions ["one", "other"] f_add_fractions fd_add_fractions) (G_add_fractions : FnOk P w K mg base CX0 4 f_add_fractions fd_add_fractions ["one", "other"] (sp_add_fractions K)) {f_multiply_fractions : Addr} {fd_multiply_fractions : FuncData} (D_multiply_fractions : DefK K mg "multiply_fractions" st_multiply_fractions ["one", "other"] f_multiply_fractions fd_multiply_fractions) (G_multiply_fractions : FnOk P w K mg base CX0 4 f_multiply_fractions fd_multiply_fractions ["one", "other"] (sp_multiply_fractions K)) {f_l_draw : Addr} {fd_l_draw : FuncData} (D_l_draw : DefK K mg "_law_draw" st_l_draw ["_law_stream", "_law_count"] f_l_draw fd_l_draw) (G_l_draw : FnOk P w K mg base CX0 1 f_l_draw fd_l_draw ["_law_stream", "_law_count"] (sp_l_draw K)) {f_l_number : Addr} {fd_l_number : FuncData} (D_l_number : DefK K mg "_law_number" st_l_number ["_law_stream"] f_l_number fd_l_number) (G_l_number : FnOk P w K mg base CX0 2 f_l_number fd_l_number ["_law_stream"] (sp_l_number K)) {f_l_equals : Addr} {fd_l_equals : FuncData} (D_l_equals : DefK K mg "_law_equals" st_l_equals ["_law_found", "_law_top", "_law_base"] f_l_equals fd_l_equals) (G_l_equals : FnOk P w K mg base CX0 2 f_l_equals fd_l_equals ["_law_found", "_law_top", "_law_base"] (sp_l_equals K)) {f_l_made : Addr} {fd_l_made : FuncData} (D_l_made : DefK K mg "_law_made" st_l_made ["_law_top", "_law_base"] f_l_made fd_l_made) (G_l_made : FnOk P w K mg base CX0 4 f_l_made fd_l_made ["_law_top", "_law_base"] (sp_l_made K)) :
    FnOk P w K mg base CX0 5 f fd ["_law_stream"] (sp_l_fractions_right K) := by
  refine F.fn.ok sc_l_fractions_right (fun vs H Q E h => by first | (obtain ⟨_, rfl, _⟩ := h; rfl) | (obtain ⟨_, _, rfl, _⟩ := h; rfl) | (obtain ⟨_, _, _, rfl, _⟩ := h; rfl) | (obtain ⟨_, _, _, _, rfl, _⟩ := h; rfl) | (obtain ⟨_, _, _, _, _, rfl, _⟩ := h; rfl) | (obtain ⟨_, _, _, _, _, _, rfl, _⟩ := h; rfl) | (obtain ⟨_, _, _, _, _, _, _, rfl, _⟩ := h; rfl) | (obtain ⟨_, _, _, _, _, _, _, _, rfl, _⟩ := h; rfl) | (obtain ⟨_, _, _, _, _, _, _, _, _, rfl, _⟩ := h; rfl) | (obtain ⟨_, _, _, _, _, _, _, _, _, _, rfl, _⟩ := h; rfl) | (obtain ⟨_, _, _, _, _, _, _, _, _, _, _, rfl, _⟩ := h; rfl) | (obtain ⟨_, _, _, _, _, _, _, _, _, _, _, _, rfl, _⟩ := h; rfl) | (obtain ⟨_, _, _, _, _, _, _, _, _, _, _, _, _, rfl, _⟩ := h; rfl)) (fun cdv A outer s H vs Q E hr h => ?_)
  obtain ⟨ds1, hds1, hb1⟩ := D_fraction.bd1
  obtain ⟨s0, q, B, G, rfl, O, hB, kq⟩ := h
  refine ⟨_, (pss_cons (ps_set (i := 1) sc_l_fractions_right.nd rfl (.inl rfl) (pe_lst pa_nil))
      (pss_cons (ps_for PassesOwn.never rfl (pi_range1 (by rfl) Z.range_ (pa_cons pe_int pa_nil)) (pg_name (i := 2) sc_l_fractions_right.nd rfl (.inl rfl)) (pss_cons (ps_par (i := 3) (j := 4) (by rfl) sc_l_fractions_right.nd rfl rfl (by decide) rfl rfl (pa_cons (pe_call G_l_number (hr.mono (by decide)) rfl D_l_number.mg D_l_number.fn.kp D_l_number.bd .nil pass0 (pa_cons (pv 0) pa_nil)) (pa_cons (pe_call G_l_number (hr.mono (by decide)) rfl D_l_number.mg D_l_number.fn.kp D_l_number.bd .nil pass0 (pa_cons (pv 0) pa_nil)) pa_nil)) (by rfl))
      (pss_cons (ps_set (i := 5) sc_l_fractions_right.nd rfl (.inl rfl) (pe_call G_l_made (hr.mono (by decide)) rfl D_l_made.mg D_l_made.fn.kp D_l_made.bd .nil pass0 (pa_cons (pv 3) (pa_cons (pv 4) pa_nil))))
      (pss_cons (ps_if (PW.pt (pw_and (pt_cmpR (kEq (K := K) hr.units) (pv 4) pe_int (nomark _)) (pw_and1 (pt_cmpR op_notN (pv 5) pe_non (nomark _))))) (pss_one (ps_ret pe_bl)) pss_nil)
      (pss_cons (ps_if (PW.pt (pw_and (pt_cmpR (kNe (K := K) hr.units) (pv 4) pe_int (nomark _)) (pw_and1 (pt_not (pt_val (pe_call G_l_equals (hr.mono (by decide)) rfl D_l_equals.mg D_l_equals.fn.kp D_l_equals.bd .nil pass0 (pa_cons (pv 5) (pa_cons (pv 3) (pa_cons (pv 4) pa_nil))))))))) (pss_one (ps_ret pe_bl)) pss_nil)
      (pss_one (ps_expr (pe_bm PySem.F.plainAttrs_list PySem.F.slot_list_append PySem.F.type_list_append mt_append (pv 1) (pa_cons (pe_ifExp (pt_cmpR (kNe (K := K) hr.units) (pv 4) pe_int (nomark _)) (pe_tup (pa_cons (pv 3) (pa_cons (pv 4) pa_nil))) (pe_tup (pa_cons (pv 3) (pa_cons pe_int pa_nil)))) pa_nil)))))))))
      (pss_cons (ps_asg (pv 1) (kPgL (K := K) (n := 2) rfl (pgs_cons (kPgT (K := K) (n := 2) rfl (pgs_cons (pg_name (i := 6) sc_l_fractions_right.nd rfl (.inl rfl)) (pgs_cons (pg_name (i := 7) sc_l_fractions_right.nd rfl (.inl rfl)) pgs_nil))) (pgs_cons (kPgT (K := K) (n := 2) rfl (pgs_cons (pg_name (i := 8) sc_l_fractions_right.nd rfl (.inl rfl)) (pgs_cons (pg_name (i := 9) sc_l_fractions_right.nd rfl (.inl rfl)) pgs_nil))) pgs_nil))))
      (pss_cons (ps_par (i := 10) (j := 11) (by rfl) sc_l_fractions_right.nd rfl rfl (by decide) rfl rfl (pa_cons (pe_call G_fraction (hr.mono (by decide)) rfl D_fraction.mg D_fraction.fn.kp D_fraction.bd .nil passX (pa_cons (pv 6) (pa_cons (pv 7) pa_nil))) (pa_cons (pe_ix (kIx (K := K)) (pe_lst (pa_cons (pe_call G_fraction (hr.mono (by decide)) rfl D_fraction.mg D_fraction.fn.kp D_fraction.bd .nil passX (pa_cons (pv 8) (pa_cons (pv 9) pa_nil))) (pa_cons (pe_callTy (kLst (K := K)) (by rfl) Z.list_ PyProof.Rows.Boot.«list» (pa_cons (pe_call G_fraction (hr.mono (by decide)) rfl D_fraction.mg D_fraction.fn.kp D_fraction.bd .nil passX (pa_cons (pv 8) (pa_cons (pv 9) pa_nil))) pa_nil)) pa_nil))) (pe_call G_l_draw (hr.mono (by decide)) rfl D_l_draw.mg D_l_draw.fn.kp D_l_draw.bd .nil pass0 (pa_cons (pv 0) (pa_cons pe_int pa_nil))) (fun _ _ => rfl)) pa_nil)) (by rfl))
      (pss_cons (ps_if (pt_not (pt_val (pe_call G_l_equals (hr.mono (by decide)) rfl D_l_equals.mg D_l_equals.fn.kp D_l_equals.bd .nil pass0 (pa_cons (pe_call G_fraction (hr.mono (by decide)) rfl D_fraction.mg D_fraction.fn.kp hb1 hds1 passX (pa_cons (pv 6) pa_nil)) (pa_cons (pv 6) (pa_cons pe_int pa_nil)))))) (pss_one (ps_ret pe_bl)) pss_nil)
      (pss_cons (ps_if (pt_not (pt_val (pe_call G_l_equals (hr.mono (by decide)) rfl D_l_equals.mg D_l_equals.fn.kp D_l_equals.bd .nil pass0 (pa_cons (pe_call G_add_fractions (hr.mono (by decide)) rfl D_add_fractions.mg D_add_fractions.fn.kp D_add_fractions.bd .nil pass0 (pa_cons (pv 10) (pa_cons (pv 11) pa_nil))) (pa_cons (pe_op (kAdd (K := K)) (pe_op oMul (pv 6) (pv 9)) (pe_op oMul (pv 8) (pv 7))) (pa_cons (pe_op oMul (pv 7) (pv 9)) pa_nil)))))) (pss_one (ps_ret pe_bl)) pss_nil)
      (pss_one (ps_ret (pe_call G_l_equals (hr.mono (by decide)) rfl D_l_equals.mg D_l_equals.fn.kp D_l_equals.bd .nil pass0 (pa_cons (pe_call G_multiply_fractions (hr.mono (by decide)) rfl D_multiply_fractions.mg D_multiply_fractions.fn.kp D_multiply_fractions.bd .nil pass0 (pa_cons (pv 10) (pa_cons (pv 11) pa_nil))) (pa_cons (pe_op oMul (pv 6) (pv 8)) (pa_cons (pe_op oMul (pv 7) (pv 9)) pa_nil)))))))))))), ?_⟩
  refine ⟨Nat.zero_le _, fun L hL => ?_⟩
  refine ⟨2, rfl, by decide, by decide, for_it (walk_range (lo := 0) (n := 2)) (fun i σ H' => ∃ (ps : List (Addr × Int × Int)) (v2 v3 v4 v5 : Option V) (G' : Hp), σ = [some (.ref s0), some (.ref L), v2, v3, v4, v5, none, none, none, none, none, none] ∧ ps.length = i ∧
      (∀ p ∈ ps, G' p.1 = some (.tup [.int p.2.1, .int p.2.2]) ∧ p.2.2 ≠ 0 ∧ num p.2.1 ∧ num p.2.2) ∧ Ex G G' ∧ G' L = none ∧ Ov s0 q (B + 8 * i) (upd G' L (.lst (ps.map fun p => V.ref p.1))) H')
    ⟨[], _, _, _, _, G, rfl, rfl, (fun p hp => nomatch hp), Ex.refl G, O.sub.free hL, O.new hL⟩ (fun _ _ _ _ _ => trivial) (fun i x σ H' H6 hi p y => ?_) (fun σ H' p => ?_)⟩
  · obtain ⟨ps, v2, v3, v4, v5, G', rfl, hps, hpa, eG, hGL, OO⟩ := p
    obtain ⟨rfl, rfl⟩ := y
    refine ⟨_, rfl, s0, q, _, _, rfl, OO, by omega, fun t H1 ht O1 => ⟨_, rfl, s0, q, _, _, rfl, O1, by omega, fun b H2 hb O2 => ⟨_, _, rfl, ?_⟩⟩⟩
    have main : ∀ (b' : Int) (v5 : Option V) (H3 : Hp), b' ≠ 0 → num b' → Ex H2 H3 → ∀ p, H3 p = none →
        ∃ (ps' : List (Addr × Int × Int)) (v2 v3 v4 v5' : Option V) (G'' : Hp), [some (V.ref s0), some (.ref L), some (.int (0 + (i : Int))), some (.int t), some (.int b), v5, none, none, none, none, none, none] = [some (.ref s0), some (.ref L), v2, v3, v4, v5', none, none, none, none, none, none] ∧ ps'.length = i + 1 ∧
          (∀ p ∈ ps', G'' p.1 = some (.tup [.int p.2.1, .int p.2.2]) ∧ p.2.2 ≠ 0 ∧ num p.2.1 ∧ num p.2.2) ∧ Ex G G'' ∧ G'' L = none ∧
          Ov s0 q (B + 8 * (i + 1)) (upd G'' L (.lst (ps'.map fun p => V.ref p.1))) (upd (upd H3 p (.tup [.int t, .int b'])) L (.lst ((ps.map fun p => V.ref p.1) ++ [V.ref p]))) := by
      intro b' v5 H3 hb' nb' e3 p hp
      have O3 := O2.ex e3
      have hL3 := O3.sub L _ upd_same
      have npL : p ≠ L := fun e => by rw [e, hL3] at hp; cases hp
      have hgp : G' p = none := by
        have := O3.sub.free hp
        rw [upd_ne npL] at this
        exact this
      have O4 := O3.new (o := .tup [.int t, .int b']) hp
      have hL4 : upd (upd G' L (.lst (ps.map fun p => V.ref p.1))) p (.tup [.int t, .int b']) L = some (.lst (ps.map fun p => V.ref p.1)) := (upd_ne (Ne.symm npL)).trans upd_same
      have O5 := O4.put (o := .lst ((ps.map fun p => V.ref p.1) ++ [V.ref p])) hL4
      rw [upd_swap npL] at O5
      refine ⟨ps ++ [(p, t, b')], _, _, _, _, upd G' p (.tup [.int t, .int b']), rfl, by simp [hps], fun x hx => ?_, eG.trans (Ex.new hgp), (upd_ne (Ne.symm npL)).trans hGL, ?_⟩
      · rcases List.mem_append.mp hx with h | h
        · obtain ⟨h1, h2⟩ := hpa x h
          exact ⟨Ex.new hgp _ _ h1, h2⟩
        · rw [List.mem_singleton.mp h]
          exact ⟨upd_same, hb', ht, nb'⟩
      · rw [List.map_append]
        exact O5.more (by omega)
    have hL2 := O2.sub L _ upd_same
    have lenL : (ps.map fun p => V.ref p.1).length < sizeLine := by
      rw [List.length_map, hps, sizeLine_eq]
      omega
    refine ⟨_, rfl, _, rfl, t, b, rfl, num.big ht, num.big hb, fun hb0 H3 e3 => ?_, fun hb0 H3 p3 e3 hp3 hp3' => ?_⟩
    · subst hb0
      refine ⟨_, rfl, .inl ⟨rfl, _, rfl, iteT ⟨_, rfl, rfl, _, rfl, iteF ⟨_, rfl, .inl ⟨rfl, _, rfl, iteF ?_⟩⟩⟩⟩⟩
      refine ⟨_, rfl, .inl ⟨rfl, _, SqL.of (e3 _ _ hL2)⟩, _, rfl, .inl ⟨rfl, _, rfl, iteF ⟨_, rfl, by show 2 ≤ sizeLine; decide, fun p hp => ?_⟩⟩⟩
      have npL : p ≠ L := fun e => by rw [e, e3 _ _ hL2] at hp; cases hp
      refine ⟨L, _, _, rfl, rfl, (upd_ne (Ne.symm npL)).trans (e3 _ _ hL2), lenL, ?_⟩
      exact main 1 _ H3 (by decide) (by decide) e3 p hp
    · have c1 : decide (V.int b = V.int 0) = false := by simp [hb0]
      have c2 : (!decide (V.int b = V.int 0)) = true := by simp [hb0]
      obtain ⟨q1, q2, q3⟩ := frac_ok t b hb0
      obtain ⟨q4, q5⟩ := frac_big t b hb0
      refine ⟨_, rfl, .inl ⟨rfl, _, rfl, ?_⟩⟩
      rw [c1]
      refine iteF (iteF ⟨_, rfl, .inl ⟨rfl, _, rfl, ?_⟩⟩)
      rw [c2]
      refine iteT ⟨_, rfl, _, rfl, _, rfl, p3, _, _, t, b, rfl, hp3', q1, q2, q3, ⟨Nat.lt_of_le_of_lt q4 (num.big ht), Nat.lt_of_le_of_lt q5 (num.big hb), num.big ht, num.big hb⟩, fun H4 e4 => ⟨_, rfl, iteF ?_⟩⟩
      have hL4 := e4 _ _ (e3 _ _ hL2)
      refine ⟨_, rfl, .inl ⟨rfl, _, SqL.of hL4⟩, _, rfl, .inl ⟨rfl, _, rfl, ?_⟩⟩
      rw [c2]
      refine iteT ⟨_, rfl, _, rfl, by show 2 ≤ sizeLine; decide, fun p hp => ?_⟩
      have npL : p ≠ L := fun e => by rw [e, hL4] at hp; cases hp
      refine ⟨L, _, _, rfl, rfl, (upd_ne (Ne.symm npL)).trans hL4, lenL, ?_⟩
      exact main b _ H4 hb0 hb (e3.trans e4) p hp
  obtain ⟨ps, v2, v3, v4, v5, G', rfl, hps, hpa, eG, hGL, OO⟩ := p
  match ps, hps with
  | [(p1, a, b), (p2, c, d)], _ =>
  obtain ⟨g1, b0, na, nb⟩ := hpa (p1, a, b) (by simp)
  obtain ⟨g2, d0, nc, nd⟩ := hpa (p2, c, d) (by simp)
  have hL' : H' L = some (.lst [.ref p1, .ref p2]) := OO.sub L _ upd_same
  have np1 : p1 ≠ L := fun e => by rw [e, hGL] at g1; cases g1
  have np2 : p2 ≠ L := fun e => by rw [e, hGL] at g2; cases g2
  have hp1 := OO.sub p1 _ ((upd_ne np1).trans g1)
  have hp2 := OO.sub p2 _ ((upd_ne np2).trans g2)
  refine ⟨_, rfl, L, _, rfl, SqL.of hL', rfl, .ref p1, _, rfl, p1, _, rfl, SqT.of hp1, rfl, _, _, rfl, _, _, rfl, rfl, .ref p2, _, rfl, p2, _, rfl, SqT.of hp2, rfl, _, _, rfl, _, _, rfl, rfl, rfl, ?_⟩
  refine ⟨_, rfl, _, rfl, a, b, rfl, num.big na, num.big nb, fun z => absurd z b0, fun _ q1 hq1 => ?_⟩
  refine ⟨_, rfl, _, rfl, c, d, rfl, num.big nc, num.big nd, fun z => absurd z d0, fun _ q2 hq2 => ?_⟩
  refine ⟨_, rfl, _, rfl, c, d, rfl, num.big nc, num.big nd, fun z => absurd z d0, fun _ q3 hq3 => ?_⟩
  refine ⟨q3, _, rfl, .inr (SqT.of upd_same), fun l hl => ⟨by show 2 ≤ sizeLine; decide, fun l2 hl2 => ?_⟩⟩
  obtain ⟨x1, y1, hxy1⟩ : ∃ x y, fracI a b = (x, y) := ⟨_, _, rfl⟩
  obtain ⟨x2, y2, hxy2⟩ : ∃ x y, fracI c d = (x, y) := ⟨_, _, rfl⟩
  obtain ⟨s1, s2, s3⟩ := frac_ok a b b0
  obtain ⟨s4, s5⟩ := frac_big a b b0
  obtain ⟨t1, t2, t3⟩ := frac_ok c d d0
  obtain ⟨t4, t5⟩ := frac_big c d d0
  rw [hxy1] at s1 s2 s3 s4 s5
  rw [hxy2] at t1 t2 t3 t4 t5
  have O1 := OO.new (o := .tup [.int (fracI a b).1, .int (fracI a b).2]) hq1
  have O2 := O1.new (o := .tup [.int (fracI c d).1, .int (fracI c d).2]) hq2
  have O3 := O2.new (o := .tup [.int (fracI c d).1, .int (fracI c d).2]) hq3
  have O4 := O3.new (o := .lst [.int (fracI c d).1, .int (fracI c d).2]) hl
  have O5 := O4.new (o := .lst [.ref q2, .ref l]) hl2
  have e4 := Ex.new (o := .lst [.ref q2, .ref l]) (O4.sub.free hl2)
  have e3 := (Ex.new (o := .lst [.int (fracI c d).1, .int (fracI c d).2]) (O3.sub.free hl)).trans e4
  have e2 := (Ex.new (o := .tup [.int (fracI c d).1, .int (fracI c d).2]) (O2.sub.free hq3)).trans e3
  have e1 := (Ex.new (o := .tup [.int (fracI c d).1, .int (fracI c d).2]) (O1.sub.free hq2)).trans e2
  have e0 := (Ex.new (o := .tup [.int (fracI a b).1, .int (fracI a b).2]) (OO.sub.free hq1)).trans e1
  have f1 := e1 q1 _ upd_same
  have f2 := e2 q2 _ upd_same
  have f3 := e4 l _ upd_same
  have eGall : Ex G (upd (upd (upd (upd (upd (upd G' L (.lst (([(p1, a, b), (p2, c, d)] : List (Addr × Int × Int)).map fun p => V.ref p.1))) q1 (.tup [.int (fracI a b).1, .int (fracI a b).2])) q2 (.tup [.int (fracI c d).1, .int (fracI c d).2])) q3 (.tup [.int (fracI c d).1, .int (fracI c d).2])) l (.lst [.int (fracI c d).1, .int (fracI c d).2])) l2 (.lst [.ref q2, .ref l])) := (eG.trans (Ex.new hGL)).trans e0
  have fl2 : upd (upd (upd (upd (upd (upd G' L (.lst (([(p1, a, b), (p2, c, d)] : List (Addr × Int × Int)).map fun p => V.ref p.1))) q1 (.tup [.int (fracI a b).1, .int (fracI a b).2])) q2 (.tup [.int (fracI c d).1, .int (fracI c d).2])) q3 (.tup [.int (fracI c d).1, .int (fracI c d).2])) l (.lst [.int (fracI c d).1, .int (fracI c d).2])) l2 (.lst [.ref q2, .ref l]) l2 = some (.lst [.ref q2, .ref l]) := upd_same
  refine ⟨_, rfl, s0, q, _, _, 2, rfl, O5, by omega, by decide, by decide, fun r H2 r0 r1 O6 => ?_⟩
  generalize upd (upd (upd (upd (upd (upd G' L (.lst (([(p1, a, b), (p2, c, d)] : List (Addr × Int × Int)).map fun p => V.ref p.1))) q1 (.tup [.int (fracI a b).1, .int (fracI a b).2])) q2 (.tup [.int (fracI c d).1, .int (fracI c d).2])) q3 (.tup [.int (fracI c d).1, .int (fracI c d).2])) l (.lst [.int (fracI c d).1, .int (fracI c d).2])) l2 (.lst [.ref q2, .ref l]) = GG at O6 f1 f2 f3 eGall fl2
  clear O1 O2 O3 O4 O5 e0 e1 e2 e3 e4
  rw [hxy1] at f1
  rw [hxy2] at f2 f3
  obtain ⟨v, hv, hm⟩ := menu (n := 2) r0 r1 (vs := [.ref q2, .ref l]) rfl
  have hoth : ∃ (k : Bool) (oa : Addr), v = .ref oa ∧ SqK K k H2 oa [.int x2, .int y2] := by
    simp only [List.mem_cons, List.not_mem_nil, or_false] at hm
    rcases hm with h | h
    · exact ⟨true, q2, h, SqK.tup (O6.sub _ _ f2)⟩
    · exact ⟨false, l, h, SqK.lst (O6.sub _ _ f3)⟩
  obtain ⟨k, oa, rfl, hk⟩ := hoth
  refine ixl (O6.sub _ _ fl2) hv ⟨_, _, rfl, ?_⟩
  have h1 : SqK K true H2 q1 [.int x1, .int y1] := SqK.tup (O6.sub _ _ f1)
  have nx1 : num x1 := Nat.le_trans s4 na
  have ny1 : num y1 := Nat.le_trans s5 nb
  have nx2 : num x2 := Nat.le_trans t4 nc
  have ny2 : num y2 := Nat.le_trans t5 nd
  have y10 : y1 ≠ 0 := by have : 0 < y1 := s1; omega
  have y20 : y2 ≠ 0 := by have : 0 < y2 := t1; omega
  -- fraction(a)
  obtain ⟨u1, u2, u3⟩ := frac_ok a 1 (by decide)
  obtain ⟨u4, u5⟩ := frac_big a 1 (by decide)
  refine ⟨_, rfl, a, 1, rfl, num.big na, (show (1:Int).natAbs < 2 ^ 3000 by decide), fun z => absurd z (by decide), fun _ p5 hp5 => ⟨_, rfl, p5, _, _, a, 1, rfl, upd_same, u1, u2, u3, ⟨Nat.lt_of_le_of_lt u4 (num.big na), Nat.lt_of_le_of_lt u5 (by decide), num.big na, show (1:Int).natAbs < 2 ^ 3000 by decide⟩, fun H3 e3 => ⟨_, rfl, iteF ?_⟩⟩⟩
  have e23 : Ex H2 H3 := (Ex.new hp5).trans e3
  -- add_fractions
  have hb12 : (y1 * y2) ≠ 0 := Int.mul_ne_zero y10 y20
  obtain ⟨w1, w2, w3⟩ := frac_ok (x1 * y2 + x2 * y1) (y1 * y2) hb12
  obtain ⟨w4, w5⟩ := frac_big (x1 * y2 + x2 * y1) (y1 * y2) hb12
  have badd : big (x1 * y2 + x2 * y1) := big_add (num.mul nx1 ny2) (num.mul nx2 ny1)
  have bden : big (y1 * y2) := big_of (num.mul ny1 ny2) (by decide)
  have cm : ∀ {x y : Int}, num x → num y → CMulW x y := fun hx hy => big_mul (num.big hx) (num.big hy)
  refine ⟨_, rfl, _, rfl, true, k, q1, oa, x1, y1, x2, y2, rfl, e23.seq h1, e23.seq hk, ⟨num.big1 nx1, num.big1 ny1, num.big1 nx2, num.big1 ny2⟩, y10, y20, fun p6 hp6 => ?_⟩
  refine ⟨_, rfl, _, rfl, a, d, rfl, rfl, cm na nd, _, rfl, _, rfl, c, b, rfl, rfl, cm nc nb, .inl ⟨_, _, rfl, rfl, _, rfl, _, rfl, b, d, rfl, rfl, cm nb nd, p6, _, _, _, _, rfl, upd_same, w1, w2, frac_add a b c d x1 y1 x2 y2 b0 d0 y10 y20 s3 t3, ?_, fun H4 e4 => ⟨_, rfl, iteF ?_⟩⟩⟩
  · exact ⟨Nat.lt_of_le_of_lt w4 badd, Nat.lt_of_le_of_lt w5 bden, big_add (num.mul na nd) (num.mul nc nb), big_of (num.mul nb nd) (by decide)⟩
  have e24 : Ex H2 H4 := (e23.trans (Ex.new hp6)).trans e4
  -- multiply_fractions
  obtain ⟨z1, z2, z3⟩ := frac_ok (x1 * x2) (y1 * y2) hb12
  obtain ⟨z4, z5⟩ := frac_big (x1 * x2) (y1 * y2) hb12
  refine ⟨_, rfl, _, rfl, true, k, q1, oa, x1, y1, x2, y2, rfl, e24.seq h1, e24.seq hk, ⟨num.big1 nx1, num.big1 ny1, num.big1 nx2, num.big1 ny2⟩, y10, y20, fun p7 hp7 => ?_⟩
  refine ⟨_, rfl, _, rfl, a, c, rfl, rfl, cm na nc, _, rfl, _, rfl, b, d, rfl, rfl, cm nb nd, p7, _, _, _, _, rfl, upd_same, z1, z2, frac_mul a b c d x1 y1 x2 y2 b0 d0 y10 y20 s3 t3, ?_, fun H5 e5 => ?_⟩
  · exact ⟨Nat.lt_of_le_of_lt z4 (big_of (num.mul nx1 nx2) (by decide)), Nat.lt_of_le_of_lt z5 bden, big_of (num.mul na nc) (by decide), big_of (num.mul nb nd) (by decide)⟩
  exact kq H5 (((O6.ex ((e24.trans (Ex.new hp7)).trans e5)).weak eGall).more (by omega))
end
end K1

set_option maxHeartbeats 4000000
namespace K1
open PySem PySem.Spec PyProof.Rows L2 Hg
/-- a tuple of things of known kinds -/
def TK (G : Hp) (a : Addr) (n : Nat) : Prop := ∃ xs, G a = some (.tup xs) ∧ xs.length ≤ n ∧ ∀ x ∈ xs, ∃ m, Kd G x m
theorem TK.ex {G G' : Hp} {a : Addr} {n : Nat} (h : TK G a n) (e : Ex G G') : TK G' a n := by
  obtain ⟨xs, h1, h2, h3⟩ := h
  exact ⟨xs, e _ _ h1, h2, fun x hx => by obtain ⟨m, k⟩ := h3 x hx; exact ⟨m, k.ex e⟩⟩
theorem TK.any {G : Hp} {a : Addr} {n : Nat} (h : TK G a n) (hn : n ≤ 1000) : AnyOk G (.ref a) := by
  obtain ⟨xs, h1, h2, h3⟩ := h
  exact .inr ⟨a, xs, rfl, h1, by omega, h3⟩
theorem AnyOk.kd {G : Hp} {v : V} (h : AnyOk G v) : ∃ n, Kd G v n := by
  rcases h with ⟨n, k, _⟩ | ⟨a, xs, rfl, e, _⟩
  · exact ⟨n, k⟩
  · exact ⟨_, .tup e⟩
theorem slTK {K : PySem.W.Frag} {s q a : Addr} {B n : Nat} {G H : Hp} {lo hi : Option Int} {Q : VK} (O : Ov s q B G H) (h : TK G a n) (k : ∀ b G' H', Ex G G' → TK G' b n → Ov s q B G' H' → Q (.ref b) H') : rSlAll K (.ref a) lo hi H Q := by
  obtain ⟨xs, h1, h2, h3⟩ := id h
  refine .inr ⟨a, xs, rfl, SqT.of (O.sub _ _ h1), fun _ => k a G H (Ex.refl G) h O, fun _ p hp => ?_⟩
  have e := Ex.new (o := .tup (cutV xs lo hi)) (O.sub.free hp)
  refine k p _ _ e ⟨_, upd_same, Nat.le_trans (cutV_length ..) h2, fun x hx => ?_⟩ (O.new hp)
  have : x ∈ xs := by
    unfold cutV at hx
    exact List.mem_of_mem_drop (List.mem_of_mem_take hx)
  obtain ⟨m, z⟩ := h3 x this
  exact ⟨m, z.ex e⟩
theorem catTK {K : PySem.W.Frag} {s q a b : Addr} {B n m : Nat} {G H : Hp} {Q : VK} (O : Ov s q B G H) (h : TK G a n) (g : TK G b m) (hs : n + m ≤ 4000) (k : ∀ c G' H', Ex G G' → TK G' c (n + m) → Ov s q B G' H' → Q (.ref c) H') : rPlus K (.ref a) (.ref b) H Q := by
  obtain ⟨xs, h1, h2, h3⟩ := id h
  obtain ⟨ys, g1, g2, g3⟩ := id g
  refine .inr (.inr (.inl ⟨a, b, xs, ys, rfl, rfl, SqT.of (O.sub _ _ h1), SqT.of (O.sub _ _ g1), by rw [sizeLine_eq]; omega, fun _ => ?_, fun _ _ => ?_, fun _ _ p hp => ?_⟩))
  · exact k b G H (Ex.refl G) ⟨ys, g1, by omega, g3⟩ O
  · exact k a G H (Ex.refl G) ⟨xs, h1, by omega, h3⟩ O
  have e := Ex.new (o := .tup (xs ++ ys)) (O.sub.free hp)
  refine k p _ _ e ⟨_, upd_same, by rw [List.length_append]; omega, fun x hx => ?_⟩ (O.new hp)
  rcases List.mem_append.mp hx with z | z
  · obtain ⟨m, z⟩ := h3 x z
    exact ⟨m, z.ex e⟩
  · obtain ⟨m, z⟩ := g3 x z
    exact ⟨m, z.ex e⟩
def sp_l_changed (K : PySem.W.Frag) : Sp := fun vs H Q _ => ∃ (s q a : Addr) (B : Nat) (G : Hp) (ns : List Int), vs = [.ref s, .ref a] ∧ G a = some (.tup (ns.map V.int)) ∧ 1 ≤ ns.length ∧ ns.length ≤ 12 ∧ Ov s q B G H ∧ B ≤ 3000 ∧
  ∀ v G' H', Ex G G' → AnyOk G' v → Ov s q (B + 3) G' H' → Q v H'
section
variable {P : Program} {w : World} {K : PySem.W.Frag} {mg : Str → Option Value} {base : Heap}
theorem ok_l_changed {f : Addr} {fd : FuncData} (F : DefK K mg "_law_changed" st_l_changed ["_law_stream", "_law_form"] f fd) (Z : Zs mg) {f_l_draw : Addr} {fd_l_draw : FuncData} (D_l_draw : DefK K mg "_law_draw" st_l_draw ["_law_stream", "_law_count"] f_l_draw fd_l_draw) (G_l_draw : FnOk P w K mg base CX0 1 f_l_draw fd_l_draw ["_law_stream", "_law_count"] (sp_l_draw K)) {f_l_any : Addr} {fd_l_any : FuncData} (D_l_any : DefK K mg "_law_any" st_l_any ["_law_stream"] f_l_any fd_l_any) (G_l_any : FnOk P w K mg base CX0 2 f_l_any fd_l_any ["_law_stream"] (sp_l_any K)) :
    FnOk P w K mg base CX0 3 f fd ["_law_stream", "_law_form"] (sp_l_changed K) := by
  refine F.fn.ok sc_l_changed (fun vs H Q E h => by first | (obtain ⟨_, rfl, _⟩ := h; rfl) | (obtain ⟨_, _, rfl, _⟩ := h; rfl) | (obtain ⟨_, _, _, rfl, _⟩ := h; rfl) | (obtain ⟨_, _, _, _, rfl, _⟩ := h; rfl) | (obtain ⟨_, _, _, _, _, rfl, _⟩ := h; rfl) | (obtain ⟨_, _, _, _, _, _, rfl, _⟩ := h; rfl) | (obtain ⟨_, _, _, _, _, _, _, rfl, _⟩ := h; rfl) | (obtain ⟨_, _, _, _, _, _, _, _, rfl, _⟩ := h; rfl) | (obtain ⟨_, _, _, _, _, _, _, _, _, rfl, _⟩ := h; rfl) | (obtain ⟨_, _, _, _, _, _, _, _, _, _, rfl, _⟩ := h; rfl) | (obtain ⟨_, _, _, _, _, _, _, _, _, _, _, rfl, _⟩ := h; rfl) | (obtain ⟨_, _, _, _, _, _, _, _, _, _, _, _, rfl, _⟩ := h; rfl) | (obtain ⟨_, _, _, _, _, _, _, _, _, _, _, _, _, rfl, _⟩ := h; rfl)) (fun cdv A outer s H vs Q E hr h => ?_)
  obtain ⟨s0, q, a, B, G, ns, rfl, ga, l1, l2, O, hB, kq⟩ := h
  refine ⟨_, (pss_cons (ps_set (i := 2) sc_l_changed.nd rfl (.inl rfl) (pe_call G_l_draw (hr.mono (by decide)) rfl D_l_draw.mg D_l_draw.fn.kp D_l_draw.bd .nil pass0 (pa_cons (pv 0) (pa_cons pe_int pa_nil))))
      (pss_cons (ps_set (i := 3) sc_l_changed.nd rfl (.inl rfl) (pe_call G_l_draw (hr.mono (by decide)) rfl D_l_draw.mg D_l_draw.fn.kp D_l_draw.bd .nil pass0 (pa_cons (pv 0) (pa_cons (pe_callB (kLen (K := K)) (by rfl) Z.len_ PyProof.Rows.Boot.«len» (pa_cons (pv 1) pa_nil)) pa_nil))))
      (pss_cons (ps_if (pt_cmpR (kEq (K := K) hr.units) (pv 2) pe_int (nomark _)) (pss_one (ps_ret (pe_callTy (kLst (K := K)) (by rfl) Z.list_ PyProof.Rows.Boot.«list» (pa_cons (pv 1) pa_nil)))) pss_nil)
      (pss_cons (ps_if (pt_cmpR (kEq (K := K) hr.units) (pv 2) pe_int (nomark _)) (pss_one (ps_ret (pe_op (kAdd (K := K)) (pe_slice (kSl (K := K)) (pv 1) po_none (po_some (pv 3))) (pe_slice (kSl (K := K)) (pv 1) (po_some (pe_op (kAdd (K := K)) (pv 3) pe_int)) po_none)))) pss_nil)
      (pss_cons (ps_if (pt_cmpR (kEq (K := K) hr.units) (pv 2) pe_int (nomark _)) (pss_one (ps_ret (pe_op (kAdd (K := K)) (pv 1) (pe_tup (pa_cons pe_int pa_nil))))) pss_nil)
      (pss_cons (ps_if (pt_cmpR (kEq (K := K) hr.units) (pv 2) pe_int (nomark _)) (pss_one (ps_ret (pe_op (kAdd (K := K)) (pe_op (kAdd (K := K)) (pe_slice (kSl (K := K)) (pv 1) po_none (po_some (pv 3))) (pe_tup (pa_cons (pe_call G_l_any (hr.mono (by decide)) rfl D_l_any.mg D_l_any.fn.kp D_l_any.bd .nil pass0 (pa_cons (pv 0) pa_nil)) pa_nil))) (pe_slice (kSl (K := K)) (pv 1) (po_some (pe_op (kAdd (K := K)) (pv 3) pe_int)) po_none)))) pss_nil)
      (pss_cons (ps_if (pt_cmpR (kEq (K := K) hr.units) (pv 2) pe_int (nomark _)) (pss_one (ps_ret (pe_call G_l_any (hr.mono (by decide)) rfl D_l_any.mg D_l_any.fn.kp D_l_any.bd .nil pass0 (pa_cons (pv 0) pa_nil)))) pss_nil)
      (pss_one (ps_ret (pv 1)))))))))), ?_⟩
  refine ⟨_, rfl, s0, q, B, G, 10, rfl, O, by omega, by decide, by decide, fun wy H1 w0 w1 O1 => ?_⟩
  refine ⟨_, rfl, _, rfl, a, _, rfl, .inr (SqT.of (O1.sub _ _ ga)), s0, q, B + 1, G, _, rfl, O1, by omega, by simp; omega, ?_, fun at_ H2 a0 a1 O2 => ?_⟩
  · rw [List.length_map]
    exact Nat.lt_of_le_of_lt (show (ns.length : Int).natAbs ≤ 12 by omega) (by decide)
  have ta : TK G a 12 := ⟨_, ga, by simp; omega, fun x hx => by obtain ⟨z, _, rfl⟩ := List.mem_map.mp hx; exact ⟨_, .int z⟩⟩
  have O2' : Ov s0 q (B + 3) G H2 := O2.more (by omega)
  refine ⟨_, rfl, .inl ⟨rfl, _, rfl, ?_⟩⟩
  cases (decide (V.int wy = V.int 0)) with
  | true =>
    refine iteT ⟨_, rfl, a, _, rfl, .inr (SqT.of (O2.sub _ _ ga)), fun l hl => ?_⟩
    exact kq _ _ _ (Ex.new (O2.sub.free hl)) (.inl ⟨_, .lst upd_same, by decide⟩) (O2'.new hl)
  | false =>
  refine iteF ⟨_, rfl, .inl ⟨rfl, _, rfl, ?_⟩⟩
  cases (decide (V.int wy = V.int 1)) with
  | true =>
    refine iteT ⟨_, rfl, _, rfl, at_, rfl, slTK O2' ta fun b G1 H3 e1 tb O3 => ?_⟩
    refine ⟨_, rfl, _, rfl, .inl ⟨at_, 1, rfl, rfl, _, rfl, slTK (Q := fun y H2 => rPlus K (.ref b) y H2 _) O3 (ta.ex e1) fun c G2 H4 e2 tc O4 => catTK O4 (tb.ex e2) tc (by decide) fun d G3 H5 e3 td O5 => ?_⟩⟩
    exact kq _ _ _ ((e1.trans e2).trans e3) (td.any (by decide)) O5
  | false =>
  refine iteF ⟨_, rfl, .inl ⟨rfl, _, rfl, ?_⟩⟩
  cases (decide (V.int wy = V.int 2)) with
  | true =>
    refine iteT ⟨_, rfl, by show 1 ≤ sizeLine; decide, fun p hp => ?_⟩
    have e1 := Ex.new (o := .tup [.int 0]) (O2.sub.free hp)
    refine catTK (m := 1) (O2'.new hp) (ta.ex e1) ⟨_, upd_same, by decide, fun x hx => by simp at hx; subst hx; exact ⟨_, .int _⟩⟩ (by decide) fun d G3 H5 e3 td O5 => ?_
    exact kq _ _ _ (e1.trans e3) (td.any (by decide)) O5
  | false =>
  refine iteF ⟨_, rfl, .inl ⟨rfl, _, rfl, ?_⟩⟩
  cases (decide (V.int wy = V.int 3)) with
  | true =>
    refine iteT ⟨_, rfl, _, rfl, at_, rfl, slTK O2 ta fun b G1 H3 e1 tb O3 => ?_⟩
    refine ⟨_, rfl, s0, q, _, G1, rfl, O3, by omega, fun v G2 H4 e2 av O4 => ⟨by show 1 ≤ sizeLine; decide, fun p hp => ?_⟩⟩
    have e3 := Ex.new (o := .tup [v]) (O4.sub.free hp)
    refine catTK (m := 1) (O4.new hp) ((tb.ex e2).ex e3) ⟨_, upd_same, Nat.le_refl 1, fun x hx => ?_⟩ (by decide) fun d G3 H5 e4 td O5 => ?_
    · rw [List.mem_singleton.mp hx]
      obtain ⟨m, k⟩ := av.kd
      exact ⟨m, k.ex e3⟩
    refine ⟨_, rfl, _, rfl, .inl ⟨at_, 1, rfl, rfl, _, rfl, slTK (Q := fun y H2 => rPlus K (.ref d) y H2 _) O5 (ta.ex (((e1.trans e2).trans e3).trans e4)) fun c G4 H6 e5 tc O6 => catTK O6 (td.ex e5) tc (by decide) fun d G5 H7 e6 td O7 => ?_⟩⟩
    exact kq _ _ _ (((((e1.trans e2).trans e3).trans e4).trans e5).trans e6) (td.any (by decide)) O7
  | false =>
  refine iteF ⟨_, rfl, .inl ⟨rfl, _, rfl, ?_⟩⟩
  cases (decide (V.int wy = V.int 4)) with
  | true =>
    refine iteT ⟨_, rfl, s0, q, _, G, rfl, O2, by omega, fun v G2 H4 e2 av O4 => ?_⟩
    exact kq _ _ _ e2 av O4
  | false =>
  exact iteF ⟨_, rfl, kq _ _ _ (Ex.refl G) (ta.any (by decide)) O2'⟩
end
end K1

set_option maxHeartbeats 4000000
namespace K1
open PySem PySem.Spec PyProof.Rows L2 Hg
def sp_l_forms_right (K : PySem.W.Frag) : Sp := fun vs H Q _ => ∃ (s q : Addr) (B : Nat) (G : Hp), vs = [.ref s] ∧ Ov s q B G H ∧ B ≤ 2000 ∧ ∀ H', Ov s q (B + 100) G H' → Q (.bl true) H'
theorem sum_zip (xs ys : List Int) : (List.zipWith (· * ·) xs ys).sum = dotI xs ys := rfl
theorem nth {xs : List Int} {i : Nat} (h : i < xs.length) : atI (xs.map V.int) (0 + (i : Int)) = some (.int (xs.getD i 0)) := by
  rw [Int.zero_add]
  refine atI_nat ?_
  rw [List.getElem?_map, List.getD_eq_getElem?_getD, List.getElem?_eq_getElem h]
  rfl
theorem num_big {ns : List Int} (h : ∀ z ∈ ns, num z) : ∀ z ∈ ns, big z := fun z hz => (h z hz).big
section
variable {P : Program} {w : World} {K : PySem.W.Frag} {mg : Str → Option Value} {base : Heap}
theorem ok_l_forms_right {f : Addr} {fd : FuncData} (F : DefK K mg "_law_forms_right" st_l_forms_right ["_law_stream"] f fd) (Z : Zs mg) {f_is_form : Addr} {fd_is_form : FuncData} (D_is_form : DefK K mg "is_form" st_is_form ["thing", "size"] f_is_form fd_is_form) (G_is_form : FnOk P w K mg base CX0 2 f_is_form fd_is_form ["thing", "size"] (sp_is_form K)) {f_dot : Addr} {fd_dot : FuncData} (D_dot : DefK K mg "dot" st_dot ["form", "vector"] f_dot fd_dot) (G_dot : FnOk P w K mg base CX0 1 f_dot fd_dot ["form", "vector"] (sp_dot K)) {f_add_forms : Addr} {fd_add_forms : FuncData} (D_add_forms : DefK K mg "add_forms" st_add_forms ["one", "other"] f_add_forms fd_add_forms) (G_add_forms : FnOk P w K mg base CX0 1 f_add_forms fd_add_forms ["one", "other"] (sp_add_forms K)) {f_scale_form : Addr} {fd_scale_form : FuncData} (D_scale_form : DefK K mg "scale_form" st_scale_form ["factor", "form"] f_scale_form fd_scale_form) (G_scale_form : FnOk P w K mg base CX0 1 f_scale_form fd_scale_form ["factor", "form"] (sp_scale_form K)) {f_l_draw : Addr} {fd_l_draw : FuncData} (D_l_draw : DefK K mg "_law_draw" st_l_draw ["_law_stream", "_law_count"] f_l_draw fd_l_draw) (G_l_draw : FnOk P w K mg base CX0 1 f_l_draw fd_l_draw ["_law_stream", "_law_count"] (sp_l_draw K)) {f_l_integer : Addr} {fd_l_integer : FuncData} (D_l_integer : DefK K mg "_law_integer" st_l_integer ["_law_thing"] f_l_integer fd_l_integer) (G_l_integer : FnOk P w K mg base CX0 1 f_l_integer fd_l_integer ["_law_thing"] (sp_l_integer K)) {f_l_number : Addr} {fd_l_number : FuncData} (D_l_number : DefK K mg "_law_number" st_l_number ["_law_stream"] f_l_number fd_l_number) (G_l_number : FnOk P w K mg base CX0 2 f_l_number fd_l_number ["_law_stream"] (sp_l_number K)) {f_l_changed : Addr} {fd_l_changed : FuncData} (D_l_changed : DefK K mg "_law_changed" st_l_changed ["_law_stream", "_law_form"] f_l_changed fd_l_changed) (G_l_changed : FnOk P w K mg base CX0 3 f_l_changed fd_l_changed ["_law_stream", "_law_form"] (sp_l_changed K)) :
    FnOk P w K mg base CX0 4 f fd ["_law_stream"] (sp_l_forms_right K) := by
  refine F.fn.ok sc_l_forms_right (fun vs H Q E h => by first | (obtain ⟨_, rfl, _⟩ := h; rfl) | (obtain ⟨_, _, rfl, _⟩ := h; rfl) | (obtain ⟨_, _, _, rfl, _⟩ := h; rfl) | (obtain ⟨_, _, _, _, rfl, _⟩ := h; rfl) | (obtain ⟨_, _, _, _, _, rfl, _⟩ := h; rfl) | (obtain ⟨_, _, _, _, _, _, rfl, _⟩ := h; rfl) | (obtain ⟨_, _, _, _, _, _, _, rfl, _⟩ := h; rfl) | (obtain ⟨_, _, _, _, _, _, _, _, rfl, _⟩ := h; rfl) | (obtain ⟨_, _, _, _, _, _, _, _, _, rfl, _⟩ := h; rfl) | (obtain ⟨_, _, _, _, _, _, _, _, _, _, rfl, _⟩ := h; rfl) | (obtain ⟨_, _, _, _, _, _, _, _, _, _, _, rfl, _⟩ := h; rfl) | (obtain ⟨_, _, _, _, _, _, _, _, _, _, _, _, rfl, _⟩ := h; rfl) | (obtain ⟨_, _, _, _, _, _, _, _, _, _, _, _, _, rfl, _⟩ := h; rfl)) (fun cdv A outer s H vs Q E hr h => ?_)
  obtain ⟨s0, q, B, G, rfl, O, hB, kq⟩ := h
  refine ⟨_, (pss_cons (ps_set (i := 1) sc_l_forms_right.nd rfl (.inl rfl) (pe_op (kAdd (K := K)) pe_int (pe_call G_l_draw (hr.mono (by decide)) rfl D_l_draw.mg D_l_draw.fn.kp D_l_draw.bd .nil pass0 (pa_cons (pv 0) (pa_cons pe_int pa_nil)))))
      (pss_cons (ps_set (i := 3) sc_l_forms_right.nd rfl (.inr rfl) (pe_callTy (kTup (K := K)) (by rfl) Z.tuple_ PyProof.Rows.Boot.«tuple» (pa_cons (pe_lc (own := [("_law_k", 2)]) rfl sc_l_forms_right.nd (pi_range1 (by rfl) Z.range_ (pa_cons (pv 1) pa_nil)) (blkOk_by (N := ["_law_stream", "_law_size", "_law_k", "_law_one", "_law_other", "_law_vector", "_law_factor", "_law_thing", "_law_due", "_law_found", "_law_given", "_law_handed", "_law_entry"]) (sc := defScope st_l_forms_right) (by decide +kernel)) (fun _ _ _ _ _ => (pg_name (i := 2) sc_l_forms_right.nd rfl (.inl rfl))) (fun _ _ _ _ _ => pts_nil) (fun _ _ _ _ _ => (pe_op op_sub (pe_call G_l_draw (hr.mono (by decide)) rfl D_l_draw.mg D_l_draw.fn.kp D_l_draw.bd .nil pass0 (pa_cons (pv 0) (pa_cons pe_int pa_nil))) pe_int))) pa_nil)))
      (pss_cons (ps_set (i := 4) sc_l_forms_right.nd rfl (.inr rfl) (pe_callTy (kTup (K := K)) (by rfl) Z.tuple_ PyProof.Rows.Boot.«tuple» (pa_cons (pe_lc (own := [("_law_k", 2)]) rfl sc_l_forms_right.nd (pi_range1 (by rfl) Z.range_ (pa_cons (pv 1) pa_nil)) (blkOk_by (N := ["_law_stream", "_law_size", "_law_k", "_law_one", "_law_other", "_law_vector", "_law_factor", "_law_thing", "_law_due", "_law_found", "_law_given", "_law_handed", "_law_entry"]) (sc := defScope st_l_forms_right) (by decide +kernel)) (fun _ _ _ _ _ => (pg_name (i := 2) sc_l_forms_right.nd rfl (.inl rfl))) (fun _ _ _ _ _ => pts_nil) (fun _ _ _ _ _ => (pe_op op_sub (pe_call G_l_draw (hr.mono (by decide)) rfl D_l_draw.mg D_l_draw.fn.kp D_l_draw.bd .nil pass0 (pa_cons (pv 0) (pa_cons pe_int pa_nil))) pe_int))) pa_nil)))
      (pss_cons (ps_set (i := 5) sc_l_forms_right.nd rfl (.inr rfl) (pe_callTy (kTup (K := K)) (by rfl) Z.tuple_ PyProof.Rows.Boot.«tuple» (pa_cons (pe_lc (own := [("_law_k", 2)]) rfl sc_l_forms_right.nd (pi_range1 (by rfl) Z.range_ (pa_cons (pv 1) pa_nil)) (blkOk_by (N := ["_law_stream", "_law_size", "_law_k", "_law_one", "_law_other", "_law_vector", "_law_factor", "_law_thing", "_law_due", "_law_found", "_law_given", "_law_handed", "_law_entry"]) (sc := defScope st_l_forms_right) (by decide +kernel)) (fun _ _ _ _ _ => (pg_name (i := 2) sc_l_forms_right.nd rfl (.inl rfl))) (fun _ _ _ _ _ => pts_nil) (fun _ _ _ _ _ => (pe_call G_l_number (hr.mono (by decide)) rfl D_l_number.mg D_l_number.fn.kp D_l_number.bd .nil pass0 (pa_cons (pv 0) pa_nil)))) pa_nil)))
      (pss_cons (ps_set (i := 6) sc_l_forms_right.nd rfl (.inr rfl) (pe_call G_l_number (hr.mono (by decide)) rfl D_l_number.mg D_l_number.fn.kp D_l_number.bd .nil pass0 (pa_cons (pv 0) pa_nil)))
      (pss_cons (ps_for PassesOwn.never rfl (pi_range1 (by rfl) Z.range_ (pa_cons pe_int pa_nil)) (pg_name (i := 2) sc_l_forms_right.nd rfl (.inl rfl)) (pss_cons (ps_set (i := 7) sc_l_forms_right.nd rfl (.inl rfl) (pe_call G_l_changed (hr.mono (by decide)) rfl D_l_changed.mg D_l_changed.fn.kp D_l_changed.bd .nil pass0 (pa_cons (pv 0) (pa_cons (pv 3) pa_nil))))
      (pss_cons (ps_set (i := 8) sc_l_forms_right.nd rfl (.inl rfl) (pe_and (pe_callB (kIsi (K := K)) (by rfl) Z.isinstance_ PyProof.Rows.Boot.«isinstance» (pa_cons (pv 7) (pa_cons (pe_bltn (v := .ty "tuple") (by rfl) Z.tuple_ PyProof.Rows.Boot.«tuple» rfl) pa_nil))) (pe_and (pe_cmpR (kEq (K := K) hr.units) (pe_callB (kLen (K := K)) (by rfl) Z.len_ PyProof.Rows.Boot.«len» (pa_cons (pv 7) pa_nil)) (pv 1) (nomark _)) (pe_one (pe_callB (kAll (K := K) rfl) (by rfl) Z.all_ PyProof.Rows.Boot.«all» (pa_cons (pe_lc (own := [("_law_entry", 12)]) rfl sc_l_forms_right.nd (kSeq (K := K) (pv 7)) (blkOk_by (N := ["_law_stream", "_law_size", "_law_k", "_law_one", "_law_other", "_law_vector", "_law_factor", "_law_thing", "_law_due", "_law_found", "_law_given", "_law_handed", "_law_entry"]) (sc := defScope st_l_forms_right) (by decide +kernel)) (fun _ _ _ _ _ => (pg_name (i := 12) sc_l_forms_right.nd rfl (.inl rfl))) (fun _ _ _ _ _ => pts_nil) (fun _ _ _ _ _ => (pe_call G_l_integer (hr.mono (by decide)) rfl D_l_integer.mg D_l_integer.fn.kp D_l_integer.bd .nil pass0 (pa_cons (pv 12) pa_nil)))) pa_nil))))))
      (pss_cons (ps_set (i := 9) sc_l_forms_right.nd rfl (.inl rfl) (pe_call G_is_form (hr.mono (by decide)) rfl D_is_form.mg D_is_form.fn.kp D_is_form.bd .nil pass0 (pa_cons (pv 7) (pa_cons (pv 1) pa_nil))))
      (pss_one (ps_if (PW.pt (pw_or (pt_not (pt_val (pe_callB (kIsi (K := K)) (by rfl) Z.isinstance_ PyProof.Rows.Boot.«isinstance» (pa_cons (pv 9) (pa_cons (pe_bltn (v := .ty "bool") (by rfl) Z.bool_ PyProof.Rows.Boot.«bool» rfl) pa_nil))))) (pw_or1 (pt_cmpR (kNe (K := K) hr.units) (pv 9) (pv 8) (nomark _))))) (pss_one (ps_ret pe_bl)) pss_nil))))))
      (pss_cons (ps_set (i := 10) sc_l_forms_right.nd rfl (.inl rfl) (pe_ix (kIx (K := K)) (pe_lst (pa_cons (pv 5) (pa_cons (pe_callTy (kLst (K := K)) (by rfl) Z.list_ PyProof.Rows.Boot.«list» (pa_cons (pv 5) pa_nil)) pa_nil))) (pe_call G_l_draw (hr.mono (by decide)) rfl D_l_draw.mg D_l_draw.fn.kp D_l_draw.bd .nil pass0 (pa_cons (pv 0) (pa_cons pe_int pa_nil))) (fun _ _ => rfl)))
      (pss_cons (ps_set (i := 9) sc_l_forms_right.nd rfl (.inl rfl) (pe_call G_dot (hr.mono (by decide)) rfl D_dot.mg D_dot.fn.kp D_dot.bd .nil pass0 (pa_cons (pv 3) (pa_cons (pv 10) pa_nil))))
      (pss_cons (ps_if (PW.pt (pw_or (pt_not (pt_val (pe_call G_l_integer (hr.mono (by decide)) rfl D_l_integer.mg D_l_integer.fn.kp D_l_integer.bd .nil pass0 (pa_cons (pv 9) pa_nil)))) (pw_or1 (pt_cmpR (kNe (K := K) hr.units) (pv 9) (pe_callB (kSum (K := K) rfl) (by rfl) Z.sum_ PyProof.Rows.Boot.«sum» (pa_cons (pe_lc (own := [("_law_k", 2)]) rfl sc_l_forms_right.nd (pi_range1 (by rfl) Z.range_ (pa_cons (pv 1) pa_nil)) (blkOk_by (N := ["_law_stream", "_law_size", "_law_k", "_law_one", "_law_other", "_law_vector", "_law_factor", "_law_thing", "_law_due", "_law_found", "_law_given", "_law_handed", "_law_entry"]) (sc := defScope st_l_forms_right) (by decide +kernel)) (fun _ _ _ _ _ => (pg_name (i := 2) sc_l_forms_right.nd rfl (.inl rfl))) (fun _ _ _ _ _ => pts_nil) (fun _ _ _ _ _ => (pe_op oMul (pe_ix (kIx (K := K)) (pv 3) (pv 2) (fun _ _ => rfl)) (pe_ix (kIx (K := K)) (pv 5) (pv 2) (fun _ _ => rfl))))) pa_nil)) (nomark _))))) (pss_one (ps_ret pe_bl)) pss_nil)
      (pss_cons (ps_set (i := 11) sc_l_forms_right.nd rfl (.inl rfl) (pe_ix (kIx (K := K)) (pe_lst (pa_cons (pv 4) (pa_cons (pe_callTy (kLst (K := K)) (by rfl) Z.list_ PyProof.Rows.Boot.«list» (pa_cons (pv 4) pa_nil)) pa_nil))) (pe_call G_l_draw (hr.mono (by decide)) rfl D_l_draw.mg D_l_draw.fn.kp D_l_draw.bd .nil pass0 (pa_cons (pv 0) (pa_cons pe_int pa_nil))) (fun _ _ => rfl)))
      (pss_cons (ps_if (pt_cmpR (kNe (K := K) hr.units) (pe_call G_add_forms (hr.mono (by decide)) rfl D_add_forms.mg D_add_forms.fn.kp D_add_forms.bd .nil pass0 (pa_cons (pv 11) (pa_cons (pv 3) pa_nil))) (pe_callTy (kTup (K := K)) (by rfl) Z.tuple_ PyProof.Rows.Boot.«tuple» (pa_cons (pe_lc (own := [("_law_k", 2)]) rfl sc_l_forms_right.nd (pi_range1 (by rfl) Z.range_ (pa_cons (pv 1) pa_nil)) (blkOk_by (N := ["_law_stream", "_law_size", "_law_k", "_law_one", "_law_other", "_law_vector", "_law_factor", "_law_thing", "_law_due", "_law_found", "_law_given", "_law_handed", "_law_entry"]) (sc := defScope st_l_forms_right) (by decide +kernel)) (fun _ _ _ _ _ => (pg_name (i := 2) sc_l_forms_right.nd rfl (.inl rfl))) (fun _ _ _ _ _ => pts_nil) (fun _ _ _ _ _ => (pe_op (kAdd (K := K)) (pe_ix (kIx (K := K)) (pv 3) (pv 2) (fun _ _ => rfl)) (pe_ix (kIx (K := K)) (pv 4) (pv 2) (fun _ _ => rfl))))) pa_nil)) (nomark _)) (pss_one (ps_ret pe_bl)) pss_nil)
      (pss_cons (ps_if (pt_cmpR (kNe (K := K) hr.units) (pe_call G_scale_form (hr.mono (by decide)) rfl D_scale_form.mg D_scale_form.fn.kp D_scale_form.bd .nil pass0 (pa_cons (pv 6) (pa_cons (pv 11) pa_nil))) (pe_callTy (kTup (K := K)) (by rfl) Z.tuple_ PyProof.Rows.Boot.«tuple» (pa_cons (pe_lc (own := [("_law_entry", 12)]) rfl sc_l_forms_right.nd (kSeq (K := K) (pv 4)) (blkOk_by (N := ["_law_stream", "_law_size", "_law_k", "_law_one", "_law_other", "_law_vector", "_law_factor", "_law_thing", "_law_due", "_law_found", "_law_given", "_law_handed", "_law_entry"]) (sc := defScope st_l_forms_right) (by decide +kernel)) (fun _ _ _ _ _ => (pg_name (i := 12) sc_l_forms_right.nd rfl (.inl rfl))) (fun _ _ _ _ _ => pts_nil) (fun _ _ _ _ _ => (pe_op oMul (pv 6) (pv 12)))) pa_nil)) (nomark _)) (pss_one (ps_ret pe_bl)) pss_nil)
      (pss_one (ps_ret (pe_and (pe_cmpR (kEq (K := K) hr.units) (pe_callTy (kTup (K := K)) (by rfl) Z.tuple_ PyProof.Rows.Boot.«tuple» (pa_cons (pv 11) pa_nil)) (pv 4) (nomark _)) (pe_one (pe_cmpR (kEq (K := K) hr.units) (pe_callTy (kTup (K := K)) (by rfl) Z.tuple_ PyProof.Rows.Boot.«tuple» (pa_cons (pv 10) pa_nil)) (pv 5) (nomark _)))))))))))))))))), ?_⟩
  -- size
  refine ⟨_, rfl, s0, q, B, G, 12, rfl, O, by omega, by decide, by decide, fun r H1 r0 r1 O1 => .inl ⟨1, r, rfl, rfl, ?_⟩⟩
  obtain ⟨n, rfl⟩ := Int.eq_ofNat_of_zero_le r0
  obtain ⟨sz, hsz⟩ : ∃ sz : Nat, sz = n + 1 := ⟨_, rfl⟩
  have esz : (1 : Int) + (n : Int) = (sz : Int) := by omega
  have s1 : 1 ≤ sz := by omega
  have s2 : sz ≤ 12 := by omega
  show gName 1 (V.int (1 + (n : Int))) _ _ _
  rw [esz]
  clear hsz esz r0 r1
  -- one
  refine ⟨_, rfl, sz, rfl, by omega, by omega, fun D1 hD1 => ?_⟩
  refine lc_strm (walk_range (lo := 0) (n := sz)) (c := 1) O1 hD1 (fun i acc => ∃ ns : List Int, acc = ns.map V.int ∧ ns.length = i ∧ ∀ z ∈ ns, num z) ⟨[], rfl, rfl, fun z hz => nomatch hz⟩ (fun i acc _ p => by obtain ⟨ns, rfl, e, _⟩ := p; simp [e]) (by omega) (fun _ _ _ _ _ => trivial) (fun i x Hc Hy acc hi pa oc y Qe Qn qe qn => ?_) (fun H2 acc pa O2 => ?_)
  · obtain ⟨rfl, rfl⟩ := y
    obtain ⟨ns, rfl, hns, hnum⟩ := pa
    refine ⟨rfl, _, rfl, s0, q, _, _, 20001, rfl, oc, by omega, by decide, by decide, fun z H5 z0 z1 O5 => ⟨z, 10000, rfl, rfl, ?_⟩⟩
    refine qe _ _ ⟨ns ++ [z - 10000], by simp, by simp [hns], fun u hu => ?_⟩ (O5.more (by omega))
    rcases List.mem_append.mp hu with h | h
    · exact hnum u h
    · rw [List.mem_singleton.mp h]
      show (z - 10000).natAbs ≤ _
      omega
  obtain ⟨fs, rfl, lf, nf⟩ := pa
  refine ⟨D1, _, rfl, .inl ⟨SqL.of (O2.sub _ _ upd_same), fun t1 ht1 => ?_⟩⟩
  have O3 := (O2.weak (Ex.new (O1.sub.free hD1))).new (o := .tup (fs.map V.int)) ht1
  have eG1 : Ex G (upd G t1 (.tup (fs.map V.int))) := Ex.new ((O2.weak (Ex.new (O1.sub.free hD1))).sub.free ht1)
  have g1 : upd G t1 (.tup (fs.map V.int)) t1 = some (.tup (fs.map V.int)) := upd_same
  generalize upd G t1 (.tup (fs.map V.int)) = G1 at O3 eG1 g1
  generalize upd H2 t1 (.tup (fs.map V.int)) = H3 at O3
  clear O1 O2
  -- other
  refine ⟨_, rfl, sz, rfl, by omega, by omega, fun D2 hD2 => ?_⟩
  refine lc_strm (walk_range (lo := 0) (n := sz)) (c := 1) O3 hD2 (fun i acc => ∃ ns : List Int, acc = ns.map V.int ∧ ns.length = i ∧ ∀ z ∈ ns, num z) ⟨[], rfl, rfl, fun z hz => nomatch hz⟩ (fun i acc _ p => by obtain ⟨ns, rfl, e, _⟩ := p; simp [e]) (by omega) (fun _ _ _ _ _ => trivial) (fun i x Hc Hy acc hi pa oc y Qe Qn qe qn => ?_) (fun H4 acc pa O4 => ?_)
  · obtain ⟨rfl, rfl⟩ := y
    obtain ⟨ns, rfl, hns, hnum⟩ := pa
    refine ⟨rfl, _, rfl, s0, q, _, _, 21, rfl, oc, by omega, by decide, by decide, fun z H5 z0 z1 O5 => ⟨z, 10, rfl, rfl, ?_⟩⟩
    refine qe _ _ ⟨ns ++ [z - 10], by simp, by simp [hns], fun u hu => ?_⟩ (O5.more (by omega))
    rcases List.mem_append.mp hu with h | h
    · exact hnum u h
    · rw [List.mem_singleton.mp h]
      show (z - 10).natAbs ≤ _
      omega
  obtain ⟨os, rfl, lo, no⟩ := pa
  refine ⟨D2, _, rfl, .inl ⟨SqL.of (O4.sub _ _ upd_same), fun t2 ht2 => ?_⟩⟩
  have O5 := (O4.weak (Ex.new (O3.sub.free hD2))).new (o := .tup (os.map V.int)) ht2
  have eG2 : Ex G1 (upd G1 t2 (.tup (os.map V.int))) := Ex.new ((O4.weak (Ex.new (O3.sub.free hD2))).sub.free ht2)
  have g2 : upd G1 t2 (.tup (os.map V.int)) t2 = some (.tup (os.map V.int)) := upd_same
  generalize upd G1 t2 (.tup (os.map V.int)) = G2 at O5 eG2 g2
  generalize upd H4 t2 (.tup (os.map V.int)) = H5 at O5
  clear O3 O4
  -- vector
  refine ⟨_, rfl, sz, rfl, by omega, by omega, fun D3 hD3 => ?_⟩
  refine lc_strm (walk_range (lo := 0) (n := sz)) (c := 4) O5 hD3 (fun i acc => ∃ ns : List Int, acc = ns.map V.int ∧ ns.length = i ∧ ∀ z ∈ ns, num z) ⟨[], rfl, rfl, fun z hz => nomatch hz⟩ (fun i acc _ p => by obtain ⟨ns, rfl, e, _⟩ := p; simp [e]) (by omega) (fun _ _ _ _ _ => trivial) (fun i x Hc Hy acc hi pa oc y Qe Qn qe qn => ?_) (fun H6 acc pa O6 => ?_)
  · obtain ⟨rfl, rfl⟩ := y
    obtain ⟨ns, rfl, hns, hnum⟩ := pa
    refine ⟨rfl, _, rfl, s0, q, _, _, rfl, oc, by omega, fun z H5 hz O5 => ?_⟩
    refine qe _ _ ⟨ns ++ [z], by simp, by simp [hns], fun u hu => ?_⟩ (O5.more (by omega))
    rcases List.mem_append.mp hu with h | h
    · exact hnum u h
    · rw [List.mem_singleton.mp h]
      exact hz
  obtain ⟨us, rfl, lu, nu⟩ := pa
  refine ⟨D3, _, rfl, .inl ⟨SqL.of (O6.sub _ _ upd_same), fun t3 ht3 => ?_⟩⟩
  have O7 := (O6.weak (Ex.new (O5.sub.free hD3))).new (o := .tup (us.map V.int)) ht3
  have eG3 : Ex G2 (upd G2 t3 (.tup (us.map V.int))) := Ex.new ((O6.weak (Ex.new (O5.sub.free hD3))).sub.free ht3)
  have g3 : upd G2 t3 (.tup (us.map V.int)) t3 = some (.tup (us.map V.int)) := upd_same
  generalize upd G2 t3 (.tup (us.map V.int)) = G3 at O7 eG3 g3
  generalize upd H6 t3 (.tup (us.map V.int)) = H7 at O7
  clear O5 O6
  -- factor
  refine ⟨_, rfl, s0, q, _, _, rfl, O7, by omega, fun fac H8 hfac O8 => ?_⟩
  have g1' := eG3 _ _ (eG2 _ _ g1)
  have g2' := eG3 _ _ g2
  have eG : Ex G G3 := (eG1.trans eG2).trans eG3
  clear O7 g1 g2 eG1 eG2 eG3
  -- the four things
  refine ⟨4, rfl, by decide, by decide, for_it (walk_range (lo := 0) (n := 4)) (fun i σ H' => ∃ (v2 v7 v8 v9 : Option V) (G' : Hp), σ = [some (.ref s0), some (.int sz), v2, some (.ref t1), some (.ref t2), some (.ref t3), some (.int fac), v7, v8, v9, none, none, none] ∧ Ex G3 G' ∧ Ov s0 q (B + 80 + 3 * i) G' H')
    ⟨none, none, none, none, G3, rfl, Ex.refl _, O8.more (by omega)⟩ (fun _ _ _ _ _ => trivial) (fun i x σ H' H6 hi p y => ?_) (fun σ H' p => ?_)⟩
  · obtain ⟨v2, v7, v8, v9, G', rfl, eG', OO⟩ := p
    obtain ⟨rfl, rfl⟩ := y
    refine ⟨_, rfl, _, rfl, s0, q, t1, _, G', fs, rfl, eG' _ _ g1', by omega, by omega, OO, by omega, fun v G4 H9 e4 av O9 => ?_⟩
    dsimp only
    refine cut (fun σ' H' => ∃ b, σ' = [some (.ref s0), some (.int sz), some (.int (0 + (i : Int))), some (.ref t1), some (.ref t2), some (.ref t3), some (.int fac), some v, some (.bl b), v9, none, none, none] ∧ Ex H9 H' ∧ Frm H' v sz b) ?_ ?_
    · rintro σ' H10 ⟨b, rfl, e10, fr⟩
      refine ⟨_, rfl, _, rfl, v, sz, b, rfl, fr, fun H11 e11 => ?_⟩
      refine ⟨_, rfl, .bl b, .ty "bool", .type "bool", .type "bool", _, rfl, .ty "bool", (Kd.bl b).ty, kit_ty (kit_bool "bool" (Kd.bl (H := H11) b).mem), _, rfl, ?_⟩
      refine iteF ⟨_, rfl, _, rfl, .inl ⟨rfl, _, rfl, ?_⟩⟩
      have c' : (!decide (V.bl b = V.bl b)) = false := by simp
      rw [c']
      exact iteF ⟨_, _, _, _, G4, rfl, eG'.trans e4, ((O9.ex (e10.trans e11)).more (by omega))⟩
    · intro N hN
      rcases av with ⟨nm, kd, hn⟩ | ⟨a, xs, rfl, ha, hlen, hx⟩
      · have kd9 := kd.ex O9.sub
        have e : (nm == "tuple") = false := by simpa using hn
        refine ⟨_, rfl, v, .ty "tuple", .type nm, .type "tuple", _, rfl, .ty "tuple", kd9.ty, kit_ty (kit_tup nm kd9.mem), _, rfl, ?_⟩
        rw [e]
        exact iteF (hN _ _ ⟨false, rfl, Ex.refl _, .inl ⟨nm, kd9, hn, rfl⟩⟩)
      · have ha9 := O9.sub _ _ ha
        have kd9 : Kd H9 (.ref a) "tuple" := .tup ha9
        have hx9 : ∀ H, Ex H9 H → ∀ x ∈ xs, ∃ n, Kd H x n := fun H e x h => by obtain ⟨n, k⟩ := hx x h; exact ⟨n, k.ex (O9.sub.trans e)⟩
        refine ⟨_, rfl, .ref a, .ty "tuple", .type "tuple", .type "tuple", _, rfl, .ty "tuple", kd9.ty, kit_ty (kit_tup "tuple" kd9.mem), _, rfl, ?_⟩
        refine iteT ⟨_, rfl, a, xs, rfl, .inr (SqT.of ha9), _, rfl, .inl ⟨rfl, _, rfl, ?_⟩⟩
        by_cases c : (xs.length : Int) = sz
        · have c' : decide (V.int xs.length = V.int sz) = true := by simp [c]
          rw [c']
          refine iteT ⟨_, rfl, true, a, xs, rfl, SqK.tup ha9, fun D hD => ?_⟩
          refine lc_pure (walk_k (xs := xs)) hD (fun _ => true) (fun i => .bl (isI (xs.getD i .non))) (by omega) (fun _ e => e.seq (SqK.tup ha9)) (fun i x Hc Hy hi e y Qe Qn qe qn => ?_) (fun H1 ex hL => ?_)
          · obtain ⟨rfl, hxi⟩ := y
            obtain ⟨n, kx⟩ := hx9 _ e x (List.mem_of_getElem? hxi)
            refine ⟨rfl, _, rfl, x, n, rfl, kx, ?_⟩
            have ez : xs.getD i .non = x := by
              rw [List.getD_eq_getElem?_getD, hxi]
              rfl
            rw [ez] at qe
            exact qe rfl _ (Ex.refl _)
          · have hL' : H1 D = some (.lst ((xs.map isI).map V.bl)) := by
              rw [hL, picked_all]
              rw [map_range xs (fun x => V.bl (isI x)) _ (fun i x h => by rw [List.getD_eq_getElem?_getD, h]; rfl), List.map_map]
              rfl
            refine ⟨D, _, rfl, SqL.of hL', ?_⟩
            rw [List.all_map]
            refine hN _ _ ⟨_, rfl, ex, .inr ⟨a, xs, rfl, ex _ _ ha9, hlen, hx9 _ ex, ?_⟩⟩
            rw [decide_eq_true c, Bool.true_and]
            rfl
        · have c' : decide (V.int xs.length = V.int sz) = false := by simp [c]
          rw [c']
          refine iteF (hN _ _ ⟨_, rfl, Ex.refl _, .inr ⟨a, xs, rfl, ha9, hlen, hx9 _ (Ex.refl _), ?_⟩⟩)
          rw [decide_eq_false c, Bool.false_and]
  obtain ⟨v2, v7, v8, v9, G4, rfl, eG4, O9⟩ := p
  have h1 := eG4 _ _ g1'
  have h2 := eG4 _ _ g2'
  have h3 := eG4 _ _ g3
  -- given
  refine ⟨_, rfl, _, rfl, t3, _, rfl, .inr (SqT.of (O9.sub _ _ h3)), fun l hl => ⟨by show 2 ≤ sizeLine; decide, fun l2 hl2 => ?_⟩⟩
  have O10 := (O9.new (o := .lst (us.map V.int)) hl).new (o := .lst [.ref t3, .ref l]) hl2
  have e1 := Ex.new (o := .lst (us.map V.int)) (O9.sub.free hl)
  have e2 := Ex.new (o := .lst [.ref t3, .ref l]) ((O9.new (o := .lst (us.map V.int)) hl).sub.free hl2)
  refine ⟨_, rfl, s0, q, _, _, 2, rfl, O10, by omega, by decide, by decide, fun r H10 r0 r1 O11 => ?_⟩
  obtain ⟨v, hv, hm⟩ := menu (n := 2) r0 r1 (vs := [.ref t3, .ref l]) rfl
  have hgiv : ∃ (k : Bool) (ga : Addr), v = .ref ga ∧ SqK K k (upd (upd G4 l (.lst (us.map V.int))) l2 (.lst [.ref t3, .ref l])) ga (us.map V.int) := by
    simp only [List.mem_cons, List.not_mem_nil, or_false] at hm
    rcases hm with h | h
    · exact ⟨true, t3, h, SqK.tup (e2 _ _ (e1 _ _ h3))⟩
    · exact ⟨false, l, h, SqK.lst (e2 _ _ upd_same)⟩
  obtain ⟨kg, ga, rfl, hga⟩ := hgiv
  refine ixl (O11.sub _ _ upd_same) hv ?_
  have e12 := e1.trans e2
  have h1 := e12 _ _ h1
  have h2 := e12 _ _ h2
  have h3 := e12 _ _ h3
  generalize upd (upd G4 l (.lst (us.map V.int))) l2 (.lst [.ref t3, .ref l]) = G5 at O11 hga e12 h1 h2 h3
  have O12 := O11
  have eG5 := eG4.trans e12
  clear O9 O10 e1 e2 hm hv
  -- dot
  refine ⟨_, rfl, _, rfl, true, kg, t1, ga, fs, us, rfl, SqK.tup (O12.sub _ _ h1), O12.sub.seq hga, by omega, by omega, num_big nf, num_big nu, fun H11 e11 => ?_⟩
  refine ⟨_, rfl, _, _, rfl, .int _, _, rfl, iteF ⟨_, rfl, _, rfl, sz, rfl, by omega, by omega, fun D4 hD4 => ?_⟩⟩
  have O13 := O12.ex e11
  have hmin1 : min fs.length us.length = sz := by omega
  have hmin2 : min fs.length os.length = sz := by omega
  refine lc_pure (walk_range (lo := 0) (n := (sz : Int).toNat)) hD4 (fun _ => true) (fun i => .int (fs.getD i 0 * us.getD i 0)) (by omega) (fun _ _ => trivial) (fun i x Hc Hy hi e y Qe Qn qe qn => ?_) (fun H12 ex hL => ?_)
  · obtain ⟨rfl, rfl⟩ := y
    have hi' : i < sz := by omega
    have k1 := nth (xs := fs) (i := i) (by omega)
    have k2 := nth (xs := us) (i := i) (by omega)
    have m1 : fs.getD i 0 ∈ fs := by rw [List.getD_eq_getElem?_getD, List.getElem?_eq_getElem (show i < fs.length by omega)]; exact List.getElem_mem ..
    have m2 : us.getD i 0 ∈ us := by rw [List.getD_eq_getElem?_getD, List.getElem?_eq_getElem (show i < us.length by omega)]; exact List.getElem_mem ..
    refine ⟨rfl, _, rfl, _, rfl, ixt (e _ _ (O13.sub _ _ h1)) k1 ⟨_, rfl, _, rfl, ixt (e _ _ (O13.sub _ _ h3)) k2 ⟨_, _, rfl, rfl, big_mul (nf _ m1).big (nu _ m2).big, ?_⟩⟩⟩
    exact qe rfl _ (Ex.refl _)
  have hL' : H12 D4 = some (.lst ((List.zipWith (· * ·) fs us).map V.int)) := by
    rw [hL, picked_all, Int.toNat_natCast]
    rw [show sz = min fs.length us.length from hmin1.symm]
    rw [range_zip (by omega) (· * ·) _ (fun i x y h1 h2 => by rw [List.getD_eq_getElem?_getD, List.getD_eq_getElem?_getD, h1, h2]; rfl)]
  refine ⟨D4, _, rfl, SqL.of hL', .inl ⟨rfl, _, rfl, ?_⟩⟩
  have c' : (!decide (V.int (dotI fs us) = V.int (List.zipWith (· * ·) fs us).sum)) = false := by simp [dotI]
  rw [c']
  have O14 := O13.ex ex
  refine iteF ?_
  -- handed
  refine ⟨_, rfl, _, rfl, t2, _, rfl, .inr (SqT.of (O14.sub _ _ h2)), fun l3 hl3 => ⟨by show 2 ≤ sizeLine; decide, fun l4 hl4 => ?_⟩⟩
  have O15 := (O14.new (o := .lst (os.map V.int)) hl3).new (o := .lst [.ref t2, .ref l3]) hl4
  have e3 := Ex.new (o := .lst (os.map V.int)) (O14.sub.free hl3)
  have e4 := Ex.new (o := .lst [.ref t2, .ref l3]) ((O14.new (o := .lst (os.map V.int)) hl3).sub.free hl4)
  refine ⟨_, rfl, s0, q, _, _, 2, rfl, O15, by omega, by decide, by decide, fun r H10 r0 r1 O16 => ?_⟩
  obtain ⟨v, hv, hm⟩ := menu (n := 2) r0 r1 (vs := [.ref t2, .ref l3]) rfl
  have hhan : ∃ (k : Bool) (ha : Addr), v = .ref ha ∧ SqK K k (upd (upd G5 l3 (.lst (os.map V.int))) l4 (.lst [.ref t2, .ref l3])) ha (os.map V.int) := by
    simp only [List.mem_cons, List.not_mem_nil, or_false] at hm
    rcases hm with h | h
    · exact ⟨true, t2, h, SqK.tup (e4 _ _ (e3 _ _ h2))⟩
    · exact ⟨false, l3, h, SqK.lst (e4 _ _ upd_same)⟩
  obtain ⟨kh, ha, rfl, hha⟩ := hhan
  refine ixl (O16.sub _ _ upd_same) hv ?_
  have e34 := e3.trans e4
  have h1 := e34 _ _ h1
  have h2 := e34 _ _ h2
  have h3 := e34 _ _ h3
  have hga := e34.seq hga
  generalize upd (upd G5 l3 (.lst (os.map V.int))) l4 (.lst [.ref t2, .ref l3]) = G6 at O16 hga hha e34 h1 h2 h3
  have eG6 := eG5.trans e34
  clear O11 O12 O13 O14 O15 e3 e4 hm hv hL hL'
  -- add_forms
  refine ⟨_, rfl, _, rfl, kh, true, ha, t1, os, fs, rfl, O16.sub.seq hha, SqK.tup (O16.sub _ _ h1), by omega, by omega, fun H13 p1 e13 f13 g13 => ?_⟩
  have O17 := O16.ex e13
  refine ⟨_, rfl, sz, rfl, by omega, by omega, fun D5 hD5 => ?_⟩
  refine lc_pure (walk_range (lo := 0) (n := (sz : Int).toNat)) hD5 (fun _ => true) (fun i => .int (fs.getD i 0 + os.getD i 0)) (by omega) (fun _ _ => trivial) (fun i x Hc Hy hi e y Qe Qn qe qn => ?_) (fun H14 ex hL => ?_)
  · obtain ⟨rfl, rfl⟩ := y
    have hi' : i < sz := by omega
    have k1 := nth (xs := fs) (i := i) (by omega)
    have k2 := nth (xs := os) (i := i) (by omega)
    refine ⟨rfl, _, rfl, _, rfl, ixt (e _ _ (O17.sub _ _ h1)) k1 ⟨_, rfl, _, rfl, ixt (e _ _ (O17.sub _ _ h2)) k2 (.inl ⟨_, _, rfl, rfl, ?_⟩)⟩⟩
    exact qe rfl _ (Ex.refl _)
  have hL' : H14 D5 = some (.lst ((List.zipWith (· + ·) fs os).map V.int)) := by
    rw [hL, picked_all, Int.toNat_natCast]
    rw [show sz = min fs.length os.length from hmin2.symm]
    rw [range_zip (by omega) (· + ·) _ (fun i x y h1 h2 => by rw [List.getD_eq_getElem?_getD, List.getD_eq_getElem?_getD, h1, h2]; rfl)]
  refine ⟨D5, _, rfl, .inl ⟨SqL.of hL', fun t5 ht5 => ?_⟩⟩
  have e15 := Ex.new (o := .tup ((List.zipWith (· + ·) fs os).map V.int)) ht5
  refine .inr ⟨_, _, dp_t (SqT.of (e15 _ _ (ex _ _ g13))), dp_t (SqT.of upd_same), shaped_t _, shaped_t _, _, rfl, ?_⟩
  have hcomm : List.zipWith (· + ·) os fs = List.zipWith (· + ·) fs os := List.zipWith_comm_of_comm (fun x y => Int.add_comm x y) ..
  rw [eqv_t, hcomm, decide_eq_true rfl]
  have O18 := O17.ex (ex.trans e15)
  generalize upd H14 t5 (.tup ((List.zipWith (· + ·) fs os).map V.int)) = H15 at O18
  clear O16 O17 hL hL'
  refine iteF ?_
  -- scale_form
  refine ⟨_, rfl, _, rfl, kh, ha, fac, os, rfl, O18.sub.seq hha, by omega, hfac.big, num_big no, fun H16 p2 e16 f16 g16 => ?_⟩
  have O19 := O18.ex e16
  have ht2 : SqK K true H16 t2 (os.map V.int) := SqK.tup (O19.sub _ _ h2)
  refine ⟨_, rfl, true, t2, _, rfl, ht2, fun D6 hD6 => ?_⟩
  refine lc_pure (walk_k (xs := os.map V.int)) hD6 (fun _ => true) (fun i => .int (fac * os.getD i 0)) (by simp; omega) (fun _ e => e.seq ht2) (fun i x Hc Hy hi e y Qe Qn qe qn => ?_) (fun H17 ex hL => ?_)
  · obtain ⟨rfl, hx⟩ := y
    obtain ⟨z1, hz1, rfl⟩ := ints_at hx
    have e1 : os.getD i 0 = z1 := by rw [List.getD_eq_getElem?_getD, hz1]; rfl
    rw [e1] at qe
    exact ⟨rfl, _, rfl, _, rfl, fac, z1, rfl, rfl, big_mul hfac.big (no _ (List.mem_of_getElem? hz1)).big, qe rfl _ (Ex.refl _)⟩
  have hL' : H17 D6 = some (.lst ((os.map (fac * ·)).map V.int)) := by
    rw [hL, picked_all, List.length_map, map_range os (fun x => V.int (fac * x)) _ (fun i x h => by rw [List.getD_eq_getElem?_getD, h]; rfl), List.map_map]
    rfl
  refine ⟨D6, _, rfl, .inl ⟨SqL.of hL', fun t6 ht6 => ?_⟩⟩
  have e17 := Ex.new (o := .tup ((os.map (fac * ·)).map V.int)) ht6
  refine .inr ⟨_, _, dp_t (SqT.of (e17 _ _ (ex _ _ g16))), dp_t (SqT.of upd_same), shaped_t _, shaped_t _, _, rfl, ?_⟩
  rw [eqv_t, decide_eq_true rfl]
  have O20 := O19.ex (ex.trans e17)
  generalize upd H17 t6 (.tup ((os.map (fac * ·)).map V.int)) = H18 at O20
  refine iteF ?_
  -- what was passed stays
  have tup_of : ∀ {k : Bool} {a : Addr} {ns : List Int} {H : Hp} {Qd : VK}, SqK K k H a (ns.map V.int) → (∀ b H', Ex H H' → SqK K true H' b (ns.map V.int) → Qd (.ref b) H') → rTupK K [.ref a] H Qd := by
    intro k a ns H Qd h kq
    cases k with
    | true => exact ⟨a, _, rfl, .inr ⟨h, kq a H (Ex.refl H) h⟩⟩
    | false => exact ⟨a, _, rfl, .inl ⟨h, fun l hl => kq l _ (Ex.new hl) (SqK.tup upd_same)⟩⟩
  refine ⟨_, rfl, ?_⟩
  unfold tNil
  refine tup_of (O20.sub.seq hha) fun b1 H19 e19 hb1 => ?_
  have O21 := O20.ex e19
  refine ⟨_, rfl, .inr ⟨_, _, dp_t hb1, dp_t (SqT.of (O21.sub _ _ h2)), shaped_t _, shaped_t _, _, rfl, ?_⟩⟩
  rw [eqv_t, decide_eq_true rfl]
  refine iteT ⟨_, rfl, ?_⟩
  dsimp only
  refine tup_of (O21.sub.seq hga) fun b2 H20 e20 hb2 => ?_
  have O22 := O21.ex e20
  refine ⟨_, rfl, .inr ⟨_, _, dp_t hb2, dp_t (SqT.of (O22.sub _ _ h3)), shaped_t _, shaped_t _, ?_⟩⟩
  rw [eqv_t, decide_eq_true rfl]
  exact kq _ ((O22.weak (eG.trans eG6)).more (by omega))
end
end K1

set_option maxHeartbeats 4000000
namespace K1
open PySem PySem.Spec PyProof.Rows L2 Hg
def sp_law (K : PySem.W.Frag) : Sp := fun vs H Q _ => ∃ (a : Addr) (ns : List Int), vs = [.ref a] ∧ SqL K H a (ns.map V.int) ∧ ∀ H', Q (.bl true) H'
section
variable {P : Program} {w : World} {K : PySem.W.Frag} {mg : Str → Option Value} {base : Heap}
theorem ok_law {f : Addr} {fd : FuncData} (F : DefK K mg "law" st_law ["_law_script"] f fd) (Z : Zs mg) {f_l_divisors_right : Addr} {fd_l_divisors_right : FuncData} (D_l_divisors_right : DefK K mg "_law_divisors_right" st_l_divisors_right ["_law_stream"] f_l_divisors_right fd_l_divisors_right) (G_l_divisors_right : FnOk P w K mg base CX0 3 f_l_divisors_right fd_l_divisors_right ["_law_stream"] (sp_l_divisors_right K)) {f_l_fractions_right : Addr} {fd_l_fractions_right : FuncData} (D_l_fractions_right : DefK K mg "_law_fractions_right" st_l_fractions_right ["_law_stream"] f_l_fractions_right fd_l_fractions_right) (G_l_fractions_right : FnOk P w K mg base CX0 5 f_l_fractions_right fd_l_fractions_right ["_law_stream"] (sp_l_fractions_right K)) {f_l_forms_right : Addr} {fd_l_forms_right : FuncData} (D_l_forms_right : DefK K mg "_law_forms_right" st_l_forms_right ["_law_stream"] f_l_forms_right fd_l_forms_right) (G_l_forms_right : FnOk P w K mg base CX0 4 f_l_forms_right fd_l_forms_right ["_law_stream"] (sp_l_forms_right K)) :
    FnOk P w K mg base CX0 6 f fd ["_law_script"] (sp_law K) := by
  refine F.fn.ok sc_law (fun vs H Q E h => by first | (obtain ⟨_, rfl, _⟩ := h; rfl) | (obtain ⟨_, _, rfl, _⟩ := h; rfl) | (obtain ⟨_, _, _, rfl, _⟩ := h; rfl) | (obtain ⟨_, _, _, _, rfl, _⟩ := h; rfl) | (obtain ⟨_, _, _, _, _, rfl, _⟩ := h; rfl) | (obtain ⟨_, _, _, _, _, _, rfl, _⟩ := h; rfl) | (obtain ⟨_, _, _, _, _, _, _, rfl, _⟩ := h; rfl) | (obtain ⟨_, _, _, _, _, _, _, _, rfl, _⟩ := h; rfl) | (obtain ⟨_, _, _, _, _, _, _, _, _, rfl, _⟩ := h; rfl) | (obtain ⟨_, _, _, _, _, _, _, _, _, _, rfl, _⟩ := h; rfl) | (obtain ⟨_, _, _, _, _, _, _, _, _, _, _, rfl, _⟩ := h; rfl) | (obtain ⟨_, _, _, _, _, _, _, _, _, _, _, _, rfl, _⟩ := h; rfl) | (obtain ⟨_, _, _, _, _, _, _, _, _, _, _, _, _, rfl, _⟩ := h; rfl)) (fun cdv A outer s H vs Q E hr h => ?_)
  obtain ⟨a, ns, rfl, hS, kq⟩ := h
  refine ⟨_, (pss_cons (ps_set (i := 1) sc_law.nd rfl (.inl rfl) (pe_lst (pa_cons (pe_callTy (kLst (K := K)) (by rfl) Z.list_ PyProof.Rows.Boot.«list» (pa_cons (pv 0) pa_nil)) (pa_cons pe_int (pa_cons pe_int (pa_cons pe_int pa_nil))))))
      (pss_cons (ps_if (pt_not (pt_val (pe_call G_l_divisors_right (hr.mono (by decide)) rfl D_l_divisors_right.mg D_l_divisors_right.fn.kp D_l_divisors_right.bd .nil pass0 (pa_cons (pv 1) pa_nil)))) (pss_one (ps_ret pe_bl)) pss_nil)
      (pss_one (ps_ret (pe_and (pe_call G_l_fractions_right (hr.mono (by decide)) rfl D_l_fractions_right.mg D_l_fractions_right.fn.kp D_l_fractions_right.bd .nil pass0 (pa_cons (pv 1) pa_nil)) (pe_one (pe_call G_l_forms_right (hr.mono (by decide)) rfl D_l_forms_right.mg D_l_forms_right.fn.kp D_l_forms_right.bd .nil pass0 (pa_cons (pv 1) pa_nil)))))))), ?_⟩
  refine ⟨_, rfl, a, _, rfl, .inl hS, fun q0 hq => ⟨by show 4 ≤ sizeLine; decide, fun s0 hs => ?_⟩⟩
  have nq : q0 ≠ s0 := fun e => by rw [← e, upd_same] at hs; cases hs
  have hs' : H s0 = none := by rw [upd_ne (Ne.symm nq)] at hs; exact hs
  have O : Ov s0 q0 0 H (upd (upd H q0 (.lst (ns.map V.int))) s0 (.lst [.ref q0, .int 0, .int 0, .int 0])) :=
    ⟨(Ex.new hq).trans (Ex.new hs), hs', hq, Ne.symm nq, 0, 0, 0, ns, upd_same, (upd_ne nq).trans upd_same, by decide, by decide, by decide, by decide, by decide⟩
  refine ⟨_, rfl, s0, q0, 0, H, rfl, O, by decide, fun H1 O1 => ⟨_, rfl, iteF ?_⟩⟩
  refine ⟨_, rfl, s0, q0, _, H, rfl, O1, by decide, fun H2 O2 => ⟨_, rfl, iteT ?_⟩⟩
  exact ⟨_, rfl, s0, q0, _, H, rfl, O2, by decide, fun H3 O3 => kq H3⟩
end
end K1

set_option maxHeartbeats 4000000
namespace K1
open PySem PySem.Spec PyProof.Rows L2 Hg

theorem all_mk {P : Program} {w : World} {K : PySem.W.Frag} {h : Heap} {mg : Str → Option Value} {fa : Addr} (X : K.In h) (G : h.Ns mainGlobals mg) (hfa : mg "law" = some (.ref fa))
    {f_is_integer : Addr} {od_is_integer an_is_integer : Option Addr} {sl_is_integer : Array (Option Value)} {oc_is_integer kV_is_integer dc_is_integer pm_is_integer cd_is_integer ct_is_integer : Value}
    {f_gcd_of : Addr} {od_gcd_of an_gcd_of : Option Addr} {sl_gcd_of : Array (Option Value)} {oc_gcd_of kV_gcd_of dc_gcd_of pm_gcd_of cd_gcd_of ct_gcd_of : Value}
    {f_divisors : Addr} {od_divisors an_divisors : Option Addr} {sl_divisors : Array (Option Value)} {oc_divisors kV_divisors dc_divisors pm_divisors cd_divisors ct_divisors : Value}
    {f_add_fractions : Addr} {od_add_fractions an_add_fractions : Option Addr} {sl_add_fractions : Array (Option Value)} {oc_add_fractions kV_add_fractions dc_add_fractions pm_add_fractions cd_add_fractions ct_add_fractions : Value}
    {f_multiply_fractions : Addr} {od_multiply_fractions an_multiply_fractions : Option Addr} {sl_multiply_fractions : Array (Option Value)} {oc_multiply_fractions kV_multiply_fractions dc_multiply_fractions pm_multiply_fractions cd_multiply_fractions ct_multiply_fractions : Value}
    {f_is_form : Addr} {od_is_form an_is_form : Option Addr} {sl_is_form : Array (Option Value)} {oc_is_form kV_is_form dc_is_form pm_is_form cd_is_form ct_is_form : Value}
    {f_dot : Addr} {od_dot an_dot : Option Addr} {sl_dot : Array (Option Value)} {oc_dot kV_dot dc_dot pm_dot cd_dot ct_dot : Value}
    {f_add_forms : Addr} {od_add_forms an_add_forms : Option Addr} {sl_add_forms : Array (Option Value)} {oc_add_forms kV_add_forms dc_add_forms pm_add_forms cd_add_forms ct_add_forms : Value}
    {f_scale_form : Addr} {od_scale_form an_scale_form : Option Addr} {sl_scale_form : Array (Option Value)} {oc_scale_form kV_scale_form dc_scale_form pm_scale_form cd_scale_form ct_scale_form : Value}
    {f_l_draw : Addr} {od_l_draw an_l_draw : Option Addr} {sl_l_draw : Array (Option Value)} {oc_l_draw kV_l_draw dc_l_draw pm_l_draw cd_l_draw ct_l_draw : Value}
    {f_l_integer : Addr} {od_l_integer an_l_integer : Option Addr} {sl_l_integer : Array (Option Value)} {oc_l_integer kV_l_integer dc_l_integer pm_l_integer cd_l_integer ct_l_integer : Value}
    {f_l_common : Addr} {od_l_common an_l_common : Option Addr} {sl_l_common : Array (Option Value)} {oc_l_common kV_l_common dc_l_common pm_l_common cd_l_common ct_l_common : Value}
    {f_l_any : Addr} {od_l_any an_l_any : Option Addr} {sl_l_any : Array (Option Value)} {oc_l_any kV_l_any dc_l_any pm_l_any cd_l_any ct_l_any : Value}
    {f_l_number : Addr} {od_l_number an_l_number : Option Addr} {sl_l_number : Array (Option Value)} {oc_l_number kV_l_number dc_l_number pm_l_number cd_l_number ct_l_number : Value}
    {f_l_divisors_right : Addr} {od_l_divisors_right an_l_divisors_right : Option Addr} {sl_l_divisors_right : Array (Option Value)} {oc_l_divisors_right kV_l_divisors_right dc_l_divisors_right pm_l_divisors_right cd_l_divisors_right ct_l_divisors_right : Value}
    {f_l_equals : Addr} {od_l_equals an_l_equals : Option Addr} {sl_l_equals : Array (Option Value)} {oc_l_equals kV_l_equals dc_l_equals pm_l_equals cd_l_equals ct_l_equals : Value}
    {f_l_made : Addr} {od_l_made an_l_made : Option Addr} {sl_l_made : Array (Option Value)} {oc_l_made kV_l_made dc_l_made pm_l_made cd_l_made ct_l_made : Value}
    {f_l_fractions_right : Addr} {od_l_fractions_right an_l_fractions_right : Option Addr} {sl_l_fractions_right : Array (Option Value)} {oc_l_fractions_right kV_l_fractions_right dc_l_fractions_right pm_l_fractions_right cd_l_fractions_right ct_l_fractions_right : Value}
    {f_l_changed : Addr} {od_l_changed an_l_changed : Option Addr} {sl_l_changed : Array (Option Value)} {oc_l_changed kV_l_changed dc_l_changed pm_l_changed cd_l_changed ct_l_changed : Value}
    {f_l_forms_right : Addr} {od_l_forms_right an_l_forms_right : Option Addr} {sl_l_forms_right : Array (Option Value)} {oc_l_forms_right kV_l_forms_right dc_l_forms_right pm_l_forms_right cd_l_forms_right ct_l_forms_right : Value}
    {f_law : Addr} {od_law an_law : Option Addr} {sl_law : Array (Option Value)} {oc_law kV_law dc_law pm_law cd_law ct_law : Value}
    {f_fraction T_fr : Addr} {o_fr : Obj} {n_fr : Nat} {t_fr : Tok} {od_fraction an_fraction : Option Addr} {sl_fraction : Array (Option Value)} {oc_fraction kV_fraction dc_fraction pm_fraction cd_fraction ct_fraction : Value}
    {CZ CH fZ cZ kZ NZ : Addr} {nmZ qZ : Str} {bsZ bmZ : List Value} {snZ : List Str} {subZ : List Value} {abZ : Bool} {colZ : Option Bool} {ddZ : Option Addr} {m0Z m1Z m2Z m3Z m5Z : Option Value} {ocZ dcZ pmZ ctZ : Value} {odZ : Option Addr} {slZ : Array (Option Value)} {clk : Value} {ddk : Option Addr} {vsk : Array Value} {slk : Array (Option Value)} {tfk : Tok} {flk : Str} {clc : Value} {ddc : Option Addr} {slc : Array (Option Value)} {cdZ : ClassData}
    (a_is_integer : PySem.W.nsIn K mainGlobals "is_integer" = some (some (.ref f_is_integer)))
    (l_is_integer : K.lookup f_is_integer = some ⟨oc_is_integer, od_is_integer, .func (PySem.W.fnOf "is_integer" "is_integer" (defArgs st_is_integer) (defBody st_is_integer) (defScope st_is_integer) .none kV_is_integer dc_is_integer pm_is_integer an_is_integer cd_is_integer ct_is_integer), sl_is_integer⟩)
    (c_is_integer : PySem.W.codeIn K cd_is_integer "is_integer" = true)
    (k_is_integer : PySem.W.keepIn K (.ref f_is_integer) = true)
    (a_gcd_of : PySem.W.nsIn K mainGlobals "gcd_of" = some (some (.ref f_gcd_of)))
    (l_gcd_of : K.lookup f_gcd_of = some ⟨oc_gcd_of, od_gcd_of, .func (PySem.W.fnOf "gcd_of" "gcd_of" (defArgs st_gcd_of) (defBody st_gcd_of) (defScope st_gcd_of) .none kV_gcd_of dc_gcd_of pm_gcd_of an_gcd_of cd_gcd_of ct_gcd_of), sl_gcd_of⟩)
    (c_gcd_of : PySem.W.codeIn K cd_gcd_of "gcd_of" = true)
    (k_gcd_of : PySem.W.keepIn K (.ref f_gcd_of) = true)
    (a_divisors : PySem.W.nsIn K mainGlobals "divisors" = some (some (.ref f_divisors)))
    (l_divisors : K.lookup f_divisors = some ⟨oc_divisors, od_divisors, .func (PySem.W.fnOf "divisors" "divisors" (defArgs st_divisors) (defBody st_divisors) (defScope st_divisors) .none kV_divisors dc_divisors pm_divisors an_divisors cd_divisors ct_divisors), sl_divisors⟩)
    (c_divisors : PySem.W.codeIn K cd_divisors "divisors" = true)
    (k_divisors : PySem.W.keepIn K (.ref f_divisors) = true)
    (a_add_fractions : PySem.W.nsIn K mainGlobals "add_fractions" = some (some (.ref f_add_fractions)))
    (l_add_fractions : K.lookup f_add_fractions = some ⟨oc_add_fractions, od_add_fractions, .func (PySem.W.fnOf "add_fractions" "add_fractions" (defArgs st_add_fractions) (defBody st_add_fractions) (defScope st_add_fractions) .none kV_add_fractions dc_add_fractions pm_add_fractions an_add_fractions cd_add_fractions ct_add_fractions), sl_add_fractions⟩)
    (c_add_fractions : PySem.W.codeIn K cd_add_fractions "add_fractions" = true)
    (k_add_fractions : PySem.W.keepIn K (.ref f_add_fractions) = true)
    (a_multiply_fractions : PySem.W.nsIn K mainGlobals "multiply_fractions" = some (some (.ref f_multiply_fractions)))
    (l_multiply_fractions : K.lookup f_multiply_fractions = some ⟨oc_multiply_fractions, od_multiply_fractions, .func (PySem.W.fnOf "multiply_fractions" "multiply_fractions" (defArgs st_multiply_fractions) (defBody st_multiply_fractions) (defScope st_multiply_fractions) .none kV_multiply_fractions dc_multiply_fractions pm_multiply_fractions an_multiply_fractions cd_multiply_fractions ct_multiply_fractions), sl_multiply_fractions⟩)
    (c_multiply_fractions : PySem.W.codeIn K cd_multiply_fractions "multiply_fractions" = true)
    (k_multiply_fractions : PySem.W.keepIn K (.ref f_multiply_fractions) = true)
    (a_is_form : PySem.W.nsIn K mainGlobals "is_form" = some (some (.ref f_is_form)))
    (l_is_form : K.lookup f_is_form = some ⟨oc_is_form, od_is_form, .func (PySem.W.fnOf "is_form" "is_form" (defArgs st_is_form) (defBody st_is_form) (defScope st_is_form) .none kV_is_form dc_is_form pm_is_form an_is_form cd_is_form ct_is_form), sl_is_form⟩)
    (c_is_form : PySem.W.codeIn K cd_is_form "is_form" = true)
    (k_is_form : PySem.W.keepIn K (.ref f_is_form) = true)
    (a_dot : PySem.W.nsIn K mainGlobals "dot" = some (some (.ref f_dot)))
    (l_dot : K.lookup f_dot = some ⟨oc_dot, od_dot, .func (PySem.W.fnOf "dot" "dot" (defArgs st_dot) (defBody st_dot) (defScope st_dot) .none kV_dot dc_dot pm_dot an_dot cd_dot ct_dot), sl_dot⟩)
    (c_dot : PySem.W.codeIn K cd_dot "dot" = true)
    (k_dot : PySem.W.keepIn K (.ref f_dot) = true)
    (a_add_forms : PySem.W.nsIn K mainGlobals "add_forms" = some (some (.ref f_add_forms)))
    (l_add_forms : K.lookup f_add_forms = some ⟨oc_add_forms, od_add_forms, .func (PySem.W.fnOf "add_forms" "add_forms" (defArgs st_add_forms) (defBody st_add_forms) (defScope st_add_forms) .none kV_add_forms dc_add_forms pm_add_forms an_add_forms cd_add_forms ct_add_forms), sl_add_forms⟩)
    (c_add_forms : PySem.W.codeIn K cd_add_forms "add_forms" = true)
    (k_add_forms : PySem.W.keepIn K (.ref f_add_forms) = true)
    (a_scale_form : PySem.W.nsIn K mainGlobals "scale_form" = some (some (.ref f_scale_form)))
    (l_scale_form : K.lookup f_scale_form = some ⟨oc_scale_form, od_scale_form, .func (PySem.W.fnOf "scale_form" "scale_form" (defArgs st_scale_form) (defBody st_scale_form) (defScope st_scale_form) .none kV_scale_form dc_scale_form pm_scale_form an_scale_form cd_scale_form ct_scale_form), sl_scale_form⟩)
    (c_scale_form : PySem.W.codeIn K cd_scale_form "scale_form" = true)
    (k_scale_form : PySem.W.keepIn K (.ref f_scale_form) = true)
    (a_l_draw : PySem.W.nsIn K mainGlobals "_law_draw" = some (some (.ref f_l_draw)))
    (l_l_draw : K.lookup f_l_draw = some ⟨oc_l_draw, od_l_draw, .func (PySem.W.fnOf "_law_draw" "_law_draw" (defArgs st_l_draw) (defBody st_l_draw) (defScope st_l_draw) .none kV_l_draw dc_l_draw pm_l_draw an_l_draw cd_l_draw ct_l_draw), sl_l_draw⟩)
    (c_l_draw : PySem.W.codeIn K cd_l_draw "_law_draw" = true)
    (k_l_draw : PySem.W.keepIn K (.ref f_l_draw) = true)
    (a_l_integer : PySem.W.nsIn K mainGlobals "_law_integer" = some (some (.ref f_l_integer)))
    (l_l_integer : K.lookup f_l_integer = some ⟨oc_l_integer, od_l_integer, .func (PySem.W.fnOf "_law_integer" "_law_integer" (defArgs st_l_integer) (defBody st_l_integer) (defScope st_l_integer) .none kV_l_integer dc_l_integer pm_l_integer an_l_integer cd_l_integer ct_l_integer), sl_l_integer⟩)
    (c_l_integer : PySem.W.codeIn K cd_l_integer "_law_integer" = true)
    (k_l_integer : PySem.W.keepIn K (.ref f_l_integer) = true)
    (a_l_common : PySem.W.nsIn K mainGlobals "_law_common" = some (some (.ref f_l_common)))
    (l_l_common : K.lookup f_l_common = some ⟨oc_l_common, od_l_common, .func (PySem.W.fnOf "_law_common" "_law_common" (defArgs st_l_common) (defBody st_l_common) (defScope st_l_common) .none kV_l_common dc_l_common pm_l_common an_l_common cd_l_common ct_l_common), sl_l_common⟩)
    (c_l_common : PySem.W.codeIn K cd_l_common "_law_common" = true)
    (k_l_common : PySem.W.keepIn K (.ref f_l_common) = true)
    (a_l_any : PySem.W.nsIn K mainGlobals "_law_any" = some (some (.ref f_l_any)))
    (l_l_any : K.lookup f_l_any = some ⟨oc_l_any, od_l_any, .func (PySem.W.fnOf "_law_any" "_law_any" (defArgs st_l_any) (defBody st_l_any) (defScope st_l_any) .none kV_l_any dc_l_any pm_l_any an_l_any cd_l_any ct_l_any), sl_l_any⟩)
    (c_l_any : PySem.W.codeIn K cd_l_any "_law_any" = true)
    (k_l_any : PySem.W.keepIn K (.ref f_l_any) = true)
    (a_l_number : PySem.W.nsIn K mainGlobals "_law_number" = some (some (.ref f_l_number)))
    (l_l_number : K.lookup f_l_number = some ⟨oc_l_number, od_l_number, .func (PySem.W.fnOf "_law_number" "_law_number" (defArgs st_l_number) (defBody st_l_number) (defScope st_l_number) .none kV_l_number dc_l_number pm_l_number an_l_number cd_l_number ct_l_number), sl_l_number⟩)
    (c_l_number : PySem.W.codeIn K cd_l_number "_law_number" = true)
    (k_l_number : PySem.W.keepIn K (.ref f_l_number) = true)
    (a_l_divisors_right : PySem.W.nsIn K mainGlobals "_law_divisors_right" = some (some (.ref f_l_divisors_right)))
    (l_l_divisors_right : K.lookup f_l_divisors_right = some ⟨oc_l_divisors_right, od_l_divisors_right, .func (PySem.W.fnOf "_law_divisors_right" "_law_divisors_right" (defArgs st_l_divisors_right) (defBody st_l_divisors_right) (defScope st_l_divisors_right) .none kV_l_divisors_right dc_l_divisors_right pm_l_divisors_right an_l_divisors_right cd_l_divisors_right ct_l_divisors_right), sl_l_divisors_right⟩)
    (c_l_divisors_right : PySem.W.codeIn K cd_l_divisors_right "_law_divisors_right" = true)
    (k_l_divisors_right : PySem.W.keepIn K (.ref f_l_divisors_right) = true)
    (a_l_equals : PySem.W.nsIn K mainGlobals "_law_equals" = some (some (.ref f_l_equals)))
    (l_l_equals : K.lookup f_l_equals = some ⟨oc_l_equals, od_l_equals, .func (PySem.W.fnOf "_law_equals" "_law_equals" (defArgs st_l_equals) (defBody st_l_equals) (defScope st_l_equals) .none kV_l_equals dc_l_equals pm_l_equals an_l_equals cd_l_equals ct_l_equals), sl_l_equals⟩)
    (c_l_equals : PySem.W.codeIn K cd_l_equals "_law_equals" = true)
    (k_l_equals : PySem.W.keepIn K (.ref f_l_equals) = true)
    (a_l_made : PySem.W.nsIn K mainGlobals "_law_made" = some (some (.ref f_l_made)))
    (l_l_made : K.lookup f_l_made = some ⟨oc_l_made, od_l_made, .func (PySem.W.fnOf "_law_made" "_law_made" (defArgs st_l_made) (defBody st_l_made) (defScope st_l_made) .none kV_l_made dc_l_made pm_l_made an_l_made cd_l_made ct_l_made), sl_l_made⟩)
    (c_l_made : PySem.W.codeIn K cd_l_made "_law_made" = true)
    (k_l_made : PySem.W.keepIn K (.ref f_l_made) = true)
    (a_l_fractions_right : PySem.W.nsIn K mainGlobals "_law_fractions_right" = some (some (.ref f_l_fractions_right)))
    (l_l_fractions_right : K.lookup f_l_fractions_right = some ⟨oc_l_fractions_right, od_l_fractions_right, .func (PySem.W.fnOf "_law_fractions_right" "_law_fractions_right" (defArgs st_l_fractions_right) (defBody st_l_fractions_right) (defScope st_l_fractions_right) .none kV_l_fractions_right dc_l_fractions_right pm_l_fractions_right an_l_fractions_right cd_l_fractions_right ct_l_fractions_right), sl_l_fractions_right⟩)
    (c_l_fractions_right : PySem.W.codeIn K cd_l_fractions_right "_law_fractions_right" = true)
    (k_l_fractions_right : PySem.W.keepIn K (.ref f_l_fractions_right) = true)
    (a_l_changed : PySem.W.nsIn K mainGlobals "_law_changed" = some (some (.ref f_l_changed)))
    (l_l_changed : K.lookup f_l_changed = some ⟨oc_l_changed, od_l_changed, .func (PySem.W.fnOf "_law_changed" "_law_changed" (defArgs st_l_changed) (defBody st_l_changed) (defScope st_l_changed) .none kV_l_changed dc_l_changed pm_l_changed an_l_changed cd_l_changed ct_l_changed), sl_l_changed⟩)
    (c_l_changed : PySem.W.codeIn K cd_l_changed "_law_changed" = true)
    (k_l_changed : PySem.W.keepIn K (.ref f_l_changed) = true)
    (a_l_forms_right : PySem.W.nsIn K mainGlobals "_law_forms_right" = some (some (.ref f_l_forms_right)))
    (l_l_forms_right : K.lookup f_l_forms_right = some ⟨oc_l_forms_right, od_l_forms_right, .func (PySem.W.fnOf "_law_forms_right" "_law_forms_right" (defArgs st_l_forms_right) (defBody st_l_forms_right) (defScope st_l_forms_right) .none kV_l_forms_right dc_l_forms_right pm_l_forms_right an_l_forms_right cd_l_forms_right ct_l_forms_right), sl_l_forms_right⟩)
    (c_l_forms_right : PySem.W.codeIn K cd_l_forms_right "_law_forms_right" = true)
    (k_l_forms_right : PySem.W.keepIn K (.ref f_l_forms_right) = true)
    (a_law : PySem.W.nsIn K mainGlobals "law" = some (some (.ref f_law)))
    (l_law : K.lookup f_law = some ⟨oc_law, od_law, .func (PySem.W.fnOf "law" "law" (defArgs st_law) (defBody st_law) (defScope st_law) .none kV_law dc_law pm_law an_law cd_law ct_law), sl_law⟩)
    (c_law : PySem.W.codeIn K cd_law "law" = true)
    (k_law : PySem.W.keepIn K (.ref f_law) = true)
    (z_ValueError : PySem.W.nsIn K mainGlobals "ValueError" = some none)
    (z_abs : PySem.W.nsIn K mainGlobals "abs" = some none)
    (z_all : PySem.W.nsIn K mainGlobals "all" = some none)
    (z_bool : PySem.W.nsIn K mainGlobals "bool" = some none)
    (z_int : PySem.W.nsIn K mainGlobals "int" = some none)
    (z_isinstance : PySem.W.nsIn K mainGlobals "isinstance" = some none)
    (z_len : PySem.W.nsIn K mainGlobals "len" = some none)
    (z_list : PySem.W.nsIn K mainGlobals "list" = some none)
    (z_range : PySem.W.nsIn K mainGlobals "range" = some none)
    (z_reversed : PySem.W.nsIn K mainGlobals "reversed" = some none)
    (z_set : PySem.W.nsIn K mainGlobals "set" = some none)
    (z_sorted : PySem.W.nsIn K mainGlobals "sorted" = some none)
    (z_sum : PySem.W.nsIn K mainGlobals "sum" = some none)
    (z_tuple : PySem.W.nsIn K mainGlobals "tuple" = some none)
    (z_zip : PySem.W.nsIn K mainGlobals "zip" = some none)
    (z_gcd : PySem.W.nsIn K mainGlobals "gcd" = some (some (.builtin "math.gcd")))
    (z_isqrt : PySem.W.nsIn K mainGlobals "isqrt" = some (some (.builtin "math.isqrt")))
    (a_fr : PySem.W.nsIn K mainGlobals "fraction" = some (some (.ref f_fraction)))
    (l_fr : K.lookup f_fraction = some ⟨oc_fraction, od_fraction, .func (PySem.W.fnOf "fraction" "fraction" (defArgs st_fraction) (defBody st_fraction) (defScope st_fraction) (.ref T_fr) kV_fraction dc_fraction pm_fraction an_fraction cd_fraction ct_fraction), sl_fraction⟩)
    (c_fr : PySem.W.codeIn K cd_fraction "fraction" = true)
    (k_fr : PySem.W.keepIn K (.ref f_fraction) = true)
    (lT_fr : K.lookup T_fr = some o_fr)
    (dT_fr : o_fr.data = .seq #[.int 1 t_fr] n_fr)
    (aZ : PySem.W.nsIn K mainGlobals "ZeroBottom" = some (some (.ref CZ)))
    (aH : PySem.W.nsIn K mainGlobals "HushError" = some (some (.ref CH)))
    (xZ : K.lookup CZ = some (excClassObj nmZ qZ CZ NZ bsZ bmZ true snZ subZ abZ colZ ddZ m0Z m1Z m2Z m3Z m5Z "ValueError.__new__"))
    (rZ : PySem.HandSPX.refsVE bmZ = true)
    (saZ : PySem.W.findIn K (.ref CZ) "__setattr__" = some (some (.builtin "object.__setattr__")))
    (eZ : PySem.W.subIn K (.ref CZ) (.type "BaseException") = some true)
    (tZ : PySem.W.typeIn K (.ref CZ) = some (.type "type"))
    (kcZ : PySem.W.keepIn K (.ref CZ) = true)
    (iZ : PySem.W.findIn K (.ref CZ) "__init__" = some (some (.ref fZ)))
    (tiZ : PySem.W.typeIn K (.ref fZ) = some (.type "function"))
    (lZ : K.lookup fZ = some ⟨ocZ, odZ, .func ((nf_ZeroBottom cZ kZ).fd dcZ pmZ ctZ), slZ⟩)
    (cdk : PySem.W.codeIn K (.ref kZ) "ZeroBottom.__init__" = true)
    (lk : K.lookup kZ = some ⟨clk, ddk, .fields vsk, slk⟩)
    (lk2 : vsk[2]? = some (.str flk tfk))
    (lk3 : ((P.main.file : Str) == flk) = true)
    (lc : K.lookup cZ = some ⟨clc, ddc, .cell (some (.ref CZ)), slc⟩)
    (clZ : PySem.W.clsIn K CZ = some cdZ)
    (owZ : PySem.W.mroIn K CZ (.ref CZ) = some true)
    (veZ : PySem.W.subIn K (.ref CZ) (.type "ValueError") = some true)
    (suZ : PySem.W.ks_superIn K CZ CZ "__init__" = some (some (.builtin "ValueError.__init__")))
    (opZ : PySem.W.nsIn K cStatics "thirdparty.any" = some none)
    (zsu : PySem.W.nsIn K mainGlobals "super" = some none)
    (topZ : (P.main.scope.names.lookup ("super" : Str)).isSome = false)
    (gaZ : PySem.W.findIn K (.ref CZ) "__getattribute__" = some (some (.builtin "BaseException.__getattribute__")))
    (ggZ : PySem.W.findIn K (.ref CZ) "__getattr__" = some none)
    (hdZ : PySem.W.hasDictIn K CZ = true)
    (haZ : PySem.W.findIn K (.ref CZ) "__class__" = some (some (.builtin "object.__class__")))
    (hnZ : PySem.W.specialIn K (.builtin "object.__class__") "__get__" = some (some (.builtin "getset_descriptor.__get__")))
    (htZ : PySem.W.takesIn K (.builtin "object.__class__") = some true)
    (hmZ : PySem.W.mroIn K CZ (.type "object") = some true)
    (isH : PySem.W.kitOne K (.ref CZ) (.ref CH) = some true)
    (isV : PySem.W.kitOne K (.ref CZ) (.type "ValueError") = some true)
    (teZ : PySem.W.exmOne K (.ref CZ) (.ref CZ) = some true)
    : ∃ fd : FuncData, (∀ (s : Shared) (v : Value), BindsTo s fd ⟨[v], []⟩ [("_law_script", v)]) ∧ ∀ base : Heap, K.In base → base.Ns mainGlobals mg → FnOk P w K mg base CX0 6 fa fd ["_law_script"] (sp_law K) := by
  have e := hfa.symm.trans (PySem.W.mg_of X G a_law)
  cases e
  have Z : Zs mg := ⟨PySem.W.mg_none_of X G z_ValueError, PySem.W.mg_none_of X G z_abs, PySem.W.mg_none_of X G z_all, PySem.W.mg_none_of X G z_bool, PySem.W.mg_none_of X G z_int, PySem.W.mg_none_of X G z_isinstance, PySem.W.mg_none_of X G z_len, PySem.W.mg_none_of X G z_list, PySem.W.mg_none_of X G z_range, PySem.W.mg_none_of X G z_reversed, PySem.W.mg_none_of X G z_set, PySem.W.mg_none_of X G z_sorted, PySem.W.mg_none_of X G z_sum, PySem.W.mg_none_of X G z_tuple, PySem.W.mg_none_of X G z_zip, PySem.W.mg_of X G z_gcd, PySem.W.mg_of X G z_isqrt⟩
  have F_is_integer := fun_mk (st := st_is_integer) l_is_integer c_is_integer k_is_integer
  have D_is_integer : DefK K mg "is_integer" st_is_integer ["thing"] f_is_integer _ := ⟨PySem.W.mg_of X G a_is_integer, F_is_integer, F_is_integer.binds (ps := ["thing"]) fun _ _ _ _ _ _ us hl => match us, hl with | [_], _ => rfl⟩
  have F_gcd_of := fun_mk (st := st_gcd_of) l_gcd_of c_gcd_of k_gcd_of
  have D_gcd_of : DefK K mg "gcd_of" st_gcd_of ["numbers"] f_gcd_of _ := ⟨PySem.W.mg_of X G a_gcd_of, F_gcd_of, F_gcd_of.binds (ps := ["numbers"]) fun _ _ _ _ _ _ us hl => match us, hl with | [_], _ => rfl⟩
  have F_divisors := fun_mk (st := st_divisors) l_divisors c_divisors k_divisors
  have D_divisors : DefK K mg "divisors" st_divisors ["number"] f_divisors _ := ⟨PySem.W.mg_of X G a_divisors, F_divisors, F_divisors.binds (ps := ["number"]) fun _ _ _ _ _ _ us hl => match us, hl with | [_], _ => rfl⟩
  have F_add_fractions := fun_mk (st := st_add_fractions) l_add_fractions c_add_fractions k_add_fractions
  have D_add_fractions : DefK K mg "add_fractions" st_add_fractions ["one", "other"] f_add_fractions _ := ⟨PySem.W.mg_of X G a_add_fractions, F_add_fractions, F_add_fractions.binds (ps := ["one", "other"]) fun _ _ _ _ _ _ us hl => match us, hl with | [_, _], _ => rfl⟩
  have F_multiply_fractions := fun_mk (st := st_multiply_fractions) l_multiply_fractions c_multiply_fractions k_multiply_fractions
  have D_multiply_fractions : DefK K mg "multiply_fractions" st_multiply_fractions ["one", "other"] f_multiply_fractions _ := ⟨PySem.W.mg_of X G a_multiply_fractions, F_multiply_fractions, F_multiply_fractions.binds (ps := ["one", "other"]) fun _ _ _ _ _ _ us hl => match us, hl with | [_, _], _ => rfl⟩
  have F_is_form := fun_mk (st := st_is_form) l_is_form c_is_form k_is_form
  have D_is_form : DefK K mg "is_form" st_is_form ["thing", "size"] f_is_form _ := ⟨PySem.W.mg_of X G a_is_form, F_is_form, F_is_form.binds (ps := ["thing", "size"]) fun _ _ _ _ _ _ us hl => match us, hl with | [_, _], _ => rfl⟩
  have F_dot := fun_mk (st := st_dot) l_dot c_dot k_dot
  have D_dot : DefK K mg "dot" st_dot ["form", "vector"] f_dot _ := ⟨PySem.W.mg_of X G a_dot, F_dot, F_dot.binds (ps := ["form", "vector"]) fun _ _ _ _ _ _ us hl => match us, hl with | [_, _], _ => rfl⟩
  have F_add_forms := fun_mk (st := st_add_forms) l_add_forms c_add_forms k_add_forms
  have D_add_forms : DefK K mg "add_forms" st_add_forms ["one", "other"] f_add_forms _ := ⟨PySem.W.mg_of X G a_add_forms, F_add_forms, F_add_forms.binds (ps := ["one", "other"]) fun _ _ _ _ _ _ us hl => match us, hl with | [_, _], _ => rfl⟩
  have F_scale_form := fun_mk (st := st_scale_form) l_scale_form c_scale_form k_scale_form
  have D_scale_form : DefK K mg "scale_form" st_scale_form ["factor", "form"] f_scale_form _ := ⟨PySem.W.mg_of X G a_scale_form, F_scale_form, F_scale_form.binds (ps := ["factor", "form"]) fun _ _ _ _ _ _ us hl => match us, hl with | [_, _], _ => rfl⟩
  have F_l_draw := fun_mk (st := st_l_draw) l_l_draw c_l_draw k_l_draw
  have D_l_draw : DefK K mg "_law_draw" st_l_draw ["_law_stream", "_law_count"] f_l_draw _ := ⟨PySem.W.mg_of X G a_l_draw, F_l_draw, F_l_draw.binds (ps := ["_law_stream", "_law_count"]) fun _ _ _ _ _ _ us hl => match us, hl with | [_, _], _ => rfl⟩
  have F_l_integer := fun_mk (st := st_l_integer) l_l_integer c_l_integer k_l_integer
  have D_l_integer : DefK K mg "_law_integer" st_l_integer ["_law_thing"] f_l_integer _ := ⟨PySem.W.mg_of X G a_l_integer, F_l_integer, F_l_integer.binds (ps := ["_law_thing"]) fun _ _ _ _ _ _ us hl => match us, hl with | [_], _ => rfl⟩
  have F_l_common := fun_mk (st := st_l_common) l_l_common c_l_common k_l_common
  have D_l_common : DefK K mg "_law_common" st_l_common ["_law_one", "_law_other"] f_l_common _ := ⟨PySem.W.mg_of X G a_l_common, F_l_common, F_l_common.binds (ps := ["_law_one", "_law_other"]) fun _ _ _ _ _ _ us hl => match us, hl with | [_, _], _ => rfl⟩
  have F_l_any := fun_mk (st := st_l_any) l_l_any c_l_any k_l_any
  have D_l_any : DefK K mg "_law_any" st_l_any ["_law_stream"] f_l_any _ := ⟨PySem.W.mg_of X G a_l_any, F_l_any, F_l_any.binds (ps := ["_law_stream"]) fun _ _ _ _ _ _ us hl => match us, hl with | [_], _ => rfl⟩
  have F_l_number := fun_mk (st := st_l_number) l_l_number c_l_number k_l_number
  have D_l_number : DefK K mg "_law_number" st_l_number ["_law_stream"] f_l_number _ := ⟨PySem.W.mg_of X G a_l_number, F_l_number, F_l_number.binds (ps := ["_law_stream"]) fun _ _ _ _ _ _ us hl => match us, hl with | [_], _ => rfl⟩
  have F_l_divisors_right := fun_mk (st := st_l_divisors_right) l_l_divisors_right c_l_divisors_right k_l_divisors_right
  have D_l_divisors_right : DefK K mg "_law_divisors_right" st_l_divisors_right ["_law_stream"] f_l_divisors_right _ := ⟨PySem.W.mg_of X G a_l_divisors_right, F_l_divisors_right, F_l_divisors_right.binds (ps := ["_law_stream"]) fun _ _ _ _ _ _ us hl => match us, hl with | [_], _ => rfl⟩
  have F_l_equals := fun_mk (st := st_l_equals) l_l_equals c_l_equals k_l_equals
  have D_l_equals : DefK K mg "_law_equals" st_l_equals ["_law_found", "_law_top", "_law_base"] f_l_equals _ := ⟨PySem.W.mg_of X G a_l_equals, F_l_equals, F_l_equals.binds (ps := ["_law_found", "_law_top", "_law_base"]) fun _ _ _ _ _ _ us hl => match us, hl with | [_, _, _], _ => rfl⟩
  have F_l_made := fun_mk (st := st_l_made) l_l_made c_l_made k_l_made
  have D_l_made : DefK K mg "_law_made" st_l_made ["_law_top", "_law_base"] f_l_made _ := ⟨PySem.W.mg_of X G a_l_made, F_l_made, F_l_made.binds (ps := ["_law_top", "_law_base"]) fun _ _ _ _ _ _ us hl => match us, hl with | [_, _], _ => rfl⟩
  have F_l_fractions_right := fun_mk (st := st_l_fractions_right) l_l_fractions_right c_l_fractions_right k_l_fractions_right
  have D_l_fractions_right : DefK K mg "_law_fractions_right" st_l_fractions_right ["_law_stream"] f_l_fractions_right _ := ⟨PySem.W.mg_of X G a_l_fractions_right, F_l_fractions_right, F_l_fractions_right.binds (ps := ["_law_stream"]) fun _ _ _ _ _ _ us hl => match us, hl with | [_], _ => rfl⟩
  have F_l_changed := fun_mk (st := st_l_changed) l_l_changed c_l_changed k_l_changed
  have D_l_changed : DefK K mg "_law_changed" st_l_changed ["_law_stream", "_law_form"] f_l_changed _ := ⟨PySem.W.mg_of X G a_l_changed, F_l_changed, F_l_changed.binds (ps := ["_law_stream", "_law_form"]) fun _ _ _ _ _ _ us hl => match us, hl with | [_, _], _ => rfl⟩
  have F_l_forms_right := fun_mk (st := st_l_forms_right) l_l_forms_right c_l_forms_right k_l_forms_right
  have D_l_forms_right : DefK K mg "_law_forms_right" st_l_forms_right ["_law_stream"] f_l_forms_right _ := ⟨PySem.W.mg_of X G a_l_forms_right, F_l_forms_right, F_l_forms_right.binds (ps := ["_law_stream"]) fun _ _ _ _ _ _ us hl => match us, hl with | [_], _ => rfl⟩
  have F_law := fun_mk (st := st_law) l_law c_law k_law
  have D_law : DefK K mg "law" st_law ["_law_script"] fa _ := ⟨PySem.W.mg_of X G a_law, F_law, F_law.binds (ps := ["_law_script"]) fun _ _ _ _ _ _ us hl => match us, hl with | [_], _ => rfl⟩
  have F_fraction : FunD K "fraction" "fraction" (defArgs st_fraction) (defBody st_fraction) (defScope st_fraction) [.int 1] [] f_fraction (PySem.W.fnOf "fraction" "fraction" (defArgs st_fraction) (defBody st_fraction) (defScope st_fraction) (.ref T_fr) kV_fraction dc_fraction pm_fraction an_fraction cd_fraction ct_fraction) := ⟨⟨_, _, _, _, _, _, _, _, _, _, rfl, l_fr, c_fr, .inr ⟨by simp, T_fr, o_fr, [.int 1 t_fr], n_fr, rfl, lT_fr, dT_fr, .cons ⟨t_fr, rfl⟩ .nil⟩, .inl rfl⟩, k_fr⟩
  have D_fraction : DefF K mg ["top", "bottom"] f_fraction (PySem.W.fnOf "fraction" "fraction" (defArgs st_fraction) (defBody st_fraction) (defScope st_fraction) (.ref T_fr) kV_fraction dc_fraction pm_fraction an_fraction cd_fraction ct_fraction) := by
    refine ⟨PySem.W.mg_of X G a_fr, F_fraction, ?_, ?_⟩
    · obtain ⟨ds, r, b⟩ := F_fraction.binds1 (ps := ["top", "bottom"]) 2 1 (by simp) rfl (fun T kV doc pm an cdv ct us its h1 h2 => match us, its, h1, h2 with | [_, _], [_], _, _ => ⟨_, rfl, rfl⟩)
      cases r
      exact b
    · obtain ⟨ds, r, b⟩ := F_fraction.binds1 (ps := ["top", "bottom"]) 1 0 (by simp) rfl (fun T kV doc pm an cdv ct us its h1 h2 => match us, its, h1, h2 with | [_], [_], _, _ => ⟨_, rfl, rfl⟩)
      exact ⟨ds, r, b⟩
  have oex : OexC K CZ := ⟨⟨nmZ, qZ, NZ, bsZ, bmZ, snZ, subZ, abZ, colZ, ddZ, m0Z, m1Z, m2Z, m3Z, m5Z, xZ, rZ⟩, saZ, eZ, tZ, kcZ⟩
  have E : ErrK P K mg CZ fZ cZ kZ := ⟨oex, ⟨clk, ddk, vsk, slk, tfk, flk, lk, lk2, lk3⟩, ⟨clc, ddc, slc, lc⟩, ⟨cdZ, clZ⟩, owZ, veZ, suZ, opZ, PySem.W.mg_none_of X G zsu, topZ⟩
  have T : ZBt P K mg CZ fZ cZ kZ ((nf_ZeroBottom cZ kZ).fd dcZ pmZ ctZ) := ⟨E, PySem.W.mg_of X G aZ, aZ, iZ, tiZ, ⟨ocZ, odZ, dcZ, pmZ, ctZ, slZ, rfl, lZ⟩, cdk, .all fun us hl => match us, hl with | [_], _ => rfl⟩
  have U : HErr K mg CZ CH := ⟨⟨gaZ, ggZ, eZ, hdZ, haZ, hnZ, htZ, hmZ⟩, PySem.W.mg_of X G aH, isH, isV, teZ⟩
  refine ⟨PySem.W.fnOf "law" "law" (defArgs st_law) (defBody st_law) (defScope st_law) .none kV_law dc_law pm_law an_law cd_law ct_law, fun s v => .of_eq rfl, fun base _ _ => ?_⟩
  have GZ : FnOk P w K mg base CX0 1 fZ _ ["self"] (sp_zinit CZ) := ok_zinit T
  have G_gcd_of : FnOk P w K mg base CX0 1 f_gcd_of _ ["numbers"] (sp_gcd_of K) := ok_gcd_of (P := P) (w := w) (base := base) D_gcd_of Z  
  have G_divisors : FnOk P w K mg base CX0 1 f_divisors _ ["number"] (sp_divisors K) := ok_divisors (P := P) (w := w) (base := base) D_divisors Z  
  have G_l_draw : FnOk P w K mg base CX0 1 f_l_draw _ ["_law_stream", "_law_count"] (sp_l_draw K) := ok_l_draw (P := P) (w := w) (base := base) D_l_draw Z  
  have G_l_integer : FnOk P w K mg base CX0 1 f_l_integer _ ["_law_thing"] (sp_l_integer K) := ok_l_integer (P := P) (w := w) (base := base) D_l_integer Z  
  have G_l_common : FnOk P w K mg base CX0 1 f_l_common _ ["_law_one", "_law_other"] (sp_l_common K) := ok_l_common (P := P) (w := w) (base := base) D_l_common Z  
  have G_l_number : FnOk P w K mg base CX0 2 f_l_number _ ["_law_stream"] (sp_l_number K) := ok_l_number (P := P) (w := w) (base := base) D_l_number Z D_l_draw G_l_draw 
  have G_l_divisors_right : FnOk P w K mg base CX0 3 f_l_divisors_right _ ["_law_stream"] (sp_l_divisors_right K) := ok_l_divisors_right (P := P) (w := w) (base := base) D_l_divisors_right Z D_gcd_of G_gcd_of D_divisors G_divisors D_l_draw G_l_draw D_l_integer G_l_integer D_l_common G_l_common D_l_number G_l_number 
  have G_fraction : FnOk P w K mg base (L2.CX P w) 3 f_fraction _ ["top", "bottom"] (sp_fraction K) := ok_fraction (P := P) (w := w) (base := base) D_fraction Z  T GZ
  have G_add_fractions : FnOk P w K mg base CX0 4 f_add_fractions _ ["one", "other"] (sp_add_fractions K) := ok_add_fractions (P := P) (w := w) (base := base) D_add_fractions Z D_fraction G_fraction 
  have G_multiply_fractions : FnOk P w K mg base CX0 4 f_multiply_fractions _ ["one", "other"] (sp_multiply_fractions K) := ok_multiply_fractions (P := P) (w := w) (base := base) D_multiply_fractions Z D_fraction G_fraction 
  have G_l_equals : FnOk P w K mg base CX0 2 f_l_equals _ ["_law_found", "_law_top", "_law_base"] (sp_l_equals K) := ok_l_equals (P := P) (w := w) (base := base) D_l_equals Z D_l_integer G_l_integer D_l_common G_l_common 
  have G_l_made : FnOk P w K mg base CX0 4 f_l_made _ ["_law_top", "_law_base"] (sp_l_made K) := ok_l_made (P := P) (w := w) (base := base) D_l_made Z D_fraction G_fraction T U
  have G_l_fractions_right : FnOk P w K mg base CX0 5 f_l_fractions_right _ ["_law_stream"] (sp_l_fractions_right K) := ok_l_fractions_right (P := P) (w := w) (base := base) D_l_fractions_right Z D_fraction G_fraction D_add_fractions G_add_fractions D_multiply_fractions G_multiply_fractions D_l_draw G_l_draw D_l_number G_l_number D_l_equals G_l_equals D_l_made G_l_made 
  have G_is_integer : FnOk P w K mg base CX0 1 f_is_integer _ ["thing"] (sp_is_integer K) := ok_is_integer (P := P) (w := w) (base := base) D_is_integer Z  
  have G_is_form : FnOk P w K mg base CX0 2 f_is_form _ ["thing", "size"] (sp_is_form K) := ok_is_form (P := P) (w := w) (base := base) D_is_form Z D_is_integer G_is_integer 
  have G_dot : FnOk P w K mg base CX0 1 f_dot _ ["form", "vector"] (sp_dot K) := ok_dot (P := P) (w := w) (base := base) D_dot Z  
  have G_add_forms : FnOk P w K mg base CX0 1 f_add_forms _ ["one", "other"] (sp_add_forms K) := ok_add_forms (P := P) (w := w) (base := base) D_add_forms Z  
  have G_scale_form : FnOk P w K mg base CX0 1 f_scale_form _ ["factor", "form"] (sp_scale_form K) := ok_scale_form (P := P) (w := w) (base := base) D_scale_form Z  
  have G_l_any : FnOk P w K mg base CX0 2 f_l_any _ ["_law_stream"] (sp_l_any K) := ok_l_any (P := P) (w := w) (base := base) D_l_any Z D_l_draw G_l_draw 
  have G_l_changed : FnOk P w K mg base CX0 3 f_l_changed _ ["_law_stream", "_law_form"] (sp_l_changed K) := ok_l_changed (P := P) (w := w) (base := base) D_l_changed Z D_l_draw G_l_draw D_l_any G_l_any 
  have G_l_forms_right : FnOk P w K mg base CX0 4 f_l_forms_right _ ["_law_stream"] (sp_l_forms_right K) := ok_l_forms_right (P := P) (w := w) (base := base) D_l_forms_right Z D_is_form G_is_form D_dot G_dot D_add_forms G_add_forms D_scale_form G_scale_form D_l_draw G_l_draw D_l_integer G_l_integer D_l_number G_l_number D_l_changed G_l_changed 
  exact ok_law (P := P) (w := w) (base := base) D_law Z D_l_divisors_right G_l_divisors_right D_l_fractions_right G_l_fractions_right D_l_forms_right G_l_forms_right 
theorem walk {l : PySem.W.OpenLaw} {q : Program} {loose : List Str} {XP : (Str → Option Value) → Heap → Prop} {YP : World → Heap → Prop} {d : DefRec} {K : Params → PySem.W.Frag} (hn : l.most = some 63) (hdf : d.params.defaults = [])
    (hY : ∀ (w : World) (h : Heap), YP w h → (K w.params).In h)
    (F : ∀ (w : World) (mg : Str → Option Value) (fa : Addr) (h : Heap), (K w.params).In h → h.Ns mainGlobals mg → mg d.name = some (.ref fa) →
      ∃ fd : FuncData, (∀ (s : Shared) (u : Value), BindsTo s fd ⟨[u], []⟩ [("_law_script", u)]) ∧ ∀ base : Heap, (K w.params).In base → base.Ns mainGlobals mg → FnOk l.prog w (K w.params) mg base CX0 6 fa fd ["_law_script"] (sp_law (K w.params))) :
    PySem.W.WalkO q loose XP YP l.row.toRowW d [] (fun f vs => PySem.call f vs) :=
  L2.walk_of (n := 63) (k := 6) (x := "_law_script") (CX := fun _ => CX0) (sp := fun w => sp_law (K w.params)) hn (by decide) hdf ⟨rfl, by decide, by decide⟩ hY F (fun w H a ns hl _ hS => ⟨a, ns, rfl, hS, fun _ => rfl⟩) fun _ _ _ _ _ z => z
end K1
open PySem PySem.W PyProof.Rows in
set_option maxRecDepth 100000 in
set_option maxHeartbeats 0 in
theorem PySem.Challenge.cw_hushgrain_k01_numbers_and_forms_holds : PySem.Challenge.rw_hushgrain_k01_numbers_and_forms.Holds := by
  w_on; o_law; k_head; (case hw => w_witness2)
  k_fill
  refine K1.walk (l := PySem.Challenge.rw_hushgrain_k01_numbers_and_forms) rfl rfl (fun w h Y => PySem.W.kIn_of Y) ?F
  case F =>
    intro w mg fa h KX G hmg
    refine' K1.all_mk KX G hmg ?a_is_integer ?l_is_integer ?c_is_integer ?k_is_integer ?a_gcd_of ?l_gcd_of ?c_gcd_of ?k_gcd_of ?a_divisors ?l_divisors ?c_divisors ?k_divisors ?a_add_fractions ?l_add_fractions ?c_add_fractions ?k_add_fractions ?a_multiply_fractions ?l_multiply_fractions ?c_multiply_fractions ?k_multiply_fractions ?a_is_form ?l_is_form ?c_is_form ?k_is_form ?a_dot ?l_dot ?c_dot ?k_dot ?a_add_forms ?l_add_forms ?c_add_forms ?k_add_forms ?a_scale_form ?l_scale_form ?c_scale_form ?k_scale_form ?a_l_draw ?l_l_draw ?c_l_draw ?k_l_draw ?a_l_integer ?l_l_integer ?c_l_integer ?k_l_integer ?a_l_common ?l_l_common ?c_l_common ?k_l_common ?a_l_any ?l_l_any ?c_l_any ?k_l_any ?a_l_number ?l_l_number ?c_l_number ?k_l_number ?a_l_divisors_right ?l_l_divisors_right ?c_l_divisors_right ?k_l_divisors_right ?a_l_equals ?l_l_equals ?c_l_equals ?k_l_equals ?a_l_made ?l_l_made ?c_l_made ?k_l_made ?a_l_fractions_right ?l_l_fractions_right ?c_l_fractions_right ?k_l_fractions_right ?a_l_changed ?l_l_changed ?c_l_changed ?k_l_changed ?a_l_forms_right ?l_l_forms_right ?c_l_forms_right ?k_l_forms_right ?a_law ?l_law ?c_law ?k_law ?z_ValueError ?z_abs ?z_all ?z_bool ?z_int ?z_isinstance ?z_len ?z_list ?z_range ?z_reversed ?z_set ?z_sorted ?z_sum ?z_tuple ?z_zip ?z_gcd ?z_isqrt ?a_fr ?l_fr ?c_fr ?k_fr ?lT_fr ?dT_fr ?aZ ?aH ?xZ ?rZ ?saZ ?eZ ?tZ ?kcZ ?iZ ?tiZ ?lZ ?cdk ?lk ?lk2 ?lk3 ?lc ?clZ ?owZ ?veZ ?suZ ?opZ ?zsu ?topZ ?gaZ ?ggZ ?hdZ ?haZ ?hnZ ?htZ ?hmZ ?isH ?isV ?teZ
    (case a_is_integer => k_is)
    (case l_is_integer => k_is)
    (case c_is_integer => k_is)
    (case k_is_integer => k_is)
    (case a_gcd_of => k_is)
    (case l_gcd_of => k_is)
    (case c_gcd_of => k_is)
    (case k_gcd_of => k_is)
    (case a_divisors => k_is)
    (case l_divisors => k_is)
    (case c_divisors => k_is)
    (case k_divisors => k_is)
    (case a_add_fractions => k_is)
    (case l_add_fractions => k_is)
    (case c_add_fractions => k_is)
    (case k_add_fractions => k_is)
    (case a_multiply_fractions => k_is)
    (case l_multiply_fractions => k_is)
    (case c_multiply_fractions => k_is)
    (case k_multiply_fractions => k_is)
    (case a_is_form => k_is)
    (case l_is_form => k_is)
    (case c_is_form => k_is)
    (case k_is_form => k_is)
    (case a_dot => k_is)
    (case l_dot => k_is)
    (case c_dot => k_is)
    (case k_dot => k_is)
    (case a_add_forms => k_is)
    (case l_add_forms => k_is)
    (case c_add_forms => k_is)
    (case k_add_forms => k_is)
    (case a_scale_form => k_is)
    (case l_scale_form => k_is)
    (case c_scale_form => k_is)
    (case k_scale_form => k_is)
    (case a_l_draw => k_is)
    (case l_l_draw => k_is)
    (case c_l_draw => k_is)
    (case k_l_draw => k_is)
    (case a_l_integer => k_is)
    (case l_l_integer => k_is)
    (case c_l_integer => k_is)
    (case k_l_integer => k_is)
    (case a_l_common => k_is)
    (case l_l_common => k_is)
    (case c_l_common => k_is)
    (case k_l_common => k_is)
    (case a_l_any => k_is)
    (case l_l_any => k_is)
    (case c_l_any => k_is)
    (case k_l_any => k_is)
    (case a_l_number => k_is)
    (case l_l_number => k_is)
    (case c_l_number => k_is)
    (case k_l_number => k_is)
    (case a_l_divisors_right => k_is)
    (case l_l_divisors_right => k_is)
    (case c_l_divisors_right => k_is)
    (case k_l_divisors_right => k_is)
    (case a_l_equals => k_is)
    (case l_l_equals => k_is)
    (case c_l_equals => k_is)
    (case k_l_equals => k_is)
    (case a_l_made => k_is)
    (case l_l_made => k_is)
    (case c_l_made => k_is)
    (case k_l_made => k_is)
    (case a_l_fractions_right => k_is)
    (case l_l_fractions_right => k_is)
    (case c_l_fractions_right => k_is)
    (case k_l_fractions_right => k_is)
    (case a_l_changed => k_is)
    (case l_l_changed => k_is)
    (case c_l_changed => k_is)
    (case k_l_changed => k_is)
    (case a_l_forms_right => k_is)
    (case l_l_forms_right => k_is)
    (case c_l_forms_right => k_is)
    (case k_l_forms_right => k_is)
    (case a_law => k_is)
    (case l_law => k_is)
    (case c_law => k_is)
    (case k_law => k_is)
    (case z_ValueError => k_is)
    (case z_abs => k_is)
    (case z_all => k_is)
    (case z_bool => k_is)
    (case z_int => k_is)
    (case z_isinstance => k_is)
    (case z_len => k_is)
    (case z_list => k_is)
    (case z_range => k_is)
    (case z_reversed => k_is)
    (case z_set => k_is)
    (case z_sorted => k_is)
    (case z_sum => k_is)
    (case z_tuple => k_is)
    (case z_zip => k_is)
    (case z_gcd => k_is)
    (case z_isqrt => k_is)
    (case a_fr => k_is)
    (case l_fr => k_is)
    (case c_fr => k_is)
    (case k_fr => k_is)
    (case lT_fr => k_is)
    (case dT_fr => rfl)
    (case aZ => k_is)
    (case aH => k_is)
    (case xZ => k_is)
    (case rZ => decide +kernel)
    (case saZ => k_is)
    (case eZ => k_is)
    (case tZ => k_is)
    (case kcZ => k_is)
    (case iZ => k_is)
    (case tiZ => k_is)
    (case lZ => k_is)
    (case cdk => k_is)
    (case lk => k_is)
    (case lk2 => rfl)
    (case lk3 => decide +kernel)
    (case lc => k_is)
    (case clZ => k_is)
    (case owZ => k_is)
    (case veZ => k_is)
    (case suZ => ks_is)
    (case opZ => k_is)
    (case zsu => k_is)
    (case topZ => decide +kernel)
    (case gaZ => k_is)
    (case ggZ => k_is)
    (case hdZ => k_is)
    (case haZ => k_is)
    (case hnZ => k_is)
    (case htZ => k_is)
    (case hmZ => k_is)
    (case isH => first | kit_is | kernel_rfl)
    (case isV => first | kit_is | kernel_rfl)
    (case teZ => kernel_rfl)
#print axioms PySem.Challenge.cw_hushgrain_k01_numbers_and_forms_holds
