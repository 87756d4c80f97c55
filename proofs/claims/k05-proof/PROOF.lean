import PyProof.Rows.All
import Wide.All
import OpenK.AllK
import Wide.FinOn
import HandS.ForMost
import HandS.ForExc
import HandS.IsInst
import HandS.Wide
import HandS.Gcd
import HandS.Zip
import HandS.Rev
import HandS.TupAny
import HandS.Strs
import HandS.SortInts
import HandS.ExcInit
import HandS.Nested
import KE.KExcSuper
import HandS.Walk
import KE.GoesEnum
import HandS.SetFor
import HandS.TupMul
import HandS.Style
import PySem.Challenge.RW_hushgrain_k05_bases_of_any_object

set_option Elab.async false
set_option linter.all false
set_option maxRecDepth 100000
set_option maxHeartbeats 2000000
namespace Hg
open PySem PySem.Spec PyProof.Rows L2

section
variable {X : Cx}
/-! ### operators of several kinds at once -/
abbrev rAddI : R2 := rI0 fun i j => .int (i + j)
abbrev rAddS : R2 := fun x y H Q => ∃ i j, x = .str i ∧ y = .str j ∧ i.length + j.length ≤ sizeLine ∧ Q (.str (i ++ j)) H
def rPlus (K : PySem.W.Frag) : R2 := fun x y H Q => rAddI x y H Q ∨ (rCat x y H Q ∨ (rCatA K x y H Q ∨ rAddS x y H Q))
theorem oAdd : OpR X (binaryOp .Add) (rPlus X.K) := op_add.or (op_cat.or (op_catA.or op_add_str))
abbrev rMulI : R2 := rI CMulW fun i j => .int (i * j)
theorem oMul : OpR X (binaryOp .Mult) rMulI := op_mulW
/-- // by any divisor but 0 below 2 ^ 9000 in size -/
def CDivA (_ j : Int) : Prop := j ≠ 0 ∧ j.natAbs.log2 < 9000
abbrev rDivI : R2 := rI CDivA fun i j => .int (i.fdiv j)
theorem oDiv : OpR X (binaryOp .FloorDiv) rDivI := opI fun i j _ _ _ _ _ hc q =>
  PyProof.Rows.floordiv_int hc.1 q (.inl (PyProof.noPylong_of_log2 hc.2))
abbrev rModI : R2 := rI (fun _ j => j ≠ 0) fun i j => .int (i.fmod j)
theorem oMod : OpR X (binaryOp .Mod) rModI := op_modN
def rEqA (K : PySem.W.Frag) : R2 := fun x y H Q => rEq x y H Q ∨ rEqD K x y H Q
def rNeA (K : PySem.W.Frag) : R2 := fun x y H Q => rNe x y H Q ∨ rNeD K x y H Q
theorem oEq (hu : X.A.units + 64 < cLine) : OpR X (compareOp .Eq) (rEqA X.K) := op_eq.or (op_eqD hu)
theorem oNe (hu : X.A.units + 64 < cLine) : OpR X (compareOp .NotEq) (rNeA X.K) := op_ne.or (op_neD hu)
def rSlAll (K : PySem.W.Frag) : V → Option Int → Option Int → Hp → VK → Prop := fun x lo hi H Q => rSlL K x lo hi H Q ∨ rSlA K x lo hi H Q
theorem oSl : SlR X (rSlAll X.K) := sl_list.or sl_tupA
/-! ### isqrt -/
def rIsqrt : List V → Hp → VK → Prop := fun vs H Q => ∃ a : Int, vs = [.int a] ∧ 0 ≤ a ∧ a < 2 ^ 64 ∧ Q (.int ((Float64.isqrt a.toNat : Nat) : Int)) H
theorem cr_isqrt : CallR X (.builtin "math.isqrt") rIsqrt := by
  intro pins s σ H vs us Q I r h
  obtain ⟨a, rfl, h0, h1, q⟩ := h
  obtain ⟨u, rfl, t, rfl⟩ := Vals.one r
  exact PySem.W.mg_isqrt h0 h1 ⟨.int _, H, I.tok _, ⟨_, rfl⟩, q⟩
end
end Hg

set_option maxHeartbeats 4000000
namespace Hg
open PySem PySem.Spec PyProof.Rows L2

/-- what the top has left of an error class at C whose __init__ stands at fI, its class cell at cc, its code at cda -/
structure ErrK (P : Program) (K : PySem.W.Frag) (mg : Str → Option Value) (C fI cc cda : Addr) : Prop where
  oex : OexC K C
  code : ∃ (ccl : Value) (cdd : Option Addr) (vs : Array Value) (ccs : Array (Option Value)) (tf : Tok) (fl : Str), K.lookup cda = some ⟨ccl, cdd, .fields vs, ccs⟩ ∧ vs[2]? = some (.str fl tf) ∧ ((P.main.file : Str) == fl) = true
  cell : ∃ (cl : Value) (cld : Option Addr) (csl : Array (Option Value)), K.lookup cc = some ⟨cl, cld, .cell (some (.ref C)), csl⟩
  cls : ∃ cd, PySem.W.clsIn K C = some cd
  own : PySem.W.mroIn K C (.ref C) = some true
  ve : PySem.W.subIn K (.ref C) (.type "ValueError") = some true
  sup : PySem.W.ks_superIn K C C "__init__" = some (some (.builtin "ValueError.__init__"))
  opq : PySem.W.nsIn K cStatics "thirdparty.any" = some none
  zsup : mg "super" = none
  top : (P.main.scope.names.lookup ("super" : Str)).isSome = false

section
variable {P : Program} {w : World} {K : PySem.W.Frag} {mg : Str → Option Value} {base : Heap} {CX : CXT} {C fI cc cda : Addr}
variable {qual : Str} {params : Arguments} {rest : List Stmt} {scope : Scope} {doc pm ct oc : Value} {od : Option Addr} {osl : Array (Option Value)} {N ps : List Str} {k : Nat} {sp : Sp}

def nfOf (qual : Str) (params : Arguments) (body : List Stmt) (scope : Scope) (cc cda : Addr) : NdefX.NF := ⟨"__init__", qual, params, body, scope, [("__class__", cc)], cda⟩

theorem cls_data {h : Heap} {cd : ClassData} (X : K.In h) (e : PySem.W.clsIn K C = some cd) : ∃ o, h.get? C = some o ∧ o.data = .cls cd := by
  unfold PySem.W.clsIn at e
  split at e
  · cases e
    exact ⟨_, X _ _ (by assumption), rfl⟩
  · cases e

theorem exo_inst {h : Heap} {x t1 : Addr} (e : h.get? x = some ({ cls := .ref C, dict := none, data := .fields #[.ref t1, .none, .none, .none, .bool false, .none] } : Obj)) :
    PySem.W.InstAt h x { cls := .ref C, dict := none, data := .fields #[.ref t1, .none, .none, .none, .bool false, .none] } C none := ⟨e, rfl, rfl, trivial⟩

/-- the class cell as the captured name -/
theorem cells_at (T : ErrK P K mg C fI cc cda) {h : Heap} {H : Hp} (X : K.In h) (hn : H cc = none) : NdefX.CellsAt [("__class__", cc)] ["__class__"] [some (.ref C)] h H := by
  obtain ⟨cl, cld, csl, e⟩ := T.cell
  have hc : h.IsCell cc (some (.ref C)) := ⟨_, X _ _ e, rfl⟩
  have key : ∀ y c, List.lookup y [(("__class__" : Str), cc)] = some c → y = "__class__" ∧ c = cc := fun y c q => by
    simp only [List.lookup] at q
    split at q
    · exact ⟨by simpa using (by assumption : (y == ("__class__" : Str)) = true), (Option.some.inj q).symm⟩
    · cases q
  refine ⟨rfl, fun y c q => ?_, fun x y c a b => ((key x c a).1).trans ((key y c b).1).symm, fun i y q => ?_⟩
  · obtain ⟨_, rfl⟩ := key y c q
    exact ⟨hn, _, hc⟩
  · cases i with
    | zero =>
      have e2 : y = "__class__" := (Option.some.inj q).symm
      subst e2
      refine ⟨cc, by simp [List.lookup], fun v hv => ?_⟩
      have e3 : v = .ref C := (Option.some.inj (Option.some.inj hv)).symm
      subst e3
      exact ⟨.ref C, rfl, hc⟩
    | succ n => simp at q
/-- the equation of the tree super().__init__('text'), by rfl where the places are written -/
def SupEq (F : NdefX.NF) (fI L : Addr) (txt : Str) (jj : Nat) (p0 p1 p2 p3 p4 : Pos) (pl : Sem Bool) : Prop :=
  eval (.Call (.Attribute (.Call (.Name "super" p0) [] [] p1) "__init__" p2) [.Constant (.str txt) jj p3] [] p4) (NdefX.envF F fI L) = (do
    let ov ← attributeBase (.Call (.Name "super" p0) [] [] p1) "__init__" (NdefX.envF F fI L) (eval (.Call (.Name "super" p0) [] [] p1) (NdefX.envF F fI L))
    standAt p2.atName
    let (f, first) ← holding [ov] (getMethod ov "__init__" pl)
    callWith p4 f first (backTo p4 (starEach [.Constant (.str txt) jj p3] (NdefX.envF F fI L))) [])
/-- super().__init__('text') as the first row of an error's __init__: behind it all that was tracked stands -/
theorem super_run (T : ErrK P K mg C fI cc cda) {body : List Stmt} {txt : Str} {jj : Nat} {p0 p1 p2 p3 p4 p5 : Pos}
    {A : Around} {outer : List Env} {s : Shared} {H H0 : Hp} {E : XK} {s1 : Shared} {ws : List (Option V)} {a : Addr}
    (S : NdefX.NScope N ps ["__class__"] scope) (lf : K.lookup fI = some ⟨oc, od, .func ((nfOf qual params body scope cc cda).fd doc pm ct), osl⟩)
    (par : ∃ ar, (params.posonlyargs ++ params.args).head? = some ar ∧ ar.arg = "self") (hself : N[0]? = some ("self" : Str)) (hks : scope.names.lookup ("super" : Str) = some .globalImplicit) (hkc : scope.names.lookup ("__class__" : Str) = some .free) (hka : scope.names.lookup ("self" : Str) = some .local)
    (I : Inv (NdefX.ncx CX P w K mg base N (nfOf qual params body scope cc cda) fI A outer s H0 E) [] ws H s1) (hw : ws[0]? = some (some (.ref a))) (ea : H a = some (exo a C none))
    {Q : Flow → Shared → Prop} {E1 : Value → Shared → Prop} {pl : Sem Bool} (he : ∀ L, SupEq (nfOf qual params body scope cc cda) fI L txt jj p0 p1 p2 p3 p4 pl)
    (q : ∀ s2, Inv (NdefX.ncx CX P w K mg base N (nfOf qual params body scope cc cda) fI A outer s H0 E) [] ws H s2 → Q .next s2) :
    PySem.wpAt (model P w) (A.deeper (NdefX.envF (nfOf qual params body scope cc cda) fI s.heap.objs.size)) (.func body (NdefX.envF (nfOf qual params body scope cc cda) fI s.heap.objs.size))
      (exec (.Expr (.Call (.Attribute (.Call (.Name "super" p0) [] [] p1) "__init__" p2) [.Constant (.str txt) jj p3] [] p4) p5) (NdefX.envF (nfOf qual params body scope cc cda) fI s.heap.objs.size)) Q E1 s1 := by
  obtain ⟨ccl, cdd, cvs, ccs, tf, fl, lcode, hv2, hfile⟩ := T.code
  obtain ⟨cl, cld, csl, lcell⟩ := T.cell
  obtain ⟨cd, hcd⟩ := T.cls
  obtain ⟨ar, har, hars⟩ := par
  have X : K.In s1.heap := I.kIn
  obtain ⟨oD, hD1, hD2⟩ := cls_data X hcd
  obtain ⟨m, hns, hloc⟩ := I.loc
  obtain ⟨u, ru, hu⟩ := hloc 0 "self" (.ref a) hself hw (.inl hka)
  cases (show u = Value.ref a from ru)
  have hm : m "self" = some (.ref a) := by
    rcases hu with ⟨_, z⟩ | ⟨z, _⟩
    · exact z
    · rcases z with z | z
      · have z2 := hka.symm.trans z
        cases z2
      · have z2 := hka.symm.trans z
        cases z2
  obtain ⟨t1, ho⟩ := exo_at I.hok ea
  have hloc0 : (NdefX.envF (nfOf qual params body scope cc cda) fI s.heap.objs.size).kindOf "self" = some .local := hka
  refine PySem.ks_wpAt_Expr_any (PySem.ks_wpAt_MethodCall ?_ (he s.heap.objs.size)) I.quiet rfl
  refine PySem.ks_wpAt_super_base (ar := ar) (vs := cvs) (file := fl) (tf := tf) (cc := cda) hks hkc (by decide) rfl (X _ _ lf) rfl har rfl (X _ _ lcode) rfl hv2 hfile T.top ?_
  obtain ⟨mb, hb1, hb2⟩ := I.mod.blt
  have hg : (NdefX.envF (nfOf qual params body scope cc cda) fI s.heap.objs.size).kindOf "super" = some .globalImplicit := hks
  refine PySem.W.ks_loadName_global S.kind hg (Calls.loadGlobal_builtin (I.mod.glob.keeps I.bk) T.zsup (hb1.keeps I.bk) ((hb2 _ (by decide +kernel)).trans PyProof.Rows.Boot.«super») ⟨rfl, ?_⟩)
  refine wpAny_loadName_free S.kind hkc rfl ⟨_, X _ _ lcell, rfl⟩ ?_
  rw [hars]
  refine wpAny_loadName_local S.kind hka hns hm ?_
  obtain ⟨hp, g, d, t, os⟩ := s1
  refine PySem.ks_wpAny_isType_cls hD1 hD2 ⟨rfl, ?_⟩
  refine PySem.ks_wpAny_call_super hD1 hD2 ho rfl (fun c z => by cases z) (PySem.W.looks_mroIn X T.own) (fun h2 e2 k2 => ?_)
  have I2 := I.kept (h' := h2) (t' := t) k2
  have X2 : K.In h2 := I2.kIn
  have ho2 := k2 _ _ ho
  have hin : PySem.W.Looks (model P w) h2 (isInstance (.ref a) (.type "ValueError")) true := (exo_inst ho2).type.andThen (PySem.W.looks_subIn X2 T.ve)
  have hsup := T.sup
  unfold PySem.W.ks_superIn at hsup
  rw [hcd, Option.bind_some] at hsup
  have hac : a ≠ C := PySem.W.ks_ne X2 (exo_inst ho2) hcd
  refine PySem.W.kxs_getMethod PySem.W.kxs_ValueError e2 (PySem.W.looks_opaque X2 T.opq) (l₀ := cd.mro) (fun A Q E s k q => wpAny_bind ((PySem.W.looks_clsIn X2 hcd) A _ E s k (wpAny_pure q))) rfl X2 hsup hin hac (by decide) ?_
  have k3 : ∀ b o, h2.get? b = some o → (h2.push (PySem.W.kxs_mw "ValueError.__init__" a)).get? b = some o := fun b o e => Heap.get?_push_of_some _ e
  have e3 : (h2.push (PySem.W.kxs_mw "ValueError.__init__" a)).get? h2.objs.size = some (PySem.W.kxs_mw "ValueError.__init__" a) := Heap.get?_push_at rfl rfl
  have I3 := I2.kept (h' := h2.push (PySem.W.kxs_mw "ValueError.__init__" a)) (t' := t + 1) k3
  refine PySem.W.kxs_callWith (i := "ValueError.__init__") (x := a) rfl ?_
  have hst : starEach [Expr.Constant (.str txt) jj p3] (NdefX.envF (nfOf qual params body scope cc cda) fI s.heap.objs.size) = (false, eval (Expr.Constant (.str txt) jj p3) (NdefX.envF (nfOf qual params body scope cc cda) fI s.heap.objs.size)) :: starEach [] (NdefX.envF (nfOf qual params body scope cc cda) fI s.heap.objs.size) := rfl
  rw [hst]
  refine PySem.Calls.evalArgs_plain (PyProof.Rows.args_cons (PySem.Calls.Constant_str (PyProof.Rows.args_nil ⟨e3, ?_⟩)) rfl)
  have ho3 := k3 _ _ ho2
  obtain ⟨nm, qn, NN, bs, bm, sn, sub, ab, col, dd, k0, k1, k2', k3', k5, hC, hbm⟩ := T.oex.cls
  have hC3 := k3 _ _ (X2 _ _ hC)
  refine wpAny_call (codeAny_of_tree ?_)
  show PySem.wpAny _ _ (callAny (.ref h2.objs.size) ⟨_, []⟩) _ _ _
  simp only [callAny]
  refine wpAny_bind (wpAny_load e3 ?_)
  have mw1 : (Value.type "method-wrapper" == Value.type "method" || Value.type "method-wrapper" == Value.type "builtin_function_or_method" || Value.type "method-wrapper" == Value.type "method-wrapper") = true := by decide
  simp only [PySem.W.kxs_mw, mw1, if_true]
  refine PySem.W.KFB.if_so (by decide) (wpAny_bind (PySem.W.check_bound_init F.excBase_ValueError.toExcCallFacts hC3 ho3 rfl ?_))
  refine wpAny_bind (wpAny_pure (wpAny_pure ⟨plainId_quiet F.excBase_ValueError.init.plain _, codeAny_builtin F.excBase_ValueError.initEntry ?_⟩))
  refine PySem.W.exc_init_tree (cls := .ref C) (t0 := t1) (dv := none) (c2 := .none) (c3 := .none) (b4 := .bool false) ho3 (by rw [sizeLine_eq]; exact (by decide : 1 ≤ 16777216)) fun h5 k5 e5 _ => ?_
  have I5 := I3.write (t' := t + 1 + 1) (x := a) (e := a) (o := exo a C none) (by rw [ea]; exact True.intro) (.inl rfl) k5 ⟨_, e5⟩ (exo_ok e5)
  have eu : upd H a (exo a C none) = H := by
    funext b
    by_cases hb : b = a
    · rw [hb, upd_same, ea]
    · rw [upd_ne hb]
  rw [eu] at I5
  exact q _ I5
end
end Hg

set_option maxHeartbeats 4000000
namespace Hg
open PySem PySem.Spec PyProof.Rows L2
section
variable {P : Program} {w : World} {K : PySem.W.Frag} {mg : Str → Option Value} {base : Heap} {C fI cc cda : Addr}
variable {qual : Str} {params : Arguments} {rest : List Stmt} {scope : Scope} {doc pm ct oc : Value} {od : Option Addr} {osl : Array (Option Value)} {N ps : List Str} {k : Nat} {sp : Sp}
def supRow (txt : Str) (jj : Nat) (p0 p1 p2 p3 p4 p5 : Pos) : Stmt := .Expr (.Call (.Attribute (.Call (.Name "super" p0) [] [] p1) "__init__" p2) [.Constant (.str txt) jj p3] [] p4) p5
/-- THE RULE for the __init__ of an error class whose first row is super().__init__('text'): sp speaks of .ref a :: .., a the fresh exception -/
theorem fn_err (T : ErrK P K mg C fI cc cda) {txt : Str} {jj : Nat} {p0 p1 p2 p3 p4 p5 : Pos} {pl : Sem Bool}
    (S : NdefX.NScope N ps ["__class__"] scope) (lf : K.lookup fI = some ⟨oc, od, .func ((nfOf qual params (supRow txt jj p0 p1 p2 p3 p4 p5 :: rest) scope cc cda).fd doc pm ct), osl⟩)
    (hcode : PySem.W.codeIn K (.ref cda) qual = true)
    (par : ∃ ar, (params.posonlyargs ++ params.args).head? = some ar ∧ ar.arg = "self") (hps : ps[0]? = some ("self" : Str)) (hks : scope.names.lookup ("super" : Str) = some .globalImplicit)
    (he : ∀ L, SupEq (nfOf qual params (supRow txt jj p0 p1 p2 p3 p4 p5 :: rest) scope cc cda) fI L txt jj p0 p1 p2 p3 p4 pl)
    (len : ∀ vs H Q E, sp vs H Q E → vs.length = ps.length) (hself : ∀ vs H Q E, sp vs H Q E → ∃ a us, vs = .ref a :: us ∧ H a = some (exo a C none))
    (hbody : ∀ (A : Around) (outer : List Env) (s : Shared) (H : Hp) (vs : List V) (Q : VK) (E : XK), Room k (A.deeper (NdefX.envF (nfOf qual params (supRow txt jj p0 p1 p2 p3 p4 p5 :: rest) scope cc cda) fI s.heap.objs.size)) → sp vs H Q E →
      ∃ t, PSs (NdefX.ncx CX0 P w K mg base N (nfOf qual params (supRow txt jj p0 p1 p2 p3 p4 p5 :: rest) scope cc cda) fI A outer s H E) rest t ∧ t { nx := fun _ H' => Q .non H', rt := Q } (NdefX.startF N vs [some (.ref C)]) H) :
    FnOk P w K mg base CX0 (k + 1) fI ((nfOf qual params (supRow txt jj p0 p1 p2 p3 p4 p5 :: rest) scope cc cda).fd doc pm ct) ps sp := by
  refine ⟨len, fun A outer s H args us vs Q E hr e0 hb r hsp => ?_⟩
  have hl := len _ _ _ _ hsp
  have X : K.In s.heap := e0.mod.kin.keeps fun b o e => (e0.bs b o e).1
  have lim : s.heap.NoLimit := e0.mod.nolimit.keeps fun b o e => (e0.bs b o e).1
  have Hcc : H cc = none := by
    obtain ⟨cl, cld, csl, lc⟩ := T.cell
    exact (e0.bs _ _ (e0.mod.kin _ _ lc)).2
  have CA := cells_at T X Hcc
  have hka : ∀ y ∈ ps.zip us, scope.names.lookup y.1 = some .local := fun ⟨n, _⟩ hy => S.par n (List.of_mem_zip hy).1
  refine PySem.ks_codeAny_call_defAt hr.depth (X _ _ lf) rfl lim (PySem.W.codeRec_of X hcode) rfl hb S.nocell hka (fun h₁ hns kp => ?_) S.co S.gen S.kind
  obtain ⟨a, us', rfl, ea⟩ := hself _ _ _ _ hsp
  have I : Inv (NdefX.ncx CX0 P w K mg base N (nfOf qual params (supRow txt jj p0 p1 p2 p3 p4 p5 :: rest) scope cc cda) fI A outer s H E) [] (NdefX.startF N (.ref a :: us') [some (.ref C)]) H { s with heap := h₁, toks := s.toks + (ps.zip us).length } := NdefX.inv_startN S hr.hd e0 hl r CA hns kp
  have hN0 : N[0]? = some ("self" : Str) := by
    have q : (N.take (ps.length + 1))[0]? = (ps ++ [("__class__" : Str)])[0]? := congrArg (fun l : List Str => l[0]?) S.pre
    rw [List.getElem?_take_of_lt (by omega)] at q
    rw [q]
    cases ps with
    | nil => simp at hps
    | cons p r => exact hps
  have hpar : scope.names.lookup ("self" : Str) = some .local := S.par _ (List.mem_of_getElem? hps)
  refine PySem.ks_wpAt_execs_cons (super_run T S lf par hN0 hks (S.frk _ (by simp)) hpar I (by simp [NdefX.startF]) ea he fun s2 I2 => ?_)
  obtain ⟨t, ht, hq⟩ := hbody A outer s H (.ref a :: us') Q E (hr.deeper _) hsp
  refine PySem.wpAt_of_wpAny (PySem.wpAny_mono (ht.run [] _ _ H _ I2 hq) (fun fl s' hs => ?_) fun e s' hs => hs)
  have fin : ∀ {σ' : L2.St} {H' : Hp} {v : V} {u : Value}, Inv (NdefX.ncx CX0 P w K mg base N (nfOf qual params (supRow txt jj p0 p1 p2 p3 p4 p5 :: rest) scope cc cda) fI A outer s H E) [] σ' H' s' → L2.RelV v u → Q v H' → CE outer P w H s Q u s' :=
    fun {σ' H' v u} J rv q => ⟨v, H', J.os, J.bare, J.base, J.hok, rv, q⟩
  cases fl with
  | ret u =>
    obtain ⟨v, σ', H', J, rv, q⟩ := hs
    exact fin J rv q
  | next =>
    obtain ⟨σ', H', J, q⟩ := hs
    exact fin (v := V.non) (u := Value.none) J rfl q
  | brk =>
    obtain ⟨_, _, _, q⟩ := hs
    exact False.elim q
  | cont =>
    obtain ⟨_, _, _, q⟩ := hs
    exact False.elim q
end
end Hg

set_option maxHeartbeats 4000000
namespace Hg
open PySem PySem.Spec PyProof.Rows L2
section
variable {X : Cx}
/-- the end of C(): the exception has no dict and is let go -/
theorem mk_bare {pins : List (Addr × Obj)} {σ : L2.St} {H1 H2 : Hp} {Q : XK} {hp hp2 h2 : Heap} {g1 g2 : Array GenState} {d1 d2 : Drawn} {t1 t2 : Nat} {os1 os2 : OsState} {a C : Addr}
    (T : Raises X (.ref C)) (I1 : Inv X pins σ H1 ⟨hp, g1, d1, t1, os1⟩) (ha : hp.objs.size ≤ a) (k : ∀ b o, hp.get? b = some o → hp2.get? b = some o)
    (un : Un (frs X.stack) [] (upd H1 a (exo a C none)) H2 hp2 h2) (hok : HOk X.prog X.w H2 h2) (ho : os2 = os1) (hb : AllBare g2) (ea : H2 a = some (exo a C none)) (q : Q (.ref C) none (del H2 a)) :
    MkP X pins σ Q (.ref a) ⟨h2, g2, d2, t2, os2⟩ := by
  obtain ⟨t0, hoe⟩ := exo_at hok ea
  have hn : H1 a = none := I1.hok.fresh ha
  obtain ⟨G, g1', g2'⟩ := restrict h2 fun b => decide (b ≠ a)
  have gk : ∀ b, b ≠ a → G.get? b = h2.get? b := fun b hb => g1' b (decide_eq_true hb)
  have ge : G.get? a = none := g2' a (by simp)
  have old : ∀ {b : Addr} {o : Obj}, hp.get? b = some o → b ≠ a := fun {b o} z e => by
    have l := Heap.lt_size z
    rw [e] at l
    exact absurd (Nat.lt_of_lt_of_le l ha) (Nat.lt_irrefl _)
  have up : ∀ {b : Addr}, b ≠ a → H1 b = none → upd H1 a (exo a C none) b = none := fun {b} hb n => (upd_ne hb).trans n
  have U : Un (frs X.stack) [] H1 (del H2 a) hp G :=
    ⟨fun b o z n hf hx => (gk b (old z)).trans (un.keep b o (k b o z) (up (old z) n) hf hx),
     fun b o z n hf hx => by
       obtain ⟨sl, e⟩ := un.slot b o (k b o z) (up (old z) n) hf hx
       exact ⟨sl, (gk b (old z)).trans e⟩,
     fun b o z n hx => (del_ne (old z)).trans (un.free b o (k b o z) (up (old z) n) hx),
     fun b o z hx => by
       obtain ⟨o', e⟩ := un.there b o (k b o z) hx
       exact ⟨o', (gk b (old z)).trans e⟩,
     fun b xs z => (del_ne (ne_of_none z hn)).trans (un.tups b xs ((upd_ne (ne_of_none z hn)).trans z)),
     fun b o v z => (del_ne (ne_of_none z hn)).trans (un.frzs b o v ((upd_ne (ne_of_none z hn)).trans z)),
     fun b ps z => by
       obtain ⟨more, e⟩ := un.tbls b ps ((upd_ne (ne_of_none z hn)).trans z)
       exact ⟨more, (del_ne (ne_of_none z hn)).trans e⟩⟩
  have hok3 : HOk X.prog X.w (del H2 a) G := fun b o z => by
    have hba : b ≠ a := fun e => by
      rw [e, del_same] at z
      cases z
    rw [del_ne hba] at z
    have noa : ∀ {c : Addr}, H2 c = some (.own b) → c ≠ a := fun {c} hc => at_ne ea hc exo_own
    refine (hok b o z).stay (fun c v hc y => ?_) (fun c hc => (del_ne (noa hc)).trans hc) (fun c xs hc => (del_ne (at_ne ea hc exo_tup)).trans hc)
    have hca : c ≠ a := hc.elim (fun e => e ▸ hba) noa
    exact (gk c hca).trans y
  have J : Inv X pins σ (del H2 a) ⟨G, g2, d2, t2, os2⟩ := I1.call' (ch := []) ho U hok3 hb (fun b z => absurd z (by simp))
  have kG : ∀ b o, G.get? b = some o → h2.get? b = some o := fun b o z => by
    by_cases hba : b = a
    · rw [hba, ge] at z
      cases z
    · exact (gk b hba).symm.trans z
  exact ⟨a, _, _, ⟨G, g2, d2, t2, os2⟩, _, .ref C, none, rfl, J, kG, ge, hoe, ⟨rfl, rfl⟩, rfl, rfl, del_same, rfl, hb, T, q⟩
/-- C(), C an error class whose own __init__ takes nothing but itself and stores nothing -/
def tMk0 (C : Addr) (sp : Sp) : L2.St → Hp → XK → Prop := fun _ H Q => ∀ a, H a = none → sp [.ref a] (upd H a (exo a C none)) (fun v H2 => v = .non ∧ H2 a = some (exo a C none) ∧ Q (.ref C) none (del H2 a)) (fun _ _ _ => False)
theorem pmk_err0 {x : Str} {C fI : Addr} {k : Nat} {fd : FuncData} {ps : List Str} {sp : Sp} {p pos : Pos} (T : OexC X.K C) (iC : PySem.W.findIn X.K (.ref C) "__init__" = some (some (.ref fI)))
    (tI : PySem.W.typeIn X.K (.ref fI) = some (.type "function")) (F1 : FnOk X.prog X.w X.K X.mg X.base CX0 k fI fd ps sp) (hr : Room (k + 1) X.A) (hb : Binds X.K fd ps [])
    (hg : Gl X x) (hm : X.mg x = some (.ref C)) (hdb : (x == ("__debug__" : Str)) = false := by decide) : PMk X (.Call (.Name x p) [] [] pos) (tMk0 C sp) := by
  intro pins s σ H Q I h
  obtain ⟨nm, q, N, bs, bm, sn, sub, ab, col, dd, k0, k1, k2, k3, k5, hC, hbm⟩ := T.cls
  refine wpAny_Call_Name_kw (ld_glob I hg hm ?_ hdb)
  refine PySem.W.callWith_K0 I.kIn T.kC ?_
  obtain ⟨hp, g, dr, tk, os⟩ := s
  have fr : H (hp.objs.size + 1) = none := I.hok.fresh (Nat.le_succ _)
  have hq := h _ fr
  have kk : ∀ b o, hp.get? b = some o → ((hp.push (PySem.W.kdv_tup [])).push (PySem.HandSPX.excO C hp.objs.size)).get? b = some o :=
    fun b o e => Heap.get?_push_of_some _ (Heap.get?_push_of_some _ e)
  have hget : ((hp.push (PySem.W.kdv_tup [])).push (PySem.HandSPX.excO C hp.objs.size)).get? (hp.objs.size + 1) = some (PySem.HandSPX.excO C hp.objs.size) := by heap_get
  have I2 := I.laid (t' := tk) (a := hp.objs.size + 1) (o := exo (hp.objs.size + 1) C none) kk (Nat.le_succ _) (exo_ok hget)
  have hl : ([Value.ref (hp.objs.size + 1)] ++ ([] : List Value)).length = ps.length := (F1.len _ _ _ _ hq)
  have r1 : Vals [V.ref (hp.objs.size + 1)] ([Value.ref (hp.objs.size + 1)] ++ []) := .cons (show L2.RelV (V.ref (hp.objs.size + 1)) (Value.ref (hp.objs.size + 1)) from rfl) .nil
  have run := F1.run _ X.stack _ _ ⟨[Value.ref (hp.objs.size + 1)], []⟩ _ _ _ (fun _ _ _ => False) (hr.make C [] []) (I2.env0.make C [] []) (hb _ [Value.ref (hp.objs.size + 1)] I2.kIn hl) r1 hq
  refine wpAny_call (PySem.HandSPX.call_own F.excBase_ValueError (fun Y => PySem.HandSPX.refsVE_contains Y bm hbm) (I.kIn _ _ hC) (PySem.W.looks_findIn I.kIn iC) (fun self => PySem.W.bind_fn I.kIn self tI) (by simp) (codeAny_mono run fun r s' z => ?_))
  match r, z with
  | .error er, z => exact False.elim z
  | .ok (.ret u), z =>
    obtain ⟨v, H2, os2, bare2, un2, hok2, rv, ev, ea, q2⟩ := z
    subst ev
    obtain ⟨h2, g2, d2, t2, os'⟩ := s'
    exact ⟨rv, mk_bare (raises_own T.exC T.tyC) I (Nat.le_succ _) kk un2 hok2 os2 bare2 ea q2⟩
  | .ok .next, z => exact False.elim z
  | .ok .brk, z => exact False.elim z
  | .ok .cont, z => exact False.elim z
end
end Hg

set_option maxHeartbeats 4000000
namespace Hg
open PySem PySem.Spec PyProof.Rows L2
/-! ### a list or a tuple, by a flag -/
def SqK (K : PySem.W.Frag) : Bool → Hp → Addr → List V → Prop
  | true => SqT K
  | false => SqL K
def ItK (K : PySem.W.Frag) : Bool → Addr → It
  | true => Itt K
  | false => Itl K
theorem SqK.inj {X : Cx} {pins : List (Addr × Obj)} {σ : L2.St} {H : Hp} {s : Shared} {k : Bool} {a : Addr} {xs ys : List V} (I : Inv X pins σ H s) (h : SqK X.K k H a xs) (h' : SqK X.K k H a ys) : xs = ys := by
  cases k with
  | true => exact I.tuple_inj h h'
  | false => exact I.list_inj h h'
theorem walk_k {K : PySem.W.Frag} {k : Bool} {a : Addr} {xs : List V} : Walk (ItK K k a) xs.length (fun H => SqK K k H a xs) (YAt xs) := by
  cases k with
  | true => exact ⟨fun i _ hi q => ⟨xs, xs[i], q, by simp [hi]⟩, fun _ q => ⟨xs, q, Nat.le_refl _⟩, fun i H v H' _ q y => ⟨y.1, y.2 xs q⟩⟩
  | false => exact ⟨fun i _ hi q => ⟨xs, xs[i], q, by simp [hi]⟩, fun _ q => ⟨xs, q, Nat.le_refl _⟩, fun i H v H' _ q y => ⟨y.1, y.2 xs q⟩⟩
def iSeq (K : PySem.W.Frag) (te : TE) : TI := fun σ H R => te σ H fun x H1 => ∃ (k : Bool) (a : Addr) (xs : List V), x = .ref a ∧ SqK K k H1 a xs ∧ R (ItK K k a) H1
section
variable {X : Cx} {tg : Expr}
theorem pi_seq {e : Expr} {te : TE} (he : PE X e te) : PI X tg e (iSeq X.K te) := by
  refine ⟨fun pins s σ H R I h => thn (he.run pins s σ H _ I h) ?_⟩
  rintro v s1 ⟨x, H1, I1, r1, k, a, xs, rfl, hq, q⟩
  cases (show v = Value.ref a from r1)
  have one : ∀ b ∈ [s1.heap.objs.size], FpOk X pins H1 b := fun b hb => by
    rw [List.mem_singleton.mp hb]
    exact I1.fpOk (Nat.le_refl _) I1.fresh
  have up : ∀ o, Inv X pins σ H1 { s1 with heap := s1.heap.push o, toks := s1.toks } := fun o => I1.kept (t' := s1.toks) fun b u e => Heap.get?_push_of_some _ e
  cases k with
  | true =>
    obtain ⟨its, rv, p, hz⟩ := I1.tuple hq
    exact wpAny_pyIter_tuple (show s1.heap.IsTuple a its.toArray from p) ⟨_, [s1.heap.objs.size], _, _, H1, rfl, up _, turn_tuple a _, ⟨_, Heap.get?_push_size _ rfl, rfl, rfl⟩, one, q⟩
  | false =>
    obtain ⟨its, rv, p, hz⟩ := I1.list hq
    exact wpAny_pyIter_list p.isList ⟨_, [s1.heap.objs.size], _, _, H1, rfl, up _, turn_list a _, ⟨_, Heap.get?_push_size _ rfl, rfl, rfl⟩, one, q⟩
end
/-! ### zip of two of them -/
def ItzK (K : PySem.W.Frag) (k l : Bool) (a b : Addr) : It :=
  ⟨fun i H => ∃ (xs ys : List V) (x y : V), SqK K k H a xs ∧ SqK K l H b ys ∧ xs[i]? = some x ∧ ys[i]? = some y,
    fun i H v H' => ∃ T x y, v = .ref T ∧ H T = none ∧ H' = upd H T (.tup [x, y]) ∧ (∀ xs, SqK K k H a xs → xs[i]? = some x) ∧ ∀ ys, SqK K l H b ys → ys[i]? = some y,
    fun i H => ∃ xs ys : List V, SqK K k H a xs ∧ SqK K l H b ys ∧ i ≤ xs.length ∧ i ≤ ys.length ∧ (i = xs.length ∨ i = ys.length)⟩
theorem walk_zk {K : PySem.W.Frag} {k l : Bool} {a b : Addr} {xs ys : List V} {n : Nat} (hn : n = min xs.length ys.length) : Walk (ItzK K k l a b) n (fun H => SqK K k H a xs ∧ SqK K l H b ys) (YPair (fun i => xs[i]?) (fun i => ys[i]?)) := by
  subst hn
  refine ⟨fun i _ hi q => ?_, fun _ q => ⟨xs, ys, q.1, q.2, by omega, by omega, by omega⟩, fun i H v H' _ q y => ?_⟩
  · exact ⟨xs, ys, xs[i]'(by omega), ys[i]'(by omega), q.1, q.2, by simp, by simp⟩
  · obtain ⟨T, x, z, h1, h2, h3, h4, h5⟩ := y
    exact ⟨T, x, z, h1, h2, h3, h4 xs q.1, h5 ys q.2⟩
/-- the iterator at i over the sequence at a -/
def IterK : Bool → Heap → Addr → Addr → Nat → Prop
  | true => fun h i a n => h.IsTupleIter i a n
  | false => fun h i a n => h.IsListIter i a n
def AtK : Bool → Heap → Addr → Array Value → Prop
  | true => fun h a its => h.IsTuple a its
  | false => fun h a its => h.IsList a its
theorem IterK.ob {k : Bool} {h : Heap} {i a : Addr} {n : Nat} (x : IterK k h i a n) : ∃ o, h.get? i = some o ∧ ∀ v, o.data ≠ .cell v := by
  cases k with
  | true =>
    obtain ⟨o, e, _, d⟩ := x
    exact ⟨o, e, fun v q => by rw [d] at q; cases q⟩
  | false =>
    obtain ⟨o, e, _, d⟩ := x
    exact ⟨o, e, fun v q => by rw [d] at q; cases q⟩
theorem IterK.at {k : Bool} {h h' : Heap} {i a : Addr} {n : Nat} (x : IterK k h i a n) (q : ∀ o, h.get? i = some o → h'.get? i = some o) : IterK k h' i a n := by
  cases k with
  | true => exact PySem.Heap.IsTupleIter.at x q
  | false => exact PySem.Heap.IsListIter.at x q
def beginObj : Bool → Addr → Obj
  | true, a => { cls := .type "tuple_iterator", data := .fields #[.ref a, .int 0 0] }
  | false, a => { cls := .type "list_iterator", data := .fields #[.ref a, .int 0 0] }
theorem begin_k (k : Bool) (a : Addr) (its : Array Value) : Begins (.ref a) (beginObj k a) fun h => AtK k h a its := by
  cases k with
  | true => exact begins_tuple a its
  | false => exact begins_list a its
theorem draw_k {P : Program} {w : World} {A : Around} (k : Bool) (hh : A.handled = none) (i a : Addr) (hne : a ≠ i) (its : Array Value) :
    Draws P w A i [i, a] its.size (fun n v => its[n]? = some v) (fun n h => IterK k h i a n ∧ AtK k h a its) := by
  cases k with
  | true => exact Draws.tuple hh i a hne its
  | false => exact Draws.list hh i a hne its
theorem at_k {X : Cx} {pins : List (Addr × Obj)} {σ : L2.St} {H : Hp} {s : Shared} {k : Bool} {a : Addr} {xs : List V} (I : Inv X pins σ H s) (h : SqK X.K k H a xs) : ∃ its, Vals xs its ∧ AtK k s.heap a its.toArray ∧ a < s.heap.objs.size := by
  cases k with
  | true =>
    obtain ⟨its, rv, p, _⟩ := I.tuple h
    exact ⟨its, rv, p, p.lt⟩
  | false =>
    obtain ⟨its, rv, p, _⟩ := I.list h
    exact ⟨its, rv, p.isList, p.lt⟩
abbrev ZipTn (k l : Bool) (z TI TO i1 i2 a b : Addr) (n : Nat) (h : Heap) : Prop :=
  IsZip h z TI TO .none ∧ IsTupOf2 h TI (.ref i1) (.ref i2) ∧ (∃ x y, IsTupOf2 h TO x y) ∧ IterK k h i1 a n ∧ IterK l h i2 b n
theorem turn_zk {P : Program} {w : World} {K : PySem.W.Frag} {elts : List Expr} {kk : Nat} {tpos : Pos} {k l : Bool} {a b z TI TO i1 i2 : Addr} (D : ZipSep2 z TI TO i1 i2 [i1, a] [i2, b]) (na : a ≠ i1) (nb : b ≠ i2) :
    Turn P w K (.Tuple elts kk tpos) (ItzK K k l a b) [z, TI, TO, i1, i2] z (ZipTn k l z TI TO i1 i2 a b) := by
  have five : ∀ {c : Addr}, c ∈ [z, TI, TO, i1, i2] → c = z ∨ c = TI ∨ c = TO ∨ c = i1 ∨ c = i2 := fun {c} hc => by simpa using hc
  refine ⟨by simp, fun n h st c hc => ?_, fun n h h' st q => ?_, ?_, ?_, fun A n s Q E st h => wpAny_pyIter_zip st.1 h⟩
  · obtain ⟨hz, hTI, ⟨x, y, hTO⟩, h1, h2⟩ := st
    rcases five hc with e | e | e | e | e <;> subst e
    · exact ⟨_, hz, fun v q => nomatch q⟩
    · exact ⟨_, hTI, fun v q => nomatch q⟩
    · exact ⟨_, hTO, fun v q => nomatch q⟩
    · exact h1.ob
    · exact h2.ob
  · obtain ⟨hz, hTI, ⟨x, y, hTO⟩, h1, h2⟩ := st
    exact ⟨q z (by simp) _ hz, q TI (by simp) _ hTI, ⟨x, y, q TO (by simp) _ hTO⟩, h1.at fun o e => q i1 (by simp) o e, h2.at fun o e => q i2 (by simp) o e⟩
  · intro X hP hw hK hc n pins s σ H E I hf st hg
    subst hP hw hK
    obtain ⟨hz, hTI, ⟨x0, y0, hTO⟩, h1, h2⟩ := st
    obtain ⟨xs, ys, x, y, hqx, hqy, hx, hy⟩ := hg
    obtain ⟨its, rv, p1, _⟩ := at_k I hqx
    obtain ⟨its2, rv2, p2, _⟩ := at_k I hqy
    obtain ⟨u, hu, ru⟩ := rv.get hx
    obtain ⟨u2, hu2, ru2⟩ := rv2.get hy
    have hh : X.A.in1.handled = none := by simpa using I.ok.hd hc
    have b1 : n < its.toArray.size := by simpa using (List.getElem?_eq_some_iff.mp hu).1
    have b2 : n < its2.toArray.size := by simpa using (List.getElem?_eq_some_iff.mp hu2).1
    refine wpAny_pyNext_zipD2_item D (draw_k k hh i1 a na its.toArray) (draw_k l hh i2 b nb its2.toArray) hz hTI hTO ⟨h1, p1⟩ ⟨h2, p2⟩ b1 b2 fun x1 x2 h' tk hx1 hx2 z' TO' st1 st2 hT hsz hk => ?_
    have ex1 : x1 = u := by
      rw [show its.toArray[n]? = some u by simpa using hu] at hx1
      exact (Option.some.inj hx1).symm
    have ex2 : x2 = u2 := by
      rw [show its2.toArray[n]? = some u2 by simpa using hu2] at hx2
      exact (Option.some.inj hx2).symm
    subst ex1 ex2
    have lz : z < s.heap.objs.size := Heap.lt_size hz
    refine ⟨_, rfl, wpAny_letOwnedTupleGo_zip (s := { s with heap := h', toks := tk }) z' fun h'' z'' sb => ?_⟩
    have hT2 : h''.get? s.heap.objs.size = some { cls := .type "tuple", data := .seq #[x1, x2] } := (sb.2 _ (Nat.ne_of_gt lz)).trans hT
    have new : ObjOk X.prog X.w (upd H s.heap.objs.size (.tup [x, y])) h'' s.heap.objs.size (.tup [x, y]) :=
      ⟨by show 2 ≤ sizeLine; decide, [x1, x2], .cons ru (.cons ru2 .nil), ⟨_, hT2, rfl, _, rfl⟩⟩
    have I1 : Inv X pins σ (upd H s.heap.objs.size (.tup [x, y])) { s with heap := h'', toks := tk } := by
      refine I.turnedNew (t' := tk) (ch := [z, TI, TO, i1, i2]) (fun c o hb q => (sb.2 c fun e => hb (by simp [e])).trans ?_) hf (Nat.le_refl _) new
      exact hk c o (fun e => hb (by simp [e])) (fun e => hb (by simp [e])) (fun e => hb (by simp [e])) (fun e => hb (by simp [e])) q
    refine ⟨.ref s.heap.objs.size, _, I1, rfl, ⟨_, x, y, rfl, I.fresh, rfl, fun l hl => by rw [SqK.inj I hl hqx]; exact hx, fun l hl => by rw [SqK.inj I hl hqy]; exact hy⟩, ⟨z'', ?_, ⟨x1, x2, (sb.2 _ D.TOz).trans TO'⟩, ?_, ?_⟩, fun c hcm => ?_⟩
    · exact (sb.2 _ D.TIz).trans (hk _ _ D.TIz D.TITO D.TIi1 D.TIi2 hTI)
    · exact st1.1.at fun o q => (sb.2 _ (Ne.symm D.zi1)).trans q
    · exact st2.1.at fun o q => (sb.2 _ (Ne.symm D.zi2)).trans q
    · have hlt : c < s.heap.objs.size := by
        rcases five hcm with e | e | e | e | e <;> subst e
        · exact lz
        · exact Heap.lt_size hTI
        · exact Heap.lt_size hTO
        · obtain ⟨o, e, _⟩ := h1.ob
          exact Heap.lt_size e
        · obtain ⟨o, e, _⟩ := h2.ob
          exact Heap.lt_size e
      exact (upd_ne (Nat.ne_of_lt hlt)).trans (hf c hcm).1
  · intro X hP hw hK hc n pins s σ H E I hf st hg
    subst hP hw hK
    obtain ⟨hz, hTI, ⟨x0, y0, hTO⟩, h1, h2⟩ := st
    obtain ⟨xs, ys, hqx, hqy, l1, l2, le⟩ := hg
    obtain ⟨its, rv, p1, _⟩ := at_k I hqx
    obtain ⟨its2, rv2, p2, _⟩ := at_k I hqy
    have e1 : its.toArray.size = xs.length := by rw [List.size_toArray, rv.length]
    have e2 : its2.toArray.size = ys.length := by rw [List.size_toArray, rv2.length]
    have hh : X.A.in1.handled = none := by simpa using I.ok.hd hc
    refine wpAny_pyNext_zipD2_end D (draw_k k hh i1 a na its.toArray) (draw_k l hh i2 b nb its2.toArray) hz hTI hTO ⟨h1, p1⟩ ⟨h2, p2⟩ (by omega) (by omega) (by omega) fun h' tk hk => ⟨rfl, ?_⟩
    refine I.turnedL (t' := tk) (ch := [z, TI, TO, i1, i2]) (fun c o hb q => ?_) hf
    exact hk c o (fun e => hb (by simp [e])) (fun e => hb (by simp [e])) (fun e => hb (by simp [e])) (fun e => hb (by simp [e])) q
def iZipK (K : PySem.W.Frag) (ta : TA) : TI := fun σ H R => ta σ H fun vs H1 => ∃ (k l : Bool) (a b : Addr) (xs ys : List V), vs = [.ref a, .ref b] ∧ SqK K k H1 a xs ∧ SqK K l H1 b ys ∧ R (ItzK K k l a b) H1
theorem pi_zipK {X : Cx} {e e2 : Expr} {ta : TA} {p pos tpos : Pos} {elts : List Expr} {kk : Nat} (hg : Gl X "zip") (hm : X.mg "zip" = none) (ha : PA X [e, e2] ta)
    (hs : starEach [e, e2] X.env = (false, eval e X.env) :: starEach [e2] X.env := by rfl) (hpl : (backTo pos (starEach [e2] X.env)).any (·.1) = false := by rfl) :
    PI X (.Tuple elts kk tpos) (.Call (.Name "zip" p) [e, e2] [] pos) (iZipK X.K ta) := by
  refine ⟨fun pins s σ H R I h => ?_⟩
  refine Call_ (ld_blt I hg hm PyProof.Rows.boot_zip (PyProof.Rows.callWith_type1 (thn (ha.run pos pins s σ H _ I h) ?_) hs hpl))
  rintro us s1 ⟨vs, H1, I1, r1, k, l, a, b, xs, ys, rfl, hqx, hqy, q⟩
  obtain ⟨u1, u2, rfl, r1, r2⟩ := Vals.two r1
  cases (show u1 = Value.ref a from r1)
  cases (show u2 = Value.ref b from r2)
  obtain ⟨its, rv, p1, la⟩ := at_k I1 hqx
  obtain ⟨its2, rv2, p2, lb⟩ := at_k I1 hqy
  refine zip_begins2 (begin_k k a its.toArray) (begin_k l b its2.toArray) p1 p2 fun h' hz hTI hTO e1 e2 hsz hk => wpAny_pyIter_zip hz ?_
  have i1 : IterK k h' s1.heap.objs.size a 0 := by
    cases k with
    | true => exact ⟨_, e1, rfl, rfl⟩
    | false => exact ⟨_, e1, rfl, rfl⟩
  have i2 : IterK l h' (s1.heap.objs.size + 1) b 0 := by
    cases l with
    | true => exact ⟨_, e2, rfl, rfl⟩
    | false => exact ⟨_, e2, rfl, rfl⟩
  have ne1 : a ≠ s1.heap.objs.size := Nat.ne_of_lt la
  have ne2 : b ≠ s1.heap.objs.size + 1 := Nat.ne_of_lt (Nat.lt_succ_of_lt lb)
  refine ⟨_, [s1.heap.objs.size + 4, s1.heap.objs.size + 2, s1.heap.objs.size + 3, s1.heap.objs.size, s1.heap.objs.size + 1], _, _, H1, rfl, I1.kept (t' := s1.toks) hk,
    turn_zk (zip_sep2 (N := s1.heap.objs.size) (fp1 := [a]) (fp2 := [b]) (fun c hc => by rw [List.mem_singleton.mp hc]; exact la) (fun c hc => by rw [List.mem_singleton.mp hc]; exact lb)) ne1 ne2, ⟨hz, hTI, ⟨_, _, hTO⟩, i1, i2⟩, fun c hcm => ?_, q⟩
  have hle : s1.heap.objs.size ≤ c := by
    simp only [List.mem_cons, List.not_mem_nil, or_false] at hcm
    rcases hcm with e | e | e | e | e <;> rw [e]
    · exact Nat.le_add_right _ _
    · exact Nat.le_add_right _ _
    · exact Nat.le_add_right _ _
    · exact Nat.le_refl _
    · exact Nat.le_add_right _ _
  exact I1.fpOk hle (I1.hok.fresh hle)
end Hg

set_option maxHeartbeats 8000000
namespace Hg
open PySem PySem.Spec PyProof.Rows L2
abbrev set0 (w : World) : Obj := { cls := .type "set", dict := none, data := .set #[] 0 (.fresh 0 0 (!w.params.followText "set-order")) }
section
variable {P : Program} {w : World} {A : Around} {E : Value → Shared → Prop} {s : Shared}
/-- set(xs), xs a list of ints -/
theorem call_setL {l : Addr} {items : Array Value} (ns : List Int) {Q : Value → Shared → Prop} (hh : A.handled = none) (hl : s.heap.IsList l items) (hit : IntsAre items.toList ns) (hb : ns.length + 1 < scanBound)
    (h : ∀ (h' : Heap) (tk c : Nat), SetR w h' s.heap.objs.size (fun j => decide (j ∈ ns)) c → c ≤ ns.length → (∀ b o, s.heap.get? b = some o → h'.get? b = some o) → Q (.ref s.heap.objs.size) { s with heap := h', toks := tk }) :
    wpAny (model P w) A (call (.type "set") [.ref l]) Q E s := by
  have len : items.size = ns.length := by simpa using IntsAre.length hit
  have ⟨c0, tl, e1⟩ := F.called_set.mro
  have e2 := F.called_set.made
  have e3 := F.called_set.sub
  have e4 := F.called_set.notType
  have e5 := F.called_set.canCreate
  have e6 := F.typeCall_set_1 (.ref l)
  apply wpAny_call
  apply codeAny_of_tree
  show PySem.wpAny _ _ (callAny (.type "set") _) _ _ _
  apply wpAny_pure
  refine ⟨Code.quiet_builtin _ (by decide +kernel), ?_⟩
  apply codeAny_builtin F.entry_type_call
  rw [Around.under_plain (weight_type_call_type "set" [.ref l] []) rfl]
  repeat (any_goals (first | assumption | wp_step))
  refine codeAny_mono (code_set_led1 (.ref l) (E := E) (Q₁ := fun ob s1 => ob = .ref s.heap.objs.size ∧ s1 = { s with heap := s.heap.push (set0 w) }) ⟨rfl, rfl⟩) ?_
  rintro (er | fl) s1 z
  · exact z
  rcases fl with _ | _ | _ | ob
  any_goals exact z
  obtain ⟨rfl, rfl⟩ := z
  have g0 : (s.heap.push (set0 w)).get? s.heap.objs.size = some (set0 w) := Heap.get?_push_size _ rfl
  have ty : Shared.TypeIs { s with heap := s.heap.push (set0 w) } (.ref s.heap.objs.size) "set" := ⟨_, g0, rfl⟩
  have e7 := F.called_set.init.lookup
  have e8 := F.called_set.init.bind (.ref s.heap.objs.size)
  repeat (any_goals (first | assumption | wp_step))
  have fin : codeAny (model P w) A.in1 (.call (.builtin "set.__init__") ⟨[.ref s.heap.objs.size, .ref l], []⟩)
      (wants (fun r s2 => r = .none ∧ ∃ h' tk c, s2 = { s with heap := h', toks := tk } ∧ SetR w h' s.heap.objs.size (fun j => decide (j ∈ ns)) c ∧ c ≤ ns.length ∧ ∀ b o, s.heap.get? b = some o → h'.get? b = some o) E) { s with heap := s.heap.push (set0 w) } := by
    refine codeAny_call_builtin F.called_set.init.plain F.entry_set_init (check_set_init_1 ty ?_)
    obtain ⟨ol, hol, hcl, nl, hdl⟩ := hl
    obtain ⟨ocls, odict, odata, oslots⟩ := ol
    dsimp only at hcl hdl
    subst hcl hdl
    have lt : l < s.heap.objs.size := Heap.lt_size hol
    have hol1 := Heap.get?_push_of_some (set0 w) hol
    have isl : (s.heap.push (set0 w)).IsList l items := ⟨_, hol1, rfl, nl, rfl⟩
    have f1 := F.sub_list_set
    have f2 := F.sub_list_frozenset
    have f3 : (Value.type "list" == Value.type "dict") = false := by decide
    unfold Builtin.«set.__init__» noKeywords Builtin.Frozenset.updateFrom
    generalize hPI : pyIter = PI
    wp_walk
    subst hPI
    apply wpAny_pyIter_list isl
    refine wpAny_bind (wpAny_runValue ?_)
    have h3 : A.in1.in1.in1.handled = none := by simp [hh]
    have sz : (s.heap.push (set0 w)).objs.size = s.heap.objs.size + 1 := Heap.size_push ..
    have nI : l ≠ (s.heap.push (set0 w)).objs.size := by
      rw [sz]
      exact Nat.ne_of_lt (Nat.lt_succ_of_lt lt)
    have nS : s.heap.objs.size ∉ [(s.heap.push (set0 w)).objs.size, l] := by
      rw [sz]
      simp only [List.mem_cons, List.not_mem_nil, or_false, not_or]
      exact ⟨Nat.ne_of_lt (Nat.lt_succ_self _), Nat.ne_of_gt lt⟩
    have val : ∀ (i : Nat) (v : Value), items[i]? = some v → ∃ k t, ns[i]? = some k ∧ v = .int k t := fun i v hv => by
      obtain ⟨t, e⟩ := IntsAre.int_at hit i v ((Array.getElem?_toList ..).trans hv)
      have hi : i < ns.length := len ▸ (Array.getElem?_eq_some_iff.mp hv).1
      exact ⟨ns[i], t, by simp [hi], by rw [e]; simp [hi]⟩
    refine set_update_ints (Walks.list h3 _ l nI items).toS s.heap.objs.size nS ns len hb val (items.size - 0) 0 _ (Nat.sub_zero _ ▸ rfl) (Nat.zero_le _) ⟨⟨_, Heap.get?_push_size _ rfl, rfl, rfl⟩, isl.push _⟩ ⟨0, Nat.le_refl 0, setR_new_at (Heap.get?_push_of_some _ g0)⟩ ?_
    rintro ⟨h', g2, d', tk', os'⟩ c' hm hc' hS'
    obtain rfl : g2 = s.gens := hm.gens
    obtain rfl : d' = s.drawn := hm.drawn
    obtain rfl : os' = s.os := hm.os
    apply wpAny_pure
    show PySem.wpAny _ _ (ret Value.none) _ _ _
    refine wpAny_pure ⟨rfl, h', tk', c', rfl, hS', len ▸ hc', fun b o e => ?_⟩
    have b0 : b < s.heap.objs.size := Heap.lt_size e
    refine hm.heap b o ?_ (Heap.get?_push_of_some _ (Heap.get?_push_of_some _ e))
    rw [sz]
    simp only [List.mem_cons, List.not_mem_nil, or_false, not_or]
    exact ⟨Nat.ne_of_lt b0, Nat.ne_of_lt (Nat.lt_succ_of_lt b0)⟩
  refine codeAny_mono fin ?_
  rintro (er | fl) s2 z
  · exact z
  rcases fl with _ | _ | _ | r2
  any_goals exact z
  obtain ⟨rfl, h', tk, c, rfl, hS, hc, hk⟩ := z
  repeat (any_goals (first | assumption | wp_step))
  exact h _ _ _ hS hc hk
end
end Hg

set_option maxHeartbeats 4000000
namespace Hg
open PySem PySem.Spec PyProof.Rows L2
/-! ### a def of the text, its global name, its arguments -/
structure DefK (K : PySem.W.Frag) (mg : Str → Option Value) (x : Str) (st : Stmt) (ps : List Str) (f : Addr) (fd : FuncData) : Prop where
  mg : mg x = some (.ref f)
  fn : Fun K x x st f fd
  bd : Binds K fd ps []
/-! ### heaps -/
def Ex (H H' : Hp) : Prop := ∀ a o, H a = some o → H' a = some o
theorem Ex.refl (H : Hp) : Ex H H := fun _ _ h => h
theorem Ex.trans {A B C : Hp} (x : Ex A B) (y : Ex B C) : Ex A C := fun a o h => y a o (x a o h)
theorem Ex.new {H : Hp} {p : Addr} {o : HO} (h : H p = none) : Ex H (upd H p o) := fun a u e => (upd_ne (ne_of_none e h)).trans e
theorem Ex.up {G H : Hp} {p : Addr} {o : HO} (x : Ex G H) (h : G p = none) : Ex G (upd H p o) := fun a u e => (upd_ne (ne_of_none e h)).trans (x _ _ e)
theorem Ex.free {H H' : Hp} (x : Ex H H') {p : Addr} (h : H' p = none) : H p = none := by
  cases e : H p with
  | none => rfl
  | some o =>
    rw [x p o e] at h
    cases h
theorem Ex.seq {K : PySem.W.Frag} {k : Bool} {H H' : Hp} {a : Addr} {xs : List V} (e : Ex H H') (h : SqK K k H a xs) : SqK K k H' a xs := by
  have rd : ∀ {u : HO}, Rd H a u → Rd H' a u := fun {u} z => z.elim (fun z => .inl (e _ _ z)) fun ⟨o, z⟩ => .inr ⟨o, e _ _ z⟩
  cases k with
  | true => exact Or.imp rd id h
  | false => exact Or.imp rd id h
theorem SqK.lst {K : PySem.W.Frag} {H : Hp} {a : Addr} {xs : List V} (h : H a = some (.lst xs)) : SqK K false H a xs := .inl (.inl h)
theorem SqK.tup {K : PySem.W.Frag} {H : Hp} {a : Addr} {xs : List V} (h : H a = some (.tup xs)) : SqK K true H a xs := .inl (.inl h)
theorem SqK.or {K : PySem.W.Frag} {k : Bool} {H : Hp} {a : Addr} {xs : List V} (h : SqK K k H a xs) : SqL K H a xs ∨ SqT K H a xs := by
  cases k with
  | true => exact .inr h
  | false => exact .inl h
/-! ### the drawing stream of a law: at s the list [at q the script's rest, n, c, k] -/
structure Strm (s q : Addr) (B : Nat) (H : Hp) : Prop where
  ne : s ≠ q
  st : ∃ (n c k : Int) (ns : List Int), H s = some (.lst [.ref q, .int n, .int c, .int k]) ∧ H q = some (.lst (ns.map V.int)) ∧ 0 ≤ n ∧ 0 ≤ c ∧ c ≤ (B : Int) ∧ 0 ≤ k ∧ k < 2147483647
/-- G: what lies beside the stream -/
structure Ov (s q : Addr) (B : Nat) (G H : Hp) : Prop where
  sub : Ex G H
  gs : G s = none
  gq : G q = none
  str : Strm s q B H
section
variable {s q : Addr} {B : Nat} {G H : Hp}
theorem Ov.weak (x : Ov s q B G H) {G' : Hp} (e : Ex G' G) : Ov s q B G' H := ⟨e.trans x.sub, e.free x.gs, e.free x.gq, x.str⟩
theorem Ov.more (x : Ov s q B G H) {B' : Nat} (h : B ≤ B') : Ov s q B' G H := by
  obtain ⟨a, b, c, d, n, k, l, ns, e1, e2, e3, e4, e5, e6⟩ := x
  exact ⟨a, b, c, d, n, k, l, ns, e1, e2, e3, e4, by omega, e6⟩
theorem Ov.hs (x : Ov s q B G H) : ∃ o, H s = some o := let ⟨_, _, _, _, e, _⟩ := x.str.st; ⟨_, e⟩
theorem Ov.hq (x : Ov s q B G H) : ∃ o, H q = some o := let ⟨_, _, _, _, _, e, _⟩ := x.str.st; ⟨_, e⟩
/-- a new object beside the stream -/
theorem Ov.new (x : Ov s q B G H) {p : Addr} {o : HO} (hp : H p = none) : Ov s q B (upd G p o) (upd H p o) := by
  have gp : G p = none := x.sub.free hp
  obtain ⟨os, hs⟩ := x.hs
  obtain ⟨oq, hq⟩ := x.hq
  have ns : s ≠ p := ne_of_none hs hp
  have nq : q ≠ p := ne_of_none hq hp
  obtain ⟨ne, n, k, l, ms, e1, e2, e3⟩ := x.str
  refine ⟨fun a u e => ?_, (upd_ne ns).trans x.gs, (upd_ne nq).trans x.gq, ne, n, k, l, ms, (upd_ne ns).trans e1, (upd_ne nq).trans e2, e3⟩
  by_cases h : a = p
  · subst h
    rw [upd_same] at e ⊢
    exact e
  · rw [upd_ne h] at e ⊢
    exact x.sub _ _ e
/-- a new object that nobody keeps -/
theorem Ov.drop (x : Ov s q B G H) {p : Addr} {o : HO} (hp : H p = none) : Ov s q B G (upd H p o) := (x.new hp).weak (Ex.new (x.sub.free hp))
/-- an object of G is changed -/
theorem Ov.put (x : Ov s q B G H) {p : Addr} {o u : HO} (hp : G p = some u) : Ov s q B (upd G p o) (upd H p o) := by
  have ns : s ≠ p := fun e => by rw [← e, x.gs] at hp; cases hp
  have nq : q ≠ p := fun e => by rw [← e, x.gq] at hp; cases hp
  obtain ⟨ne, n, k, l, ms, e1, e2, e3⟩ := x.str
  refine ⟨fun a u e => ?_, (upd_ne ns).trans x.gs, (upd_ne nq).trans x.gq, ne, n, k, l, ms, (upd_ne ns).trans e1, (upd_ne nq).trans e2, e3⟩
  by_cases h : a = p
  · subst h
    rw [upd_same] at e ⊢
    exact e
  · rw [upd_ne h] at e ⊢
    exact x.sub _ _ e
end
/-! ### data of ints -/
theorem dpAll_ints {K : PySem.W.Frag} {H : Hp} : ∀ ns : List Int, DpAll K H (ns.map V.int) (ns.map PyData.int)
  | [] => .nil
  | n :: ns => .cons (.int n) (dpAll_ints ns)
theorem dp_l {K : PySem.W.Frag} {H : Hp} {a : Addr} {ns : List Int} (h : SqL K H a (ns.map V.int)) : Dp K H (.ref a) (.list (ns.map PyData.int)) := .lst h (dpAll_ints ns)
theorem dp_t {K : PySem.W.Frag} {H : Hp} {a : Addr} {ns : List Int} (h : SqT K H a (ns.map V.int)) : Dp K H (.ref a) (.tuple (ns.map PyData.int)) := .tup h (dpAll_ints ns)
theorem lay_ints : ∀ ns : List Int, PyData.canLayAll0 (ns.map PyData.int) = true
  | [] => rfl
  | n :: ns => by simp [PyData.canLayAll0, PyData.canLay0, lay_ints ns]
end Hg

set_option maxHeartbeats 4000000
namespace Hg
open PySem PySem.Spec PyProof.Rows L2
theorem depth_ints : ∀ ns : List Int, PyData.depthAll (ns.map PyData.int) ≤ 1
  | [] => by simp [PyData.depthAll]
  | n :: ns => by
    have := depth_ints ns
    simp [PyData.depthAll, PyData.depth]
    omega
theorem shaped_l (ns : List Int) : SeqAt.shaped (.list (ns.map PyData.int)) = true := by
  have := depth_ints ns
  simp [SeqAt.shaped, PyData.canLay0, PyData.depth, lay_ints]
  omega
theorem shaped_t (ns : List Int) : SeqAt.shaped (.tuple (ns.map PyData.int)) = true := by
  have := depth_ints ns
  simp [SeqAt.shaped, PyData.canLay0, PyData.depth, lay_ints]
  omega
theorem eqv_ints : ∀ xs ys : List Int, PyData.eqvAll (xs.map PyData.int) (ys.map PyData.int) = decide (xs = ys)
  | [], [] => by simp [PyData.eqvAll]
  | [], y :: ys => by simp [PyData.eqvAll]
  | x :: xs, [] => by simp [PyData.eqvAll]
  | x :: xs, y :: ys => by
    have := eqv_ints xs ys
    by_cases h : x = y
    · simp [PyData.eqvAll, PyData.eqv, this, h]
    · simp [PyData.eqvAll, PyData.eqv, this, h]
theorem eqv_l (xs ys : List Int) : PyData.eqv (.list (xs.map PyData.int)) (.list (ys.map PyData.int)) = decide (xs = ys) := by
  rw [PyData.eqv]
  exact eqv_ints xs ys
theorem eqv_t (xs ys : List Int) : PyData.eqv (.tuple (xs.map PyData.int)) (.tuple (ys.map PyData.int)) = decide (xs = ys) := by
  rw [PyData.eqv]
  exact eqv_ints xs ys
/-! ### items at a place -/
theorem at_lt {α : Type} {xs : List α} {i : Int} (h0 : 0 ≤ i) (h1 : i < xs.length) : ∃ v, atI xs i = some v ∧ v ∈ xs := by
  obtain ⟨j, rfl⟩ := Int.eq_ofNat_of_zero_le h0
  have hj : j < xs.length := by omega
  exact ⟨xs[j], atI_nat (by simp [hj]), List.getElem_mem ..⟩
/-! ### sets of ints -/
def rSetL (K : PySem.W.Frag) (w : World) : List V → Hp → VK → Prop := fun vs H Q => ∃ (a : Addr) (ns : List Int), vs = [.ref a] ∧ SqL K H a (ns.map V.int) ∧ ns.length ≤ 4000 ∧
  ∀ (p : Addr) (ms : List Int), H p = none → ms.Nodup → (∀ k, k ∈ ms ↔ k ∈ ns) → Q (.ref p) (upd H p (SetO w p (fun j => decide (j ∈ ns)) ms.length))
theorem cr_setL {X : Cx} (hc : X.calm = true) : CallR X (.type "set") (rSetL X.K X.w) := by
  intro pins s σ H vs us Q I r h
  obtain ⟨a, ns, rfl, hq, hl, q⟩ := h
  obtain ⟨u, rfl, ru⟩ := Vals.one r
  cases (show u = Value.ref a from ru)
  obtain ⟨its, rv, p, hz⟩ := I.list hq
  refine call_setL ns (I.ok.hd hc) p.isList (by simpa using intsAre_of rv) (by unfold scanBound; omega) fun h' tk c hS hcn hk => ?_
  have I2 : Inv X pins σ (upd H s.heap.objs.size (SetO X.w s.heap.objs.size (fun j => decide (j ∈ ns)) c)) { s with heap := h', toks := tk } := I.laid hk (Nat.le_refl _) (setO_new hS)
  obtain ⟨o, es, ep, t, e1, e2, e3, e4, e5, e6, e7, e8, e9, e10⟩ := id hS
  have hlen : (es.toList.map keyOf).length = c := by
    rw [List.length_map, Array.length_toList, e9]
  refine ⟨.ref _, _, I2, rfl, ?_⟩
  rw [← hlen]
  refine q _ _ I.fresh e5 fun k => ?_
  have := e6 k
  rw [← this]
  simp
end Hg

set_option maxHeartbeats 4000000
namespace Hg
open PySem PySem.Spec PyProof.Rows L2
def picked {α : Type} (keep : Nat → Bool) (val : Nat → α) (n : Nat) : List α := ((List.range n).filter keep).map val
theorem picked_succ {α : Type} (keep : Nat → Bool) (val : Nat → α) (n : Nat) : picked keep val (n + 1) = if keep n = true then picked keep val n ++ [val n] else picked keep val n := by
  unfold picked
  rw [List.range_succ, List.filter_append]
  by_cases h : keep n = true
  · simp [h]
  · simp [h]
theorem picked_len {α : Type} (keep : Nat → Bool) (val : Nat → α) (n : Nat) : (picked keep val n).length ≤ n := by
  unfold picked
  rw [List.length_map]
  exact Nat.le_trans (List.length_filter_le _ _) (by simp)
theorem picked_all {α : Type} (val : Nat → α) (n : Nat) : picked (fun _ => true) val n = (List.range n).map val := by
  unfold picked
  rw [List.filter_eq_self.mpr fun _ _ => rfl]
theorem map_range {α β : Type} (xs : List α) (f : α → β) (val : Nat → β) (h : ∀ i x, xs[i]? = some x → val i = f x) : (List.range xs.length).map val = xs.map f := by
  apply List.ext_getElem?
  intro i
  rw [List.getElem?_map, List.getElem?_map]
  by_cases hi : i < xs.length
  · rw [List.getElem?_range hi]
    simp [hi]
    exact h i _ (by simp [hi])
  · simp [hi]
theorem picked_map {α β : Type} (keep : Nat → Bool) (val : Nat → α) (f : α → β) (n : Nat) : (picked keep val n).map f = picked keep (fun i => f (val i)) n := by
  unfold picked
  rw [List.map_map]
  rfl
section
variable {J : It} {n : Nat} {G : Hp → Prop} {Y : Nat → Hp → V → Hp → Prop}
/-- a list comprehension whose element changes nothing that stands -/
theorem lc_pure (w : Walk J n G Y) {g : TG} {tt : TT} {te : TE} {vs : List Nat} {σ : L2.St} {H1 : Hp} {D : Addr} {Qd : Hp → Prop} (hD : H1 D = none) (keep : Nat → Bool) (val : Nat → V) (hn : n ≤ 1000000) (hG : ∀ H, Ex H1 H → G H)
    (hs : ∀ i x Hc Hy, i < n → Ex H1 Hc → Y i Hc x Hy → ∀ (Qe : VK) (Qn : Hp → Prop), (keep i = true → ∀ H4, Ex Hc H4 → Qe (val i) H4) → (keep i = false → ∀ H3, Ex Hc H3 → Qn H3) →
      g x (wipe σ vs) Hy fun σ2 H2 => wipe σ2 vs = wipe σ vs ∧ tt σ2 H2 fun b H3 => if b = true then te σ2 H3 Qe else Qn H3)
    (hd : ∀ H, Ex H1 H → H D = some (.lst (picked keep val n)) → Qd H) :
    ∃ W : Nat → Nat → Hp → Prop, (∃ m, W 0 m (upd H1 D (.lst []))) ∧ ∀ i m H, W i m H →
      (J.stop i H ∧ Qd H) ∨ (J.go i H ∧ ∃ Nx : Hp → Prop, (∀ H', Nx H' → ∃ m', m' < m ∧ W (i + 1) m' H') ∧ ∀ x H', J.yld i H x H' → g x (wipe σ vs) H' fun σ2 H2 => wipe σ2 vs = wipe σ vs ∧ tt σ2 H2 fun b H3 =>
        if b = true then te σ2 H3 fun y H4 => ∃ acc, H4 D = some (.lst acc) ∧ acc.length < sizeLine ∧ Nx (upd H4 D (.lst (acc ++ [y]))) else Nx H3) := by
  refine lc_it w (fun i H => Ex H1 H ∧ H D = some (.lst (picked keep val i))) ⟨Ex.new hD, upd_same⟩ (fun i H _ p => hG H p.1) (fun i x Hc Hy hi p y => ?_) (fun H p => hd H p.1 p.2)
  refine hs i x Hc Hy hi p.1 y _ _ (fun hk H4 e => ?_) (fun hk H3 e => ?_)
  · refine ⟨_, e _ _ p.2, Nat.lt_of_le_of_lt (picked_len _ _ _) ?_, (p.1.trans e).up hD, ?_⟩
    · rw [sizeLine_eq]
      omega
    · rw [upd_same, picked_succ, if_pos hk]
  · refine ⟨p.1.trans e, ?_⟩
    rw [picked_succ, if_neg (by rw [hk]; decide)]
    exact e _ _ p.2
/-- a list comprehension whose element draws from the stream: at most c draws a turn -/
theorem lc_strm (w : Walk J n G Y) {g : TG} {tt : TT} {te : TE} {vs : List Nat} {σ : L2.St} {G1 H1 : Hp} {D s q : Addr} {B c : Nat} {Qd : Hp → Prop} (hO : Ov s q B G1 H1) (hD : H1 D = none) (P : Nat → List V → Prop) (hP : P 0 [])
    (hl : ∀ i acc, i ≤ n → P i acc → acc.length ≤ i) (hn : n ≤ 1000000) (hG : ∀ i H acc, i ≤ n → Ov s q (B + c * i) (upd G1 D (.lst acc)) H → G H)
    (hs : ∀ i x Hc Hy acc, i < n → P i acc → Ov s q (B + c * i) (upd G1 D (.lst acc)) Hc → Y i Hc x Hy → ∀ (Qe : VK) (Qn : Hp → Prop), (∀ y H4, P (i + 1) (acc ++ [y]) → Ov s q (B + c * (i + 1)) (upd G1 D (.lst acc)) H4 → Qe y H4) →
      (∀ H3, P (i + 1) acc → Ov s q (B + c * (i + 1)) (upd G1 D (.lst acc)) H3 → Qn H3) →
      g x (wipe σ vs) Hy fun σ2 H2 => wipe σ2 vs = wipe σ vs ∧ tt σ2 H2 fun b H3 => if b = true then te σ2 H3 Qe else Qn H3)
    (hd : ∀ H acc, P n acc → Ov s q (B + c * n) (upd G1 D (.lst acc)) H → Qd H) :
    ∃ W : Nat → Nat → Hp → Prop, (∃ m, W 0 m (upd H1 D (.lst []))) ∧ ∀ i m H, W i m H →
      (J.stop i H ∧ Qd H) ∨ (J.go i H ∧ ∃ Nx : Hp → Prop, (∀ H', Nx H' → ∃ m', m' < m ∧ W (i + 1) m' H') ∧ ∀ x H', J.yld i H x H' → g x (wipe σ vs) H' fun σ2 H2 => wipe σ2 vs = wipe σ vs ∧ tt σ2 H2 fun b H3 =>
        if b = true then te σ2 H3 fun y H4 => ∃ acc, H4 D = some (.lst acc) ∧ acc.length < sizeLine ∧ Nx (upd H4 D (.lst (acc ++ [y]))) else Nx H3) := by
  refine lc_it w (fun i H => ∃ acc, P i acc ∧ Ov s q (B + c * i) (upd G1 D (.lst acc)) H) ⟨[], hP, hO.new hD⟩ (fun i H hi p => ?_) (fun i x Hc Hy hi p y => ?_) (fun H p => ?_)
  · obtain ⟨acc, _, o⟩ := p
    exact hG i H acc hi o
  · obtain ⟨acc, pa, o⟩ := p
    refine hs i x Hc Hy acc hi pa o y _ _ (fun y H4 pa' o' => ?_) (fun H3 pa' o' => ⟨acc, pa', o'⟩)
    have hA : H4 D = some (.lst acc) := o'.sub _ _ upd_same
    refine ⟨acc, hA, ?_, acc ++ [y], pa', ?_⟩
    · have := hl i acc (Nat.le_of_lt hi) pa
      rw [sizeLine_eq]
      omega
    · have z := o'.put (o := .lst (acc ++ [y])) upd_same
      rw [upd_upd] at z
      exact z
  · obtain ⟨acc, pa, o⟩ := p
    exact hd H acc pa o
end
end Hg

set_option maxHeartbeats 4000000
namespace Hg
open PySem PySem.Spec PyProof.Rows L2
/-! ### the rules with the written part said (within a comprehension's block it must not hang on the block) -/
section
variable {X : Cx} {K : PySem.W.Frag}
theorem kAdd (hK : X.K = K := by rfl) : OpR X (binaryOp .Add) (rPlus K) := hK ▸ oAdd
theorem kEq (hu : X.A.units + 64 < cLine) (hK : X.K = K := by rfl) : OpR X (compareOp .Eq) (rEqA K) := hK ▸ oEq hu
theorem kNe (hu : X.A.units + 64 < cLine) (hK : X.K = K := by rfl) : OpR X (compareOp .NotEq) (rNeA K) := hK ▸ oNe hu
theorem kSl (hK : X.K = K := by rfl) : SlR X (rSlAll K) := hK ▸ oSl
theorem kIx (hK : X.K = K := by rfl) : IxR X (rIx K) := hK ▸ ix_seq
theorem kIn (hK : X.K = K := by rfl) : OpR X (compareOp .In) (rIn K false) := hK ▸ op_in_seq
theorem kNotIn (hK : X.K = K := by rfl) : OpR X (compareOp .NotIn) (rIn K true) := hK ▸ op_notIn_seq
theorem kIsi (hK : X.K = K := by rfl) : CallR X (.builtin "isinstance") (rIsi K) := hK ▸ call_isi
def rLenK (K : PySem.W.Frag) : List V → Hp → VK → Prop := fun xs H Q => ∃ p ys, xs = [.ref p] ∧ (SqL K H p ys ∨ SqT K H p ys) ∧ Q (.int ys.length) H
theorem kLen (hK : X.K = K := by rfl) : CallR X (.builtin "len") (rLenK K) := hK ▸ call_len_seq
theorem kSum (hc : X.calm = true) (hK : X.K = K := by rfl) : CallR X (.builtin "sum") (rSum K) := hK ▸ cr_sum hc
theorem kAll (hc : X.calm = true) (hK : X.K = K := by rfl) : CallR X (.builtin "all") (rAll K) := hK ▸ cr_all hc
theorem kAny (hc : X.calm = true) (hK : X.K = K := by rfl) : CallR X (.builtin "any") (rAny K) := hK ▸ cr_any hc
def rTupK (K : PySem.W.Frag) : List V → Hp → VK → Prop := fun xs H Q => ∃ p ys, xs = [.ref p] ∧ ((SqL K H p ys ∧ ∀ l, H l = none → Q (.ref l) (upd H l (.tup ys))) ∨ (SqT K H p ys ∧ Q (.ref p) H))
theorem kTup (hK : X.K = K := by rfl) : CallR X (.type "tuple") (rTupK K) := hK ▸ call_tuple_of
def rLstK (K : PySem.W.Frag) : List V → Hp → VK → Prop := fun xs H Q => ∃ p ys, xs = [.ref p] ∧ (SqL K H p ys ∨ SqT K H p ys) ∧ ∀ l, H l = none → Q (.ref l) (upd H l (.lst ys))
theorem kLst (hK : X.K = K := by rfl) : CallR X (.type "list") (rLstK K) := hK ▸ call_list_of
theorem kSet (hc : X.calm = true) (hK : X.K = K := by rfl) : CallR X (.type "set") (rSetL K X.w) := hK ▸ cr_setL hc
theorem kSeq {tg e : Expr} {te : TE} (he : PE X e te) (hK : X.K = K := by rfl) : PI X tg e (iSeq K te) := hK ▸ pi_seq he
theorem kZip {e e2 : Expr} {ta : TA} {p pos tpos : Pos} {elts : List Expr} {kk : Nat} (hg : Gl X "zip") (hm : X.mg "zip" = none) (ha : PA X [e, e2] ta) (hK : X.K = K := by rfl)
    (hs : starEach [e, e2] X.env = (false, eval e X.env) :: starEach [e2] X.env := by rfl) (hpl : (backTo pos (starEach [e2] X.env)).any (·.1) = false := by rfl) :
    PI X (.Tuple elts kk tpos) (.Call (.Name "zip" p) [e, e2] [] pos) (iZipK K ta) := hK ▸ pi_zipK hg hm ha hs hpl
theorem kPgT {es : List Expr} {k : Nat} {pos : Pos} {t : TGs} {n : Nat} (hc : X.calm = true) (h : PGs X es t) (hK : X.K = K := by rfl)
    (hn : (assignEach es X.env).length = n := by rfl) (hst : (assignEach es X.env).findIdx? (·.1) = none := by rfl) : PG X (.Tuple es k pos) (gTup K n t) := hK ▸ pg_tup hc h hn hst
theorem kPgL {es : List Expr} {k : Nat} {pos : Pos} {t : TGs} {n : Nat} (hc : X.calm = true) (h : PGs X es t) (hK : X.K = K := by rfl)
    (hn : (assignEach es X.env).length = n := by rfl) (hst : (assignEach es X.env).findIdx? (·.1) = none := by rfl) : PG X (.Tuple es k pos) (gLst K n t) := hK ▸ pg_lst hc h hn hst
/-- an error of a callee that can't come -/
theorem passX {P : Program} {w : World} : Passes (L2.CX P w) X E0 := fun _ _ _ _ _ _ _ h => by
  obtain ⟨a, B, H', cls, d, _, _, _, _, _, _, _, z⟩ := h
  exact z.elim
end
end Hg

set_option maxHeartbeats 4000000
namespace Hg
open PySem PySem.Spec PyProof.Rows L2
/-- a block cut behind its first row -/
theorem cut {t u : TS} {D : Ends} {σ : L2.St} {H : Hp} (R : L2.St → Hp → Prop) (h2 : ∀ σ' H', R σ' H' → u D σ' H') (h1 : ∀ N : L2.St → Hp → Prop, (∀ σ' H', R σ' H' → N σ' H') → t { D with nx := N } σ H) : tSeq t u D σ H := h1 _ h2
theorem ixk {K : PySem.W.Frag} {k : Bool} {H : Hp} {p : Addr} {xs : List V} {i : Int} {v : V} {Q : VK} (h : SqK K k H p xs) (e : atI xs i = some v) (q : Q v H) : rIx K (.ref p) (.int i) H Q := by
  cases k with
  | true => exact .inr (.inl ⟨p, xs, i, v, rfl, rfl, h, e, q⟩)
  | false => exact .inl ⟨p, xs, i, v, rfl, rfl, h, e, q⟩
theorem ixl {K : PySem.W.Frag} {H : Hp} {p : Addr} {xs : List V} {i : Int} {v : V} {Q : VK} (h : H p = some (.lst xs)) (e : atI xs i = some v) (q : Q v H) : rIx K (.ref p) (.int i) H Q := ixk (k := false) (SqK.lst h) e q
theorem ixt {K : PySem.W.Frag} {H : Hp} {p : Addr} {xs : List V} {i : Int} {v : V} {Q : VK} (h : H p = some (.tup xs)) (e : atI xs i = some v) (q : Q v H) : rIx K (.ref p) (.int i) H Q := ixk (k := true) (SqK.tup h) e q
section
variable {s q : Addr} {B B' : Nat} {G H : Hp}
theorem Ov.setS (x : Ov s q B G H) {ns : List Int} (hq : H q = some (.lst (ns.map V.int))) {n c k : Int} (h0 : 0 ≤ n) (h1 : 0 ≤ c) (h2 : c ≤ (B' : Int)) (h3 : 0 ≤ k) (h4 : k < 2147483647) : Ov s q B' G (upd H s (.lst [.ref q, .int n, .int c, .int k])) := by
  refine ⟨fun a o e => ?_, x.gs, x.gq, x.str.ne, n, c, k, ns, upd_same, (upd_ne (Ne.symm x.str.ne)).trans hq, h0, h1, h2, h3, h4⟩
  have ns : a ≠ s := fun z => by rw [z, x.gs] at e; cases e
  exact (upd_ne ns).trans (x.sub _ _ e)
theorem Ov.setQ (x : Ov s q B G H) (ns : List Int) : Ov s q B G (upd H q (.lst (ns.map V.int))) := by
  obtain ⟨ne, n, c, k, ms, e1, e2, e3⟩ := x.str
  refine ⟨fun a o e => ?_, x.gs, x.gq, ne, n, c, k, ns, (upd_ne ne).trans e1, upd_same, e3⟩
  have nq : a ≠ q := fun z => by rw [z, x.gq] at e; cases e
  exact (upd_ne nq).trans (x.sub _ _ e)
theorem upd_swap {G : Hp} {p L : Addr} {a b t : HO} (h : p ≠ L) : upd (upd (upd G L a) p t) L b = upd (upd G p t) L b := by
  funext x
  by_cases e1 : x = L
  · subst e1
    rw [upd_same, upd_same]
  · rw [upd_ne e1, upd_ne e1]
    by_cases e2 : x = p
    · subst e2
      rw [upd_same, upd_same]
    · rw [upd_ne e2, upd_ne e2, upd_ne e1]
/-- nothing that stands is changed -/
theorem Ov.ex (x : Ov s q B G H) {H' : Hp} (e : Ex H H') : Ov s q B G H' := by
  obtain ⟨a, b, c, d, n, k, l, ns, e1, e2, e3⟩ := x
  exact ⟨a.trans e, b, c, d, n, k, l, ns, e _ _ e1, e _ _ e2, e3⟩
/-- draw(stream, m): what a law's draw keeps -/
def spDraw : Sp := fun vs H Q _ => ∃ (s q : Addr) (B : Nat) (G : Hp) (m : Int), vs = [.ref s, .int m] ∧ Ov s q B G H ∧ B < 1000000 ∧ 0 < m ∧ m.natAbs < 2 ^ 8000 ∧ ∀ (r : Int) (H' : Hp), 0 ≤ r → r < m → Ov s q (B + 1) G H' → Q (.int r) H'
end
end Hg

set_option maxHeartbeats 4000000
namespace Hg
open PySem PySem.Spec PyProof.Rows L2
open AutoSeq1 (wpAny_loadPart')
/-! ### enumerate over a list or a tuple -/
def IteK (K : PySem.W.Frag) (k : Bool) (a : Addr) : It :=
  ⟨fun i H => ∃ (xs : List V) (x : V), SqK K k H a xs ∧ xs[i]? = some x,
    fun i H v H' => ∃ T x, v = .ref T ∧ H T = none ∧ H' = upd H T (.tup [.int (i : Nat), x]) ∧ ∀ xs, SqK K k H a xs → xs[i]? = some x,
    fun i H => ∃ xs : List V, SqK K k H a xs ∧ i = xs.length⟩
theorem walk_ek {K : PySem.W.Frag} {k : Bool} {a : Addr} {xs : List V} : Walk (IteK K k a) xs.length (fun H => SqK K k H a xs) (YPair (fun i => some (.int (i : Nat))) (fun i => xs[i]?)) := by
  refine ⟨fun i _ hi q => ⟨xs, xs[i], q, by simp [hi]⟩, fun _ q => ⟨xs, q, rfl⟩, fun i H v H' _ q y => ?_⟩
  obtain ⟨T, x, h1, h2, h3, h4⟩ := y
  exact ⟨T, _, x, h1, h2, h3, rfl, h4 xs q⟩
theorem turn_ek {P : Program} {w : World} {K : PySem.W.Frag} {elts : List Expr} {kk : Nat} {tpos : Pos} {k : Bool} {a e it : Addr} (na : a ≠ it) (ne : e ≠ it) (nea : e ≠ a) :
    Turn P w K (.Tuple elts kk tpos) (IteK K k a) [e, it] e (fun i h => (∃ old, IsEnum h e it ((i : Nat) : Int) old) ∧ IterK k h it a i) := by
  have two : ∀ {c : Addr}, c ∈ [e, it] → c = e ∨ c = it := fun {c} hc => by simpa using hc
  refine ⟨by simp, fun n h st c hc => ?_, fun n h h' st q => ?_, ?_, ?_, fun A n s Q E st h => let ⟨⟨_, he⟩, _⟩ := st; wpAny_pyIter_enum he h⟩
  · obtain ⟨⟨old, he⟩, h1⟩ := st
    rcases two hc with z | z <;> subst z
    · exact ⟨_, he, fun v q => nomatch q⟩
    · exact h1.ob
  · obtain ⟨⟨old, he⟩, h1⟩ := st
    exact ⟨⟨old, q e (by simp) _ he⟩, h1.at fun o z => q it (by simp) o z⟩
  · intro X hP hw hK hc n pins s σ H E I hf st hg
    subst hP hw hK
    obtain ⟨⟨old, he⟩, h1⟩ := st
    obtain ⟨xs, x, hqx, hx⟩ := hg
    obtain ⟨its, rv, p1, _⟩ := at_k I hqx
    obtain ⟨u, hu, ru⟩ := rv.get hx
    have hh : X.A.in1.handled = none := by simpa using I.ok.hd hc
    have b1 : n < its.toArray.size := by simpa using (List.getElem?_eq_some_iff.mp hu).1
    have hel : e < s.heap.objs.size := Heap.lt_size he
    have hil : it < s.heap.objs.size := by obtain ⟨o, q, _⟩ := h1.ob; exact Heap.lt_size q
    have hef : e ∉ [it, a] := by simp [ne, nea]
    refine wpAny_pyNext_enum_itemD (draw_k k hh it a na its.toArray) he ⟨h1, p1⟩ b1 ne hef fun x1 h' tk hx1 ho st1 hT hsz hk => ?_
    have ex1 : x1 = u := by
      rw [show its.toArray[n]? = some u by simpa using hu] at hx1
      exact (Option.some.inj hx1).symm
    subst ex1
    refine ⟨_, rfl, wpAny_letOwnedTupleGo_enum (s := { s with heap := h', toks := tk + 1 }) ho fun h'' he' sb => ?_⟩
    have hT2 : h''.get? s.heap.objs.size = some { cls := .type "tuple", data := .seq #[.int n tk, x1] } := (sb.2 _ (Nat.ne_of_gt hel)).trans hT
    have new : ObjOk X.prog X.w (upd H s.heap.objs.size (.tup [.int (n : Nat), x])) h'' s.heap.objs.size (.tup [.int (n : Nat), x]) :=
      ⟨by show 2 ≤ sizeLine; decide, [.int n tk, x1], .cons ⟨_, rfl⟩ (.cons ru .nil), ⟨_, hT2, rfl, _, rfl⟩⟩
    have I1 : Inv X pins σ (upd H s.heap.objs.size (.tup [.int (n : Nat), x])) { s with heap := h'', toks := tk + 1 } :=
      I.turnedNew (t' := tk + 1) (ch := [e, it]) (fun b ob hb q => (sb.2 b (fun z => hb (by simp [z]))).trans (hk b ob (fun z => hb (by simp [z])) (fun z => hb (by simp [z])) q)) hf (Nat.le_refl _) new
    refine ⟨.ref s.heap.objs.size, _, I1, rfl, ⟨_, x, rfl, I.fresh, rfl, fun ys hy => by rw [SqK.inj I hy hqx]; exact hx⟩, ⟨⟨x1, ?_⟩, st1.1.at fun o q => (sb.2 it (Ne.symm ne)).trans q⟩, fun b hb => ?_⟩
    · have e1 : ((n + 1 : Nat) : Int) = (n : Int) + 1 := by omega
      rw [e1]; exact he'
    · have hb' : b < s.heap.objs.size := by
        rcases two hb with z | z
        · rw [z]; exact hel
        · rw [z]; exact hil
      rw [upd_ne (Nat.ne_of_lt hb')]
      exact (hf b hb).1
  · intro X hP hw hK hc n pins s σ H E I hf st hg
    subst hP hw hK
    obtain ⟨⟨old, he⟩, h1⟩ := st
    obtain ⟨xs, hqx, hn⟩ := hg
    obtain ⟨its, rv, p1, _⟩ := at_k I hqx
    have hl := rv.length
    have hh : X.A.in1.handled = none := by simpa using I.ok.hd hc
    obtain ⟨f0, f1, f2, f3, f4, f5⟩ := hf it (by simp)
    have e1 : n = its.toArray.size := by rw [List.size_toArray]; omega
    subst e1
    exact wpAny_pyNext_enum_endD (draw_k k hh it a na its.toArray) he ⟨h1, p1⟩ fun h' eb => ⟨rfl, I.turned (t' := s.toks) (fun b o hb q => eb b o hb q) f0 f1 f3 f4 f5⟩
def iEnumK (K : PySem.W.Frag) (ta : TA) : TI := fun σ H R => ta σ H fun vs H1 => ∃ (k : Bool) (a : Addr) (xs : List V), vs = [.ref a] ∧ SqK K k H1 a xs ∧ R (IteK K k a) H1
theorem meets_enumerate_newB1 {v : Value} {o : Obj} {H : Heap → Prop} (B : Begins v o H) :
    Meets (Builtin.«enumerate.__new__» ⟨[.type "enumerate", v], []⟩) (fun _ R s => H s.heap ∧
      R (.ok (.ret (.ref (s.heap.push o).objs.size))) { s with heap := (s.heap.push o).push { cls := .type "enumerate", data := .fields #[.none, .bool false, .ref s.heap.objs.size, rawInt 0, .none, .none] } }) :=
  .of_wp fun prog w A R s h => by
    obtain ⟨hp, g, d, tk, os⟩ := s; obtain ⟨h1, h⟩ := h
    have hsub := sub_enumerate
    have q1 : ∀ {A' : Around} {E : Value → Shared → Prop} {Q : Value → Shared → Prop}, Q (.ref hp.objs.size) ⟨hp.push o, g, d, tk, os⟩ → wpAny (model prog w) A' (pyIter v) Q E ⟨hp, g, d, tk, os⟩ :=
      fun q => B.iter prog w _ _ ⟨hp, g, d, tk, os⟩ _ h1 q
    wp_walk using q1
    refine wpAny_stack_any fun st => wpAny_pure ?_
    split
    · rename_i c _ _ _ _ _
      cases (c == Value.type "enumerate")
      · wp_walk using q1
        exact ⟨_, rfl, h⟩
      · wp_walk using q1
        exact ⟨_, rfl, h⟩
    · wp_walk using q1
      exact ⟨_, rfl, h⟩
theorem enum_begins1 {prog : Program} {w : World} {A : Around} {E : Value → Shared → Prop} {s : Shared} {v : Value} {o : Obj} {H : Heap → Prop} {Q : Value → Shared → Prop} (B : Begins v o H) (h1 : H s.heap)
    (h : ∀ h', IsEnum h' (s.heap.objs.size + 1) s.heap.objs.size 0 .none → h'.get? s.heap.objs.size = some o → h'.objs.size = s.heap.objs.size + 2 →
      (∀ b o, s.heap.get? b = some o → h'.get? b = some o) → Q (.ref (s.heap.objs.size + 1)) { s with heap := h' }) :
    wpAny (model prog w) A (call (.type "enumerate") [v]) Q E s := by
  refine callType_new F.called_enumerate (by decide) (F.typeCall_enumerate_1 _) (F.newCall_enumerate_1 _) (fun obj => F.args_object_init_2 obj _) F.entry_enumerate_new
    (meets_enumerate_newB1 B) ⟨h1, ?_⟩
  have hz : (s.heap.push o).objs.size = s.heap.objs.size + 1 := Heap.size_push ..
  show _ ∧ _
  rw [hz]
  have he : IsEnum ((s.heap.push o).push { cls := .type "enumerate", data := .fields #[.none, .bool false, .ref s.heap.objs.size, rawInt 0, .none, .none] }) (s.heap.objs.size + 1) s.heap.objs.size 0 .none := by
    have := Heap.get?_push_size (s.heap.push o) (o := { cls := .type "enumerate", data := .fields #[.none, .bool false, .ref s.heap.objs.size, rawInt 0, .none, .none] }) rfl
    rw [hz] at this; exact this
  refine ⟨⟨_, he, rfl⟩, h _ he (Heap.get?_push_of_some _ (Heap.get?_push_size _ B.free)) (by rw [Heap.size_push, hz]) fun b o x => Heap.get?_push_of_some _ (Heap.get?_push_of_some _ x)⟩
theorem pi_enumK {X : Cx} {e : Expr} {ta : TA} {p pos tpos : Pos} {elts : List Expr} {kk : Nat} (hg : Gl X "enumerate") (hm : X.mg "enumerate" = none) (ha : PA X [e] ta) (hs : starEach [e] X.env = [(false, eval e X.env)] := by rfl) :
    PI X (.Tuple elts kk tpos) (.Call (.Name "enumerate" p) [e] [] pos) (iEnumK X.K ta) := by
  refine ⟨fun pins s σ H R I h => ?_⟩
  refine Call_ (ld_blt I hg hm boot_enumerate (PyProof.Rows.callWith_type1 (thn (ha.run pos pins s σ H _ I h) ?_) hs rfl))
  rintro us s1 ⟨vs, H1, I1, r1, k, a, xs, rfl, hq, q⟩
  obtain ⟨u1, rfl, ru1⟩ := Vals.one r1
  cases (show u1 = Value.ref a from ru1)
  obtain ⟨its, rv, p1, la⟩ := at_k I1 hq
  refine enum_begins1 (begin_k k a its.toArray) p1 fun h' he e1 hsz hk => wpAny_pyIter_enum he ?_
  have i1 : IterK k h' s1.heap.objs.size a 0 := by
    cases k with
    | true => exact ⟨_, e1, rfl, rfl⟩
    | false => exact ⟨_, e1, rfl, rfl⟩
  refine ⟨s1.heap.objs.size + 1, [s1.heap.objs.size + 1, s1.heap.objs.size], _, _, H1, rfl, I1.kept (t' := s1.toks) hk,
    turn_ek (Nat.ne_of_lt la) (Nat.succ_ne_self _) (Nat.ne_of_gt (Nat.lt_succ_of_lt la)), ⟨⟨.none, he⟩, i1⟩, fun b hb => ?_, q⟩
  have e' : b = s1.heap.objs.size + 1 ∨ b = s1.heap.objs.size := by simpa using hb
  have hle : s1.heap.objs.size ≤ b := by
    rcases e' with z | z
    · rw [z]; exact Nat.le_add_right _ _
    · rw [z]; exact Nat.le_refl _
  exact I1.fpOk hle (I1.hok.fresh hle)
theorem kEnum {X : Cx} {K : PySem.W.Frag} {e : Expr} {ta : TA} {p pos tpos : Pos} {elts : List Expr} {kk : Nat} (hg : Gl X "enumerate") (hm : X.mg "enumerate" = none) (ha : PA X [e] ta) (hK : X.K = K := by rfl) (hs : starEach [e] X.env = [(false, eval e X.env)] := by rfl) :
    PI X (.Tuple elts kk tpos) (.Call (.Name "enumerate" p) [e] [] pos) (iEnumK K ta) := hK ▸ pi_enumK hg hm ha hs
end Hg

set_option maxHeartbeats 4000000
namespace Hg
open PySem PySem.Spec PyProof.Rows L2
open AutoSeq1 (wpAny_loadPart')
theorem tuple_mulW1 (l : Addr) (items : Array Value) (n : Nat) (dd : Option Addr) (sl : Array (Option Value)) (x : Int) (u : Tok) (c0 : (decide (x < -(2 ^ 63)) || decide (x ≥ 2 ^ 63)) = false) (c1 : (items.isEmpty || x == 1) = true) :
    Meets (Builtin.«tuple.__mul__» ⟨[.ref l, .int x u], []⟩) (fun _ R s => s.heap.get? l = some { cls := .type "tuple", dict := dd, data := .seq items n, slots := sl } ∧
      R (.ok (.ret (Value.ref l))) s) :=
  .of_wp fun prog w A R s h => by
    obtain ⟨hp, g, d, tk, os⟩ := s
    obtain ⟨hl, h⟩ := h
    have f1 := AutoSeq1.idx_int
    wp_walk using wpAny_loadPart' hl
    repeat (first
      | (refine wpAny_ite_false (decide_eq_false (by rw [c0]; exact Bool.false_ne_true)) ?_; wp_walk using wpAny_loadPart' hl)
      | (refine wpAny_ite_true (decide_eq_true c1) ?_; wp_walk using wpAny_loadPart' hl))
    exact ⟨_, rfl, h⟩
/-- (x, ..) * k, k from 1 on -/
def rRepU (K : PySem.W.Frag) : R2 := fun x y H Q => ∃ l k xs, x = .ref l ∧ y = .int k ∧ SqT K H l xs ∧ xs ≠ [] ∧ 1 ≤ k ∧ k ≤ 1000 ∧ xs.length ≤ 1000 ∧ (k = 1 → Q (.ref l) H) ∧ (2 ≤ k → ∀ p, H p = none → Q (.ref p) (upd H p (.tup (List.replicate k.toNat xs).flatten)))
theorem op_repU {X : Cx} : OpR X (binaryOp .Mult) (rRepU X.K) := by
  intro pins s σ H x y v u Q I rx ry h
  obtain ⟨l, k, xs, rfl, rfl, hT, hne, h1, h2, hz, q1, q⟩ := h
  by_cases hk : k = 1
  · subst hk
    cases rx
    obtain ⟨t, rfl⟩ := ry
    obtain ⟨its, r, ⟨⟨cls, dd, data, sl⟩, ho, hc, n, hd⟩, hs⟩ := I.tuple hT
    simp only at hc hd
    subst hc hd
    refine wpAny_binaryOp_repeat_ref (T := "tuple") (U := "int") (by decide) ⟨_, ho, rfl⟩ (fun s' => typeIs_int s' 1 t) noFill_tuple_mul F.fills_int_mul F.slot_int_rmul repeat_tuple F.slot_int_index.lookup
      (call_meets F.slot_int_rmul (typeIs_int s 1 t) F.entry_int_rmul (F.args_int_rmul_2 _ _) (int_rmul_tuple 1 t l its.toArray n dd sl)
        ⟨ho, rfl, ⟨_, ho, rfl⟩, call_meets F.slot_tuple_mul ⟨_, ho, rfl⟩ F.entry_tuple_mul (F.args_tuple_mul_2 _ _) (tuple_mulW1 l its.toArray n dd sl 1 t (by decide) (by simp)) ⟨ho, ?_⟩⟩)
    exact ⟨.ref l, H, I, rfl, q1 rfl⟩
  · exact op_repT pins s σ H _ _ v u Q I rx ry ⟨l, k, xs, rfl, rfl, hT, hne, by omega, h2, hz, q (by omega)⟩
def rMulA (K : PySem.W.Frag) : R2 := fun x y H Q => rMulI x y H Q ∨ (rRep x y H Q ∨ rRepU K x y H Q)
theorem kMul {X : Cx} {K : PySem.W.Frag} (hK : X.K = K := by rfl) : OpR X (binaryOp .Mult) (rMulA K) := hK ▸ oMul.or (op_rep.or op_repU)
end Hg

set_option maxHeartbeats 4000000
set_option exponentiation.threshold 10000
namespace Hg
open PySem PySem.Spec PyProof.Rows L2
/-! ### kinds -/
def kinds : List String := ["NoneType", "bool", "int", "str", "tuple", "list"]
inductive Kd (H : Hp) : V → String → Prop
  | non : Kd H .non "NoneType"
  | bl (b : Bool) : Kd H (.bl b) "bool"
  | int (i : Int) : Kd H (.int i) "int"
  | str (x : Str) : Kd H (.str x) "str"
  | tup {a : Addr} {xs : List V} : H a = some (.tup xs) → Kd H (.ref a) "tuple"
  | lst {a : Addr} {xs : List V} : H a = some (.lst xs) → Kd H (.ref a) "list"
theorem Kd.mem {H : Hp} {v : V} {n : String} (h : Kd H v n) : n ∈ kinds := by cases h <;> simp [kinds]
theorem Kd.ty {K : PySem.W.Frag} {H : Hp} {v : V} {n : String} (h : Kd H v n) : TyX K H v (.type n) := by
  cases h with
  | non => exact .base .non
  | bl b => exact .base (.bl b)
  | int i => exact .base (.int i)
  | str x => exact .base (.str x)
  | tup e => exact .base (.tup e)
  | lst e => exact .base (.lst e)
theorem Kd.ex {H H' : Hp} {v : V} {n : String} (e : Ex H H') (h : Kd H v n) : Kd H' v n := by
  cases h with
  | non => exact .non
  | bl b => exact .bl b
  | int i => exact .int i
  | str x => exact .str x
  | tup q => exact .tup (e _ _ q)
  | lst q => exact .lst (e _ _ q)
def isI : V → Bool
  | .int _ => true
  | _ => false
theorem Kd.isI {H : Hp} {v : V} {n : String} (h : Kd H v n) : (n == "int") = Hg.isI v := by cases h <;> rfl
theorem kit_int : ∀ n ∈ kinds, kitB n "int" = some (n == "int" || n == "bool") := by
  intro n h
  simp only [kinds, List.mem_cons, List.not_mem_nil, or_false] at h
  rcases h with h | h | h | h | h | h <;> subst h <;> decide +kernel
theorem kit_bool : ∀ n ∈ kinds, kitB n "bool" = some (n == "bool") := by
  intro n h
  simp only [kinds, List.mem_cons, List.not_mem_nil, or_false] at h
  rcases h with h | h | h | h | h | h <;> subst h <;> decide +kernel
theorem kit_tup : ∀ n ∈ kinds, kitB n "tuple" = some (n == "tuple") := by
  intro n h
  simp only [kinds, List.mem_cons, List.not_mem_nil, or_false] at h
  rcases h with h | h | h | h | h | h <;> subst h <;> decide +kernel
def sp_isInt (K : PySem.W.Frag) : Sp := fun vs H Q _ => ∃ (v : V) (n : String), vs = [v] ∧ Kd H v n ∧ Q (.bl (isI v)) H
theorem int_case (n : String) (h : n ∈ kinds) : (if (n == "int" || n == "bool") = true then !(n == "bool") else false) = (n == "int") := by
  simp only [kinds, List.mem_cons, List.not_mem_nil, or_false] at h
  rcases h with h | h | h | h | h | h <;> subst h <;> decide
/-! ### gcd -/
def gcdI (a b : Int) : Int := ((Nat.gcd a.natAbs b.natAbs : Nat) : Int)
def gfold (ns : List Int) : Int := ns.foldl gcdI 0
theorem gfold_more {ns : List Int} {i : Nat} {z : Int} (h : ns[i]? = some z) : gfold (ns.take (i + 1)) = gcdI (gfold (ns.take i)) z := by
  unfold gfold
  have hi : i < ns.length := (List.getElem?_eq_some_iff.mp h).1
  rw [List.take_succ, h, Option.toList_some, List.foldl_append]
  rfl
theorem ints_at {ns : List Int} {i : Nat} {x : V} (h : (ns.map V.int)[i]? = some x) : ∃ z, ns[i]? = some z ∧ x = .int z := by
  rw [List.getElem?_map] at h
  cases e : ns[i]? with
  | none =>
    rw [e] at h
    cases h
  | some z =>
    rw [e] at h
    exact ⟨z, rfl, (Option.some.inj h).symm⟩
/-- what is_form is asked: no tuple, or a tuple of known kinds -/
def Frm (H : Hp) (v : V) (size : Int) (b : Bool) : Prop :=
  (∃ n, Kd H v n ∧ n ≠ "tuple" ∧ b = false) ∨ ∃ (a : Addr) (xs : List V), v = .ref a ∧ H a = some (.tup xs) ∧ xs.length ≤ 1000 ∧ (∀ x ∈ xs, ∃ n, Kd H x n) ∧ b = (decide ((xs.length : Int) = size) && xs.all isI)
def sp_is_form (K : PySem.W.Frag) : Sp := fun vs H Q _ => ∃ (v : V) (size : Int) (b : Bool), vs = [v, .int size] ∧ Frm H v size b ∧ ∀ H', Ex H H' → Q (.bl b) H'
def big (x : Int) : Prop := x.natAbs < 2 ^ 3000
theorem big_mul {x y : Int} (hx : big x) (hy : big y) : CMulW x y := wide_mul hx hy (by decide) (by decide) (by decide)
def dotI (fs vs : List Int) : Int := (List.zipWith (· * ·) fs vs).sum
def sp_dot (K : PySem.W.Frag) : Sp := fun vs H Q _ => ∃ (k l : Bool) (a b : Addr) (xs ys : List Int), vs = [.ref a, .ref b] ∧ SqK K k H a (xs.map V.int) ∧ SqK K l H b (ys.map V.int) ∧ xs.length = ys.length ∧ xs.length ≤ 1000 ∧
  (∀ x ∈ xs, big x) ∧ (∀ y ∈ ys, big y) ∧ ∀ H', Ex H H' → Q (.int (dotI xs ys)) H'
def sp_add_forms (K : PySem.W.Frag) : Sp := fun vs H Q _ => ∃ (k l : Bool) (a b : Addr) (xs ys : List Int), vs = [.ref a, .ref b] ∧ SqK K k H a (xs.map V.int) ∧ SqK K l H b (ys.map V.int) ∧ xs.length = ys.length ∧ xs.length ≤ 1000 ∧
  ∀ H' p, Ex H H' → H p = none → H' p = some (.tup ((List.zipWith (· + ·) xs ys).map V.int)) → Q (.ref p) H'
def sp_scale_form (K : PySem.W.Frag) : Sp := fun vs H Q _ => ∃ (k : Bool) (a : Addr) (c : Int) (xs : List Int), vs = [.int c, .ref a] ∧ SqK K k H a (xs.map V.int) ∧ xs.length ≤ 1000 ∧ big c ∧ (∀ x ∈ xs, big x) ∧
  ∀ H' p, Ex H H' → H p = none → H' p = some (.tup ((xs.map (c * ·)).map V.int)) → Q (.ref p) H'
theorem range_zip {xs ys : List Int} (h : xs.length = ys.length) (f : Int → Int → Int) (val : Nat → V) (hv : ∀ i x y, xs[i]? = some x → ys[i]? = some y → val i = .int (f x y)) :
    (List.range (min xs.length ys.length)).map val = (List.zipWith f xs ys).map V.int := by
  apply List.ext_getElem?
  intro i
  rw [List.getElem?_map, List.getElem?_map]
  by_cases hi : i < xs.length
  · have hj : i < ys.length := by omega
    rw [List.getElem?_range (by omega)]
    simp only [List.getElem?_zipWith, List.getElem?_eq_getElem hi, List.getElem?_eq_getElem hj, Option.map_some]
    rw [hv i _ _ (List.getElem?_eq_getElem hi) (List.getElem?_eq_getElem hj)]
  · have e1 : (List.range (min xs.length ys.length))[i]? = none := by simp; omega
    have e2 : (List.zipWith f xs ys)[i]? = none := by
      rw [List.getElem?_eq_none_iff]
      simp
      omega
    rw [e1, e2]
    rfl
theorem eqv_nil (ns : List Int) : (!PyData.eqv (.list (ns.map PyData.int)) (.list [])) = !decide (ns = []) := by
  rw [show ([] : List PyData) = ([] : List Int).map PyData.int from rfl, eqv_l]
theorem seq0 (n : Nat) : seqIndex? 0 (n + 1) = some 0 := by
  unfold seqIndex?
  simp
theorem menu {vs : List V} {r : Int} (h0 : 0 ≤ r) {n : Nat} (h1 : r < n) (hn : vs.length = n) : ∃ v, atI vs r = some v ∧ v ∈ vs := at_lt h0 (by omega)
/-! ### what lies beside the stream -/
def beside (s q : Addr) (H : Hp) : Hp := fun a => if a = s ∨ a = q then none else H a
theorem beside_of {s q a : Addr} {H : Hp} (h1 : a ≠ s) (h2 : a ≠ q) : beside s q H a = H a := by
  unfold beside
  rw [if_neg (by rintro (h | h) <;> contradiction)]
section
variable {s q : Addr} {B : Nat} {G H : Hp}
/-- all that lies beside the stream is kept -/
theorem Ov.all (x : Ov s q B G H) : Ov s q B (beside s q H) H ∧ Ex G (beside s q H) := by
  refine ⟨⟨fun a o e => ?_, by simp [beside], by simp [beside], x.str⟩, fun a o e => ?_⟩
  · unfold beside at e
    split at e
    · cases e
    · exact e
  · rw [beside_of (fun z => by rw [z, x.gs] at e; cases e) (fun z => by rw [z, x.gq] at e; cases e)]
    exact x.sub _ _ e
theorem Ov.tup (x : Ov s q B G H) {a : Addr} {xs : List V} (h : H a = some (.tup xs)) : beside s q H a = some (.tup xs) := by
  obtain ⟨ne, n, k, l, ms, e1, e2, e3⟩ := x.str
  rw [beside_of (fun z => by rw [z, e1] at h; cases h) (fun z => by rw [z, e2] at h; cases h)]
  exact h
/-- a new object is known -/
theorem Ov.fresh (x : Ov s q B G H) {H' : Hp} (e : Ex H H') {a : Addr} (hn : H a = none) {o : HO} (h : H' a = some o) : beside s q H' a = some o := by
  obtain ⟨ne, n, k, l, ms, e1, e2, e3⟩ := x.str
  rw [beside_of (fun z => by rw [z, e1] at hn; cases hn) (fun z => by rw [z, e2] at hn; cases hn)]
  exact h
end
section
variable {s q : Addr} {B B1 : Nat} {G H H1 : Hp}
theorem Ov.t (O : Ov s q B G H) (O1 : Ov s q B1 (beside s q H) H1) {a : Addr} {xs : List V} (h : H a = some (.tup xs)) : H1 a = some (.tup xs) := O1.sub _ _ (O.tup h)
theorem Ov.l (O1 : Ov s q B1 (beside s q H) H1) {a : Addr} {o : HO} (n1 : a ≠ s) (n2 : a ≠ q) (h : H a = some o) : H1 a = some o := O1.sub _ _ ((beside_of n1 n2).trans h)
theorem Ov.g (O : Ov s q B G H) (O1 : Ov s q B1 (beside s q H) H1) : Ov s q B1 G H1 := O1.weak O.all.2
/-- an object that G does not know is changed -/
theorem Ov.mut (x : Ov s q B G H) {p : Addr} {o : HO} (hp : G p = none) (n1 : p ≠ s) (n2 : p ≠ q) : Ov s q B G (upd H p o) := by
  obtain ⟨ne, n, k, l, ms, e1, e2, e3⟩ := x.str
  exact ⟨fun a u e => (upd_ne (fun z => by rw [z, hp] at e; cases e)).trans (x.sub _ _ e), x.gs, x.gq, ne, n, k, l, ms, (upd_ne (Ne.symm n1)).trans e1, (upd_ne (Ne.symm n2)).trans e2, e3⟩
theorem Ov.ns (x : Ov s q B G H) {p : Addr} (hp : H p = none) : p ≠ s ∧ p ≠ q := by
  obtain ⟨os, hs⟩ := x.hs
  obtain ⟨oq, hq⟩ := x.hq
  exact ⟨fun e => (ne_of_none hs hp) e.symm, fun e => (ne_of_none hq hp) e.symm⟩
end
/-- rows: tuples of ints -/
def RowsIn (H : Hp) (as : List Addr) (R : List (List Int)) : Prop := as.length = R.length ∧ ∀ (i : Nat) (a : Addr) (r : List Int), as[i]? = some a → R[i]? = some r → H a = some (.tup (r.map V.int))
theorem RowsIn.mono {H H' : Hp} {as : List Addr} {R : List (List Int)} (h : RowsIn H as R) (k : ∀ a xs, H a = some (.tup xs) → H' a = some (.tup xs)) : RowsIn H' as R := ⟨h.1, fun i a r h1 h2 => k _ _ (h.2 i a r h1 h2)⟩
theorem RowsIn.nil {H : Hp} : RowsIn H [] [] := ⟨rfl, fun i a r h => by simp at h⟩
theorem RowsIn.snoc {H : Hp} {as : List Addr} {R : List (List Int)} (h : RowsIn H as R) {a : Addr} {r : List Int} (ha : H a = some (.tup (r.map V.int))) : RowsIn H (as ++ [a]) (R ++ [r]) := by
  refine ⟨by simp [h.1], fun i b x h1 h2 => ?_⟩
  by_cases hi : i < as.length
  · rw [List.getElem?_append_left hi] at h1
    rw [List.getElem?_append_left (by rw [← h.1]; exact hi)] at h2
    exact h.2 i b x h1 h2
  · rw [List.getElem?_append_right (by omega)] at h1
    rw [List.getElem?_append_right (by rw [← h.1]; omega)] at h2
    have e : i - as.length = 0 := by
      have := (List.getElem?_eq_some_iff.mp h1).1
      simp at this; omega
    rw [← h.1, e] at h2
    rw [e] at h1
    cases h1
    cases h2
    exact ha
theorem RowsIn.set {H : Hp} {as : List Addr} {R : List (List Int)} (h : RowsIn H as R) {k : Nat} {a : Addr} {r : List Int} (ha : H a = some (.tup (r.map V.int))) : RowsIn H (as.set k a) (R.set k r) := by
  refine ⟨by simp [h.1], fun i b x h1 h2 => ?_⟩
  by_cases hi : k = i
  · subst hi
    by_cases hk : k < as.length
    · rw [List.getElem?_set_self hk] at h1
      rw [List.getElem?_set_self (by rw [← h.1]; exact hk)] at h2
      cases h1
      cases h2
      exact ha
    · rw [List.getElem?_eq_none (by simp; omega)] at h1
      cases h1
  · rw [List.getElem?_set_ne hi] at h1 h2
    exact h.2 i b x h1 h2
theorem RowsIn.get {H : Hp} {as : List Addr} {R : List (List Int)} (h : RowsIn H as R) {i : Nat} (hi : i < R.length) : ∃ a, as[i]? = some a ∧ R[i]? = some R[i] ∧ H a = some (.tup (R[i].map V.int)) := by
  have hi' : i < as.length := by rw [h.1]; exact hi
  exact ⟨as[i], by simp [hi'], by simp [hi], h.2 i _ _ (by simp [hi']) (by simp [hi])⟩
theorem tk_put {H : Hp} {L : Addr} {ys : List V} {o : HO} (hL : H L = some (.lst ys)) (a : Addr) (xs : List V) (h : H a = some (.tup xs)) : upd H L o a = some (.tup xs) := (upd_ne (fun e => by rw [e, hL] at h; cases h)).trans h
theorem natAbs_lt {x : Int} {n m : Nat} (h : x.natAbs ≤ n) (hm : n < m) : x.natAbs < m := Nat.lt_of_le_of_lt h hm
theorem ixN_nat {n j : Nat} (h : j < n) : ixN n (j : Int) = some j := by
  unfold ixN
  rw [if_pos (by omega), if_pos (by omega)]
  simp
/-! ### tuples put together and cut -/
theorem cat_t {K : PySem.W.Frag} {H : Hp} {a b : Addr} {xs ys : List V} {Q : VK} (ha : H a = some (.tup xs)) (hb : H b = some (.tup ys)) (hl : xs.length + ys.length ≤ 100000) (q : ∀ p H', Ex H H' → H' p = some (.tup (xs ++ ys)) → Q (.ref p) H') : rPlus K (.ref a) (.ref b) H Q := by
  refine .inr (.inr (.inl ⟨a, b, xs, ys, rfl, rfl, SqT.of ha, SqT.of hb, by rw [sizeLine_eq]; omega, fun h => ?_, fun _ h => ?_, fun _ _ p hp => ?_⟩))
  · subst h
    exact q b H (Ex.refl H) hb
  · subst h
    refine q a H (Ex.refl H) ?_
    rw [List.append_nil]
    exact ha
  · exact q p _ (Ex.new hp) upd_same
theorem cat_l {K : PySem.W.Frag} {H : Hp} {a b : Addr} {xs ys : List V} {Q : VK} (ha : H a = some (.lst xs)) (hb : H b = some (.lst ys)) (hl : xs.length + ys.length ≤ 100000) (q : ∀ p H', Ex H H' → H p = none → H' p = some (.lst (xs ++ ys)) → Q (.ref p) H') : rPlus K (.ref a) (.ref b) H Q :=
  .inr (.inl ⟨a, b, xs, ys, rfl, rfl, ha, hb, by rw [sizeLine_eq]; omega, fun p hp => q p _ (Ex.new hp) hp upd_same⟩)
theorem sl_t {K : PySem.W.Frag} {H : Hp} {a : Addr} {xs : List V} {lo hi : Option Int} {Q : VK} (ha : H a = some (.tup xs)) (q : ∀ p H', Ex H H' → H' p = some (.tup (cutV xs lo hi)) → Q (.ref p) H') : rSlAll K (.ref a) lo hi H Q := by
  refine .inr ⟨a, xs, rfl, SqT.of ha, fun h => ?_, fun _ p hp => q p _ (Ex.new hp) upd_same⟩
  refine q a H (Ex.refl H) ?_
  unfold cutV
  rw [h.1, h.2, List.drop_zero, Nat.sub_zero, List.take_length]
  exact ha
theorem cut_to {xs : List V} {n : Nat} (h : n ≤ xs.length) : cutV xs none (some (n : Int)) = xs.take n := by
  unfold cutV
  rw [HT.sIx_none, HT.sIx_nat, List.drop_zero, Nat.sub_zero, Nat.min_eq_left h]
theorem cut_from {xs : List V} {n : Nat} (h : n ≤ xs.length) : cutV xs (some (n : Int)) none = xs.drop n := by
  unfold cutV
  rw [HT.sIx_none, HT.sIx_nat, Nat.min_eq_left h]
  apply List.take_of_length_le
  simp
/-! ### the law -/
def spLaw (K : PySem.W.Frag) : Sp := fun vs H Q _ => ∃ (a : Addr) (ns : List Int), vs = [.ref a] ∧ SqL K H a (ns.map V.int) ∧ ∀ H', Q (.bl true) H'
theorem strm_new {H : Hp} {q0 s0 : Addr} {ns : List Int} (hq : H q0 = none) (hs : upd H q0 (.lst (ns.map V.int)) s0 = none) : Ov s0 q0 0 H (upd (upd H q0 (.lst (ns.map V.int))) s0 (.lst [.ref q0, .int 0, .int 0, .int 0])) := by
  have nq : q0 ≠ s0 := fun e => by rw [← e, upd_same] at hs; cases hs
  have hs' : H s0 = none := by rw [upd_ne (Ne.symm nq)] at hs; exact hs
  exact ⟨(Ex.new hq).trans (Ex.new hs), hs', hq, Ne.symm nq, 0, 0, 0, ns, upd_same, (upd_ne nq).trans upd_same, by decide, by decide, by decide, by decide, by decide⟩
theorem picked_first {α : Type} {keep : Nat → Bool} {val : Nat → α} {p : Nat} (h0 : ∀ i, i < p → keep i = false) : ∀ n, (n ≤ p → picked keep val n = []) ∧ (p < n → keep p = true → ∃ t, picked keep val n = val p :: t)
  | 0 => ⟨fun _ => rfl, fun h => absurd h (by omega)⟩
  | n + 1 => by
    obtain ⟨i1, i2⟩ := picked_first (val := val) h0 n
    refine ⟨fun h => ?_, fun h hk => ?_⟩
    · rw [picked_succ, h0 n (by omega), i1 (by omega)]
      rfl
    · rw [picked_succ]
      by_cases e : n = p
      · subst e
        rw [if_pos hk, i1 (Nat.le_refl _)]
        exact ⟨[], rfl⟩
      · obtain ⟨t, ht⟩ := i2 (by omega) hk
        rw [ht]
        split
        · exact ⟨_, rfl⟩
        · exact ⟨_, rfl⟩
theorem atI_0 {α : Type} {x : α} {xs : List α} : atI (x :: xs) 0 = some x := atI_nat (j := 0) rfl
/-! ### tests -/
section
variable {A B : Prop}
theorem iteD {p : Prop} [Decidable p] (h1 : p → A) (h2 : ¬ p → B) : if decide p = true then A else B := by
  by_cases h : p
  · rw [decide_eq_true h]; exact iteT (h1 h)
  · rw [decide_eq_false h]; exact iteF (h2 h)
theorem iteDT {p : Prop} [Decidable p] (h : p) (a : A) : if decide p = true then A else B := iteD (fun _ => a) fun n => absurd h n
theorem iteDF {p : Prop} [Decidable p] (h : ¬ p) (b : B) : if decide p = true then A else B := iteD (fun y => absurd y h) fun _ => b
theorem iteN {p : Prop} [Decidable p] (h1 : ¬ p → A) (h2 : p → B) : if (!decide p) = true then A else B := by
  by_cases h : p
  · rw [decide_eq_true h]; exact iteF (h2 h)
  · rw [decide_eq_false h]; exact iteT (h1 h)
theorem iteNT {p : Prop} [Decidable p] (h : ¬ p) (a : A) : if (!decide p) = true then A else B := iteN (fun _ => a) fun n => absurd n h
theorem iteNF {p : Prop} [Decidable p] (h : p) (b : B) : if (!decide p) = true then A else B := iteN (fun y => absurd h y) fun _ => b
theorem iteV {x y : Int} (h1 : x = y → A) (h2 : x ≠ y → B) : if decide (V.int x = V.int y) = true then A else B := iteD (fun h => h1 (by simpa using h)) fun h => h2 (by simpa using h)
theorem iteVT {x y : Int} (h : x = y) (a : A) : if decide (V.int x = V.int y) = true then A else B := iteV (fun _ => a) fun n => absurd h n
theorem iteVF {x y : Int} (h : x ≠ y) (b : B) : if decide (V.int x = V.int y) = true then A else B := iteV (fun y => absurd y h) fun _ => b
theorem iteW {x y : Int} (h1 : x ≠ y → A) (h2 : x = y → B) : if (!decide (V.int x = V.int y)) = true then A else B := iteN (fun h => h1 (by simpa using h)) fun h => h2 (by simpa using h)
theorem iteWT {x y : Int} (h : x ≠ y) (a : A) : if (!decide (V.int x = V.int y)) = true then A else B := iteW (fun _ => a) fun n => absurd n h
theorem iteWF {x y : Int} (h : x = y) (b : B) : if (!decide (V.int x = V.int y)) = true then A else B := iteW (fun y => absurd h y) fun _ => b
theorem iteB {b : Bool} (h1 : b = true → A) (h2 : b = false → B) : if b = true then A else B := by
  cases b with
  | true => exact iteT (h1 rfl)
  | false => exact iteF (h2 rfl)
theorem iteBN {b : Bool} (h1 : b = false → A) (h2 : b = true → B) : if (!b) = true then A else B := by
  cases b with
  | true => exact iteF (h2 rfl)
  | false => exact iteT (h1 rfl)
end
/-! ### rules with K said -/
section
variable {X : Cx} {K : PySem.W.Frag}
theorem kRepU (hK : X.K = K := by rfl) : OpR X (binaryOp .Mult) (rRepU K) := hK ▸ op_repU
end
end Hg

set_option maxHeartbeats 4000000
namespace Hg
open PySem PySem.Spec PyProof.Rows L2
theorem Ov.sync {s q : Addr} {B : Nat} {G H H' : Hp} (O : Ov s q B G H) (e : Ex H H') {p : Addr} {xs : List V} (hp : H' p = some (.tup xs)) : ∃ G', Ex G G' ∧ Ov s q B G' H' ∧ G' p = some (.tup xs) := by
  obtain ⟨a, b⟩ := (O.ex e).all
  exact ⟨_, b, a, (O.ex e).tup hp⟩
theorem Ov.syncL {s q : Addr} {B : Nat} {G H H' : Hp} (O : Ov s q B G H) (e : Ex H H') {p : Addr} {o : HO} (hn : H p = none) (hp : H' p = some o) : ∃ G', Ex G G' ∧ Ov s q B G' H' ∧ G' p = some o := by
  obtain ⟨a, b⟩ := (O.ex e).all
  exact ⟨_, b, a, O.fresh e hn hp⟩
theorem mem_cutV {xs : List V} {lo hi : Option Int} {x : V} (h : x ∈ cutV xs lo hi) : x ∈ xs := by
  unfold cutV at h
  exact List.mem_of_mem_drop (List.mem_of_mem_take h)
theorem rep_flat {α : Type} (x : α) : ∀ k : Nat, (List.replicate k [x]).flatten = List.replicate k x
  | 0 => rfl
  | k + 1 => by rw [List.replicate_succ, List.replicate_succ, List.flatten_cons, rep_flat x k]; rfl
theorem rep_t {K : PySem.W.Frag} {H : Hp} {l : Addr} {x : V} {k : Nat} {Q : VK} (hl : H l = some (.tup [x])) (h1 : 1 ≤ k) (h2 : k ≤ 1000) (q : ∀ p H', Ex H H' → H' p = some (.tup (List.replicate k x)) → Q (.ref p) H') : rRepU K (.ref l) (.int k) H Q := by
  refine ⟨l, k, [x], rfl, rfl, SqT.of hl, by simp, by omega, by omega, by simp, fun e => ?_, fun e p hp => ?_⟩
  · have : k = 1 := by omega
    subst this
    exact q l H (Ex.refl H) hl
  · refine q p _ (Ex.new hp) ?_
    rw [upd_same, Int.toNat_natCast, rep_flat]
/-- rows as data -/
theorem dp_rows {K : PySem.W.Frag} {H : Hp} : ∀ (as : List Addr) (R : List (List Int)), RowsIn H as R → DpAll K H (as.map V.ref) (R.map fun r => .tuple (r.map PyData.int))
  | [], [], _ => .nil
  | [], r :: R, h => absurd h.1 (by simp)
  | a :: as, [], h => absurd h.1 (by simp)
  | a :: as, r :: R, h => .cons (dp_t (SqT.of (h.2 0 a r rfl rfl))) (dp_rows as R ⟨by simpa using h.1, fun i b x h1 h2 => h.2 (i + 1) b x (by simpa using h1) (by simpa using h2)⟩)
theorem lay_rows : ∀ R : List (List Int), PyData.canLayAll0 (R.map fun r => PyData.tuple (r.map PyData.int)) = true
  | [] => rfl
  | r :: R => by simp [PyData.canLayAll0, PyData.canLay0, lay_ints, lay_rows R]
theorem depth_rows : ∀ R : List (List Int), PyData.depthAll (R.map fun r => PyData.tuple (r.map PyData.int)) ≤ 2
  | [] => by simp [PyData.depthAll]
  | r :: R => by
    have := depth_rows R
    have := depth_ints r
    simp [PyData.depthAll, PyData.depth]
    omega
theorem shaped_rows (R : List (List Int)) : SeqAt.shaped (.tuple (R.map fun r => PyData.tuple (r.map PyData.int))) = true := by
  have := depth_rows R
  simp [SeqAt.shaped, PyData.canLay0, PyData.depth, lay_rows]
  omega
theorem eqv_rows_nil (R : List (List Int)) : PyData.eqv (.tuple (R.map fun r => PyData.tuple (r.map PyData.int))) (.tuple []) = decide (R = []) := by
  rw [PyData.eqv]
  cases R <;> simp [PyData.eqvAll]
theorem Kd.putL {G : Hp} {l : Addr} {xs ys : List V} {v : V} {n : String} (hl : G l = some (.lst xs)) (h : Kd G v n) : Kd (upd G l (.lst ys)) v n := by
  cases h with
  | non => exact .non
  | bl b => exact .bl b
  | int i => exact .int i
  | str x => exact .str x
  | tup q => exact .tup (tk_put hl _ _ q)
  | lst q =>
    rename_i a zs
    by_cases e : a = l
    · subst e
      exact .lst upd_same
    · exact .lst ((upd_ne e).trans q)
end Hg

set_option maxHeartbeats 4000000
namespace K05
open PySem PySem.Spec PyProof.Rows L2 Hg
def top (i : Nat) : Stmt := PySem.Challenge.pw_hushgrain_k05_bases_of_any_object.main.body.getD i (.Pass ⟨0, 0, 0, 0⟩)
abbrev st_is_integer : Stmt := top 1
theorem sc_is_integer : FnScope ["thing"] ["thing"] (defScope st_is_integer) := ⟨rfl, rfl, rfl, by decide +kernel, rfl, by decide +kernel, by decide +kernel⟩
abbrev st_is_form : Stmt := top 3
theorem sc_is_form : FnScope ["thing", "size", "entry"] ["thing", "size"] (defScope st_is_form) := ⟨rfl, rfl, rfl, by decide +kernel, rfl, by decide +kernel, by decide +kernel⟩
abbrev st_is_basis : Stmt := top 5
theorem sc_is_basis : FnScope ["thing", "size", "row", "last", "index", "column", "above"] ["thing", "size"] (defScope st_is_basis) := ⟨rfl, rfl, rfl, by decide +kernel, rfl, by decide +kernel, by decide +kernel⟩
abbrev st_pivot_column : Stmt := top 6
theorem sc_pivot_column : FnScope ["row", "column"] ["row"] (defScope st_pivot_column) := ⟨rfl, rfl, rfl, by decide +kernel, rfl, by decide +kernel, by decide +kernel⟩
abbrev st_l_draw : Stmt := top 8
theorem sc_l_draw : FnScope ["_law_stream", "_law_count", "_law_number"] ["_law_stream", "_law_count"] (defScope st_l_draw) := ⟨rfl, rfl, rfl, by decide +kernel, rfl, by decide +kernel, by decide +kernel⟩
abbrev st_l_integer : Stmt := top 9
theorem sc_l_integer : FnScope ["_law_thing"] ["_law_thing"] (defScope st_l_integer) := ⟨rfl, rfl, rfl, by decide +kernel, rfl, by decide +kernel, by decide +kernel⟩
abbrev st_l_plus : Stmt := top 10
theorem sc_l_plus : FnScope ["_law_factor", "_law_one", "_law_other", "_law_a", "_law_b"] ["_law_factor", "_law_one", "_law_other"] (defScope st_l_plus) := ⟨rfl, rfl, rfl, by decide +kernel, rfl, by decide +kernel, by decide +kernel⟩
abbrev st_l_basis : Stmt := top 11
theorem sc_l_basis : FnScope ["_law_stream", "_law_size", "_law_menu", "_law_column", "_law_columns", "_law_rows", "_law_row", "_law_low", "_law_high", "_law_factor"] ["_law_stream", "_law_size"] (defScope st_l_basis) := ⟨rfl, rfl, rfl, by decide +kernel, rfl, by decide +kernel, by decide +kernel⟩
abbrev st_l_any : Stmt := top 12
theorem sc_l_any : FnScope ["_law_stream", "_law_menu"] ["_law_stream"] (defScope st_l_any) := ⟨rfl, rfl, rfl, by decide +kernel, rfl, by decide +kernel, by decide +kernel⟩
abbrev st_l_changed : Stmt := top 13
theorem sc_l_changed : FnScope ["_law_stream", "_law_basis_here", "_law_size", "_law_way", "_law_at", "_law_column", "_law_row", "_law_some", "_law_rows", "_law_entry"] ["_law_stream", "_law_basis_here", "_law_size"] (defScope st_l_changed) := ⟨rfl, rfl, rfl, by decide +kernel, rfl, by decide +kernel, by decide +kernel⟩
abbrev st_l_is_basis : Stmt := top 14
theorem sc_l_is_basis : FnScope ["_law_thing", "_law_size", "_law_last", "_law_low", "_law_row", "_law_places", "_law_at", "_law_entry", "_law_high"] ["_law_thing", "_law_size"] (defScope st_l_is_basis) := ⟨rfl, rfl, rfl, by decide +kernel, rfl, by decide +kernel, by decide +kernel⟩
abbrev st_law : Stmt := top 15
theorem sc_law : FnScope ["_law_script", "_law_stream", "_law_size", "_law_basis_here", "_law_k", "_law_thing", "_law_found"] ["_law_script"] (defScope st_law) := ⟨rfl, rfl, rfl, by decide +kernel, rfl, by decide +kernel, by decide +kernel⟩
structure Zs (mg : Str → Option Value) : Prop where
  all_ : mg "all" = none
  any_ : mg "any" = none
  bool_ : mg "bool" = none
  enumerate_ : mg "enumerate" = none
  int_ : mg "int" = none
  isinstance_ : mg "isinstance" = none
  len_ : mg "len" = none
  list_ : mg "list" = none
  range_ : mg "range" = none
  tuple_ : mg "tuple" = none
  zip_ : mg "zip" = none
abbrev sp_is_integer := sp_isInt
abbrev sp_l_integer := sp_isInt
def sp_l_draw (_ : PySem.W.Frag) : Sp := spDraw
end K05

set_option maxHeartbeats 4000000
namespace K05
open PySem PySem.Spec PyProof.Rows L2 Hg
section
variable {P : Program} {w : World} {K : PySem.W.Frag} {mg : Str → Option Value} {base : Heap}
theorem ok_is_integer {f : Addr} {fd : FuncData} (F : DefK K mg "is_integer" st_is_integer ["thing"] f fd) (Z : Zs mg)  :
    FnOk P w K mg base CX0 1 f fd ["thing"] (sp_is_integer K) := by
  refine F.fn.ok sc_is_integer (fun vs H Q E h => by first | (obtain ⟨rfl, _⟩ := h; rfl) | (obtain ⟨_, rfl, _⟩ := h; rfl) | (obtain ⟨_, _, rfl, _⟩ := h; rfl) | (obtain ⟨_, _, _, rfl, _⟩ := h; rfl) | (obtain ⟨_, _, _, _, rfl, _⟩ := h; rfl) | (obtain ⟨_, _, _, _, _, rfl, _⟩ := h; rfl) | (obtain ⟨_, _, _, _, _, _, rfl, _⟩ := h; rfl) | (obtain ⟨_, _, _, _, _, _, _, rfl, _⟩ := h; rfl) | (obtain ⟨_, _, _, _, _, _, _, _, rfl, _⟩ := h; rfl) | (obtain ⟨_, _, _, _, _, _, _, _, _, rfl, _⟩ := h; rfl) | (obtain ⟨_, _, _, _, _, _, _, _, _, _, rfl, _⟩ := h; rfl) | (obtain ⟨_, _, _, _, _, _, _, _, _, _, _, rfl, _⟩ := h; rfl) | (obtain ⟨_, _, _, _, _, _, _, _, _, _, _, _, rfl, _⟩ := h; rfl) | (obtain ⟨_, _, _, _, _, _, _, _, _, _, _, _, _, rfl, _⟩ := h; rfl)) (fun cdv A outer s H vs Q E hr h => ?_)
  obtain ⟨v, n, rfl, kd, k⟩ := h
  have hn := kd.mem
  have ty := kd.ty (K := K)
  rw [← kd.isI] at k
  refine ⟨_, (pss_one (ps_ret (pe_and (pe_callB (kIsi (K := K)) (by rfl) Z.isinstance_ PyProof.Rows.Boot.«isinstance» (pa_cons (pv 0) (pa_cons (pe_bltn (v := .ty "int") (by rfl) Z.int_ PyProof.Rows.Boot.«int» rfl) pa_nil))) (pe_one (pe_not (pe_callB (kIsi (K := K)) (by rfl) Z.isinstance_ PyProof.Rows.Boot.«isinstance» (pa_cons (pv 0) (pa_cons (pe_bltn (v := .ty "bool") (by rfl) Z.bool_ PyProof.Rows.Boot.«bool» rfl) pa_nil)))))))), ?_⟩
  refine ⟨_, rfl, v, .ty "int", .type n, .type "int", _, rfl, .ty "int", ty, kit_ty (kit_int n hn), _, rfl, ?_⟩
  have e := int_case n hn
  cases c : (n == "int" || n == "bool") with
  | true =>
    rw [c] at e
    refine iteT ⟨_, rfl, v, .ty "bool", .type n, .type "bool", _, rfl, .ty "bool", ty, kit_ty (kit_bool n hn), _, rfl, ?_⟩
    rw [← e] at k
    exact k
  | false =>
    rw [c] at e
    rw [← e] at k
    exact iteF k
theorem ok_l_integer {f : Addr} {fd : FuncData} (F : DefK K mg "_law_integer" st_l_integer ["_law_thing"] f fd) (Z : Zs mg)  :
    FnOk P w K mg base CX0 1 f fd ["_law_thing"] (sp_l_integer K) := by
  refine F.fn.ok sc_l_integer (fun vs H Q E h => by first | (obtain ⟨rfl, _⟩ := h; rfl) | (obtain ⟨_, rfl, _⟩ := h; rfl) | (obtain ⟨_, _, rfl, _⟩ := h; rfl) | (obtain ⟨_, _, _, rfl, _⟩ := h; rfl) | (obtain ⟨_, _, _, _, rfl, _⟩ := h; rfl) | (obtain ⟨_, _, _, _, _, rfl, _⟩ := h; rfl) | (obtain ⟨_, _, _, _, _, _, rfl, _⟩ := h; rfl) | (obtain ⟨_, _, _, _, _, _, _, rfl, _⟩ := h; rfl) | (obtain ⟨_, _, _, _, _, _, _, _, rfl, _⟩ := h; rfl) | (obtain ⟨_, _, _, _, _, _, _, _, _, rfl, _⟩ := h; rfl) | (obtain ⟨_, _, _, _, _, _, _, _, _, _, rfl, _⟩ := h; rfl) | (obtain ⟨_, _, _, _, _, _, _, _, _, _, _, rfl, _⟩ := h; rfl) | (obtain ⟨_, _, _, _, _, _, _, _, _, _, _, _, rfl, _⟩ := h; rfl) | (obtain ⟨_, _, _, _, _, _, _, _, _, _, _, _, _, rfl, _⟩ := h; rfl)) (fun cdv A outer s H vs Q E hr h => ?_)
  obtain ⟨v, n, rfl, kd, k⟩ := h
  have hn := kd.mem
  have ty := kd.ty (K := K)
  rw [← kd.isI] at k
  refine ⟨_, (pss_one (ps_ret (pe_and (pe_callB (kIsi (K := K)) (by rfl) Z.isinstance_ PyProof.Rows.Boot.«isinstance» (pa_cons (pv 0) (pa_cons (pe_bltn (v := .ty "int") (by rfl) Z.int_ PyProof.Rows.Boot.«int» rfl) pa_nil))) (pe_one (pe_not (pe_callB (kIsi (K := K)) (by rfl) Z.isinstance_ PyProof.Rows.Boot.«isinstance» (pa_cons (pv 0) (pa_cons (pe_bltn (v := .ty "bool") (by rfl) Z.bool_ PyProof.Rows.Boot.«bool» rfl) pa_nil)))))))), ?_⟩
  refine ⟨_, rfl, v, .ty "int", .type n, .type "int", _, rfl, .ty "int", ty, kit_ty (kit_int n hn), _, rfl, ?_⟩
  have e := int_case n hn
  cases c : (n == "int" || n == "bool") with
  | true =>
    rw [c] at e
    refine iteT ⟨_, rfl, v, .ty "bool", .type n, .type "bool", _, rfl, .ty "bool", ty, kit_ty (kit_bool n hn), _, rfl, ?_⟩
    rw [← e] at k
    exact k
  | false =>
    rw [c] at e
    rw [← e] at k
    exact iteF k
theorem ok_is_form {f : Addr} {fd : FuncData} (F : DefK K mg "is_form" st_is_form ["thing", "size"] f fd) (Z : Zs mg) {f_is_integer : Addr} {fd_is_integer : FuncData} (D_is_integer : DefK K mg "is_integer" st_is_integer ["thing"] f_is_integer fd_is_integer) (G_is_integer : FnOk P w K mg base CX0 1 f_is_integer fd_is_integer ["thing"] (sp_is_integer K)) :
    FnOk P w K mg base CX0 2 f fd ["thing", "size"] (sp_is_form K) := by
  refine F.fn.ok sc_is_form (fun vs H Q E h => by first | (obtain ⟨rfl, _⟩ := h; rfl) | (obtain ⟨_, rfl, _⟩ := h; rfl) | (obtain ⟨_, _, rfl, _⟩ := h; rfl) | (obtain ⟨_, _, _, rfl, _⟩ := h; rfl) | (obtain ⟨_, _, _, _, rfl, _⟩ := h; rfl) | (obtain ⟨_, _, _, _, _, rfl, _⟩ := h; rfl) | (obtain ⟨_, _, _, _, _, _, rfl, _⟩ := h; rfl) | (obtain ⟨_, _, _, _, _, _, _, rfl, _⟩ := h; rfl) | (obtain ⟨_, _, _, _, _, _, _, _, rfl, _⟩ := h; rfl) | (obtain ⟨_, _, _, _, _, _, _, _, _, rfl, _⟩ := h; rfl) | (obtain ⟨_, _, _, _, _, _, _, _, _, _, rfl, _⟩ := h; rfl) | (obtain ⟨_, _, _, _, _, _, _, _, _, _, _, rfl, _⟩ := h; rfl) | (obtain ⟨_, _, _, _, _, _, _, _, _, _, _, _, rfl, _⟩ := h; rfl) | (obtain ⟨_, _, _, _, _, _, _, _, _, _, _, _, _, rfl, _⟩ := h; rfl)) (fun cdv A outer s H vs Q E hr h => ?_)
  obtain ⟨v, size, b, rfl, hf, k⟩ := h
  refine ⟨_, (pss_cons (ps_if (PW.pt (pw_or (pt_not (pt_val (pe_callB (kIsi (K := K)) (by rfl) Z.isinstance_ PyProof.Rows.Boot.«isinstance» (pa_cons (pv 0) (pa_cons (pe_bltn (v := .ty "tuple") (by rfl) Z.tuple_ PyProof.Rows.Boot.«tuple» rfl) pa_nil))))) (pw_or1 (pt_cmpR (kNe (K := K) hr.units) (pe_callB (kLen (K := K)) (by rfl) Z.len_ PyProof.Rows.Boot.«len» (pa_cons (pv 0) pa_nil)) (pv 1) (nomark _))))) (pss_one (ps_ret pe_bl)) pss_nil)
      (pss_one (ps_ret (pe_callB (kAll (K := K) rfl) (by rfl) Z.all_ PyProof.Rows.Boot.«all» (pa_cons (pe_lc (own := [("entry", 2)]) rfl sc_is_form.nd (kSeq (K := K) (pv 0)) (blkOk_by (N := ["thing", "size", "entry"]) (sc := defScope st_is_form) (by decide +kernel)) (fun _ _ _ _ _ => (pg_name (i := 2) sc_is_form.nd rfl (.inl rfl))) (fun _ _ _ _ _ => pts_nil) (fun _ _ _ _ _ => (pe_call G_is_integer (hr.mono (by decide)) rfl D_is_integer.mg D_is_integer.fn.kp D_is_integer.bd .nil pass0 (pa_cons (pv 2) pa_nil)))) pa_nil))))), ?_⟩
  rcases hf with ⟨n, kd, hn, rfl⟩ | ⟨a, xs, rfl, ha, hlen, hx, rfl⟩
  · have e : (n == "tuple") = false := by simpa using hn
    refine ⟨_, rfl, v, .ty "tuple", .type n, .type "tuple", _, rfl, .ty "tuple", kd.ty, kit_ty (kit_tup n kd.mem), _, rfl, ?_⟩
    rw [e]
    exact iteT (iteT (k _ (Ex.refl _)))
  · have kd : Kd H (.ref a) "tuple" := .tup ha
    refine ⟨_, rfl, .ref a, .ty "tuple", .type "tuple", .type "tuple", _, rfl, .ty "tuple", kd.ty, kit_ty (kit_tup "tuple" kd.mem), _, rfl, ?_⟩
    refine iteF ⟨_, rfl, a, xs, rfl, .inr (SqT.of ha), _, rfl, .inl ⟨rfl, _, rfl, ?_⟩⟩
    by_cases c : (xs.length : Int) = size
    · have c' : (!decide (V.int xs.length = V.int size)) = false := by simp [c]
      rw [c']
      refine iteF ⟨_, rfl, true, a, xs, rfl, SqK.tup ha, fun D hD => ?_⟩
      refine lc_pure (walk_k (xs := xs)) hD (fun _ => true) (fun i => .bl (isI (xs.getD i .non))) (by omega) (fun _ e => e.seq (SqK.tup ha)) (fun i x Hc Hy hi e y Qe Qn qe qn => ?_) (fun H1 ex hL => ?_)
      · obtain ⟨rfl, hxi⟩ := y
        obtain ⟨n, kx⟩ := hx x (List.mem_of_getElem? hxi)
        refine ⟨rfl, _, rfl, x, n, rfl, kx.ex e, ?_⟩
        have ez : xs.getD i .non = x := by
          rw [List.getD_eq_getElem?_getD, hxi]
          rfl
        rw [ez] at qe
        exact qe rfl _ (Ex.refl _)
      · have hL : H1 D = some (.lst ((xs.map isI).map V.bl)) := by
          rw [hL, picked_all]
          rw [map_range xs (fun x => V.bl (isI x)) _ (fun i x h => by rw [List.getD_eq_getElem?_getD, h]; rfl), List.map_map]
          rfl
        refine ⟨D, _, rfl, SqL.of hL, ?_⟩
        have q := k H1 ex
        rw [decide_eq_true c, Bool.true_and] at q
        rw [List.all_map]
        exact q
    · have c' : (!decide (V.int xs.length = V.int size)) = true := by simp [c]
      rw [c']
      have q := k _ (Ex.refl H)
      rw [decide_eq_false c, Bool.false_and] at q
      exact iteT q
theorem ok_l_draw {f : Addr} {fd : FuncData} (F : DefK K mg "_law_draw" st_l_draw ["_law_stream", "_law_count"] f fd) (Z : Zs mg)  :
    FnOk P w K mg base CX0 1 f fd ["_law_stream", "_law_count"] (sp_l_draw K) := by
  refine F.fn.ok sc_l_draw (fun vs H Q E h => by first | (obtain ⟨rfl, _⟩ := h; rfl) | (obtain ⟨_, rfl, _⟩ := h; rfl) | (obtain ⟨_, _, rfl, _⟩ := h; rfl) | (obtain ⟨_, _, _, rfl, _⟩ := h; rfl) | (obtain ⟨_, _, _, _, rfl, _⟩ := h; rfl) | (obtain ⟨_, _, _, _, _, rfl, _⟩ := h; rfl) | (obtain ⟨_, _, _, _, _, _, rfl, _⟩ := h; rfl) | (obtain ⟨_, _, _, _, _, _, _, rfl, _⟩ := h; rfl) | (obtain ⟨_, _, _, _, _, _, _, _, rfl, _⟩ := h; rfl) | (obtain ⟨_, _, _, _, _, _, _, _, _, rfl, _⟩ := h; rfl) | (obtain ⟨_, _, _, _, _, _, _, _, _, _, rfl, _⟩ := h; rfl) | (obtain ⟨_, _, _, _, _, _, _, _, _, _, _, rfl, _⟩ := h; rfl) | (obtain ⟨_, _, _, _, _, _, _, _, _, _, _, _, rfl, _⟩ := h; rfl) | (obtain ⟨_, _, _, _, _, _, _, _, _, _, _, _, _, rfl, _⟩ := h; rfl)) (fun cdv A outer s H vs Q E hr h => ?_)
  obtain ⟨s0, q, B, G, m, rfl, O, hB, hm0, hm1, kq⟩ := h
  obtain ⟨ne, n, c, k, ns, e1, e2, n0, c0, c1, k0, k1⟩ := O.str
  refine ⟨_, (pss_cons (ps_asg (pe_op (kAdd (K := K)) (pe_ix (kIx (K := K)) (pv 0) pe_int (fun _ _ => rfl)) pe_int) (pg_sub (pv 0) pe_int set_list))
      (pss_cons (ps_if (PW.pt (pw_and (pt_cmpR (kEq (K := K) hr.units) (pe_ix (kIx (K := K)) (pv 0) pe_int (fun _ _ => rfl)) pe_int (nomark _)) (pw_and1 (pt_cmpR (kNe (K := K) hr.units) (pe_ix (kIx (K := K)) (pv 0) pe_int (fun _ _ => rfl)) (pe_lst pa_nil) (nomark _))))) (pss_cons (ps_asg (pe_bm PySem.F.plainAttrs_list PySem.F.slot_list_pop PySem.F.type_list_pop mt_popAt (pe_ix (kIx (K := K)) (pv 0) pe_int (fun _ _ => rfl)) (pa_cons pe_int pa_nil)) (pg_sub (pv 0) pe_int set_list))
      (pss_one (ps_if (pt_cmpR op_lt (pe_ix (kIx (K := K)) (pv 0) pe_int (fun _ _ => rfl)) (pe_op op_pow pe_int pe_int) (nomark _)) (pss_cons (ps_asg (pe_op oMod (pe_op (kAdd (K := K)) (pe_op oMul (pe_ix (kIx (K := K)) (pv 0) pe_int (fun _ _ => rfl)) pe_int) (pe_ix (kIx (K := K)) (pv 0) pe_int (fun _ _ => rfl))) pe_int) (pg_sub (pv 0) pe_int set_list))
      (pss_one (ps_asg pe_int (pg_sub (pv 0) pe_int set_list)))) pss_nil))) pss_nil)
      (pss_cons (ps_if (pt_cmpR op_gt (pe_ix (kIx (K := K)) (pv 0) pe_int (fun _ _ => rfl)) pe_int (nomark _)) (pss_cons (ps_set (i := 2) sc_l_draw.nd rfl (.inl rfl) (pe_op oMod (pe_ix (kIx (K := K)) (pv 0) pe_int (fun _ _ => rfl)) (pv 1)))
      (pss_cons (ps_asg (pe_op oDiv (pe_ix (kIx (K := K)) (pv 0) pe_int (fun _ _ => rfl)) (pv 1)) (pg_sub (pv 0) pe_int set_list))
      (pss_one (ps_ret (pv 2))))) pss_nil)
      (pss_cons (ps_set (i := 2) sc_l_draw.nd rfl (.inl rfl) (pe_op oMod (pe_op op_pow (pe_op (kAdd (K := K)) (pe_op (kAdd (K := K)) (pe_ix (kIx (K := K)) (pv 0) pe_int (fun _ _ => rfl)) (pe_op oMul pe_int (pe_ix (kIx (K := K)) (pv 0) pe_int (fun _ _ => rfl)))) pe_int) pe_int) pe_int))
      (pss_one (ps_ret (pe_op oMod (pe_op oMod (pe_op oMul (pe_op (kAdd (K := K)) (pv 2) (pe_ix (kIx (K := K)) (pv 0) pe_int (fun _ _ => rfl))) pe_int) pe_int) (pv 1)))))))), ?_⟩
  -- stream[2] = stream[2] + 1
  refine ⟨_, rfl, ixl e1 rfl (.inl ⟨c, 1, rfl, rfl, _, rfl, s0, _, 2, 2, rfl, rfl, e1, rfl, ?_⟩)⟩
  have O1 : Ov s0 q (B + 1) G (upd H s0 (.lst [.ref q, .int n, .int (c + 1), .int k])) := O.setS e2 n0 (by omega) (by omega) k0 k1
  dsimp only
  refine cut (fun σ' H' => σ' = [some (.ref s0), some (.int m), none] ∧ Ov s0 q (B + 1) G H') ?_ ?_
  · -- what is left of the def
    rintro σ' H' ⟨rfl, O'⟩
    obtain ⟨_, n', c', k', ns', f1, f2, n0', c0', c1', k0', k1'⟩ := O'.str
    refine ⟨_, rfl, ixl f1 rfl ⟨n', 0, rfl, rfl, _, rfl, ?_⟩⟩
    by_cases hn : 0 < n'
    · rw [decide_eq_true hn]
      refine iteT ⟨_, rfl, ixl f1 rfl ⟨_, rfl, n', m, rfl, rfl, (by omega), ?_⟩⟩
      refine ⟨_, rfl, ixl f1 rfl ⟨_, rfl, n', m, rfl, rfl, ⟨by omega, ?_⟩, _, rfl, s0, _, 1, 1, rfl, rfl, f1, rfl, _, rfl, ?_⟩⟩
      · exact Nat.lt_of_lt_of_le (PySem.Flt.log2_lt_of (k := 8000) (by decide) hm1) (by decide)
      · have fm : n'.fmod m = n' % m := Int.fmod_eq_emod_of_nonneg n' (by omega)
        have fd : n'.fdiv m = n' / m := Int.fdiv_eq_ediv_of_nonneg n' (by omega)
        show Q (.int (n'.fmod m)) (upd H' s0 (.lst [.ref q, .int (n'.fdiv m), .int c', .int k']))
        rw [fm, fd]
        refine kq _ _ (Int.emod_nonneg _ (by omega)) (Int.emod_lt_of_pos _ hm0) ?_
        exact O'.setS f2 (Int.ediv_nonneg n0' (by omega)) c0' c1' k0' k1'
    · rw [decide_eq_false hn]
      refine iteF ⟨_, rfl, ixl f1 rfl ⟨_, rfl, ixl f1 rfl ⟨7919, c', rfl, rfl, ?_, .inl ⟨k', 7919 * c', rfl, rfl, .inl ⟨_, 104729, rfl, rfl, _, 5, rfl, rfl, ⟨by decide, by decide, ?_⟩, _, 2147483647, rfl, rfl, (show (2147483647 : Int) ≠ 0 by decide), ?_⟩⟩⟩⟩⟩
      · exact wide_mul (a := 20) (b := 40) (by decide) (by omega) (by decide) (by decide) (by decide)
      · omega
      · generalize hX : (k' + 7919 * c' + 104729) ^ (5 : Int).toNat = X
        have hx0 : 0 ≤ X.fmod 2147483647 ∧ X.fmod 2147483647 < 2147483647 := by
          rw [Int.fmod_eq_emod_of_nonneg X (by decide)]
          exact ⟨Int.emod_nonneg _ (by decide), Int.emod_lt_of_pos _ (by decide)⟩
        have hmu : CMulW (X.fmod 2147483647 + c') 48271 := by
          generalize X.fmod 2147483647 = Y at hx0
          exact wide_mul (a := 40) (b := 20) (by omega) (by decide) (by decide) (by decide) (by decide)
        refine ⟨_, rfl, _, rfl, ixl f1 rfl (.inl ⟨_, c', rfl, rfl, _, 48271, rfl, rfl, hmu, _, 2147483629, rfl, rfl, (show (2147483629 : Int) ≠ 0 by decide), _, rfl, _, m, rfl, rfl, (show m ≠ 0 by omega), ?_⟩)⟩
        show Q (.int ((((X.fmod 2147483647 + c') * 48271).fmod 2147483629).fmod m)) _
        generalize ((X.fmod 2147483647 + c') * 48271).fmod 2147483629 = W
        have fm : W.fmod m = W % m := Int.fmod_eq_emod_of_nonneg W (by omega)
        rw [fm]
        exact kq _ _ (Int.emod_nonneg _ (by omega)) (Int.emod_lt_of_pos _ hm0) O'
  · intro N hN
    have done : ∀ H', Ov s0 q (B + 1) G H' → N [some (.ref s0), some (.int m), none] H' := fun H' o => hN _ _ ⟨rfl, o⟩
    obtain ⟨ne1, n1, c2, k2, ns1, f1, f2, g0, g1, g2, g3, g4⟩ := O1.str
    refine ⟨_, rfl, ixl f1 rfl (.inl ⟨rfl, _, rfl, ?_⟩)⟩
    by_cases hn : n1 = 0
    · have d1 : decide (V.int n1 = V.int 0) = true := by simp [hn]
      rw [d1]
      refine iteT ⟨_, rfl, ixl f1 rfl ⟨Nat.zero_le _, fun l hl => ?_⟩⟩
      have nl : q ≠ l := ne_of_none f2 hl
      have nsl : s0 ≠ l := ne_of_none f1 hl
      have O2 := O1.drop (o := .lst []) hl
      refine .inr ⟨_, _, dp_l (SqL.of ((upd_ne nl).trans f2)), .lst (SqL.of upd_same) .nil, shaped_l _, shaped_l [], _, rfl, ?_⟩
      rw [eqv_nil]
      cases ns1 with
      | nil => exact iteF (done _ O2)
      | cons z zs =>
        refine iteT ?_
        have f1' : upd (upd H s0 (.lst [.ref q, .int n, .int (c + 1), .int k])) l (.lst []) s0 = some (.lst [.ref q, .int n1, .int c2, .int k2]) := (upd_ne nsl).trans f1
        have f2' : upd (upd H s0 (.lst [.ref q, .int n, .int (c + 1), .int k])) l (.lst []) q = some (.lst ((z :: zs).map V.int)) := (upd_ne nl).trans f2
        -- stream[1] = stream[0].pop(0)
        refine ⟨_, rfl, ixl f1' rfl ⟨.inl ⟨rfl, _, SqL.of f2'⟩, q, _, 0, 0, .int z, rfl, rfl, f2', by decide, by decide, (by show seqIndex? 0 ((zs.map V.int).length + 1) = some 0; exact seq0 _), rfl, ?_⟩⟩
        have O3 := O2.setQ zs
        have g1' := (upd_ne (H := upd (upd H s0 (.lst [.ref q, .int n, .int (c + 1), .int k])) l (.lst [])) (o := .lst (zs.map V.int)) ne).trans f1'
        have g2' : upd (upd (upd H s0 (.lst [.ref q, .int n, .int (c + 1), .int k])) l (.lst [])) q (.lst (zs.map V.int)) q = some (.lst (zs.map V.int)) := upd_same
        refine ⟨_, rfl, s0, _, 1, 1, rfl, rfl, g1', rfl, ?_⟩
        have h1' := upd_same (H := upd (upd (upd H s0 (.lst [.ref q, .int n, .int (c + 1), .int k])) l (.lst [])) q (.lst (zs.map V.int))) (a := s0) (o := .lst [.ref q, .int z, .int c2, .int k2])
        refine ⟨_, rfl, ixl h1' rfl ⟨10, 18, rfl, rfl, ⟨by decide, by decide, by decide⟩, z, _, rfl, rfl, _, rfl, ?_⟩⟩
        have p18 : (10 : Int) ^ (18 : Int).toNat = 1000000000000000000 := by decide
        rw [p18]
        by_cases hz : z < 1000000000000000000
        · rw [decide_eq_true hz]
          refine iteT ⟨_, rfl, ixl h1' rfl ⟨k2, 39373, rfl, rfl, ?_, _, rfl, ixl h1' rfl (.inl ⟨k2 * 39373, z, rfl, rfl, k2 * 39373 + z, 2147483647, rfl, rfl, (show (2147483647 : Int) ≠ 0 by decide), _, rfl, s0, _, 3, 3, rfl, rfl, h1', rfl, ?_⟩)⟩⟩
          · exact wide_mul (a := 40) (b := 20) (by omega) (by decide) (by decide) (by decide) (by decide)
          · refine ⟨_, rfl, s0, _, 1, 1, rfl, rfl, upd_same, rfl, ?_⟩
            have b0 : 0 ≤ (k2 * 39373 + z).fmod 2147483647 ∧ (k2 * 39373 + z).fmod 2147483647 < 2147483647 := by
              rw [Int.fmod_eq_emod_of_nonneg _ (by decide)]
              exact ⟨Int.emod_nonneg _ (by decide), Int.emod_lt_of_pos _ (by decide)⟩
            refine done _ ?_
            rw [upd_upd, upd_upd]
            exact O3.setS g2' (Int.le_refl 0) g1 g2 b0.1 b0.2
        · rw [decide_eq_false hz]
          refine iteF (done _ ?_)
          exact O3.setS g2' (by omega) g1 g2 g3 g4
    · have d1 : decide (V.int n1 = V.int 0) = false := by simp [hn]
      rw [d1]
      exact iteF (done _ O1)
end
end K05

set_option maxHeartbeats 4000000
namespace K05
open PySem PySem.Spec PyProof.Rows L2 Hg
/-! ### the view of any object -/
def toI : V → Int
  | .int i => i
  | _ => 0
inductive RowD (G : Hp) (size : Int) : V → Option (List Int) → Prop
  | bad {v : V} {n : String} : Kd G v n → n ≠ "tuple" → RowD G size v none
  | tup {a : Addr} {xs : List V} : G a = some (.tup xs) → xs.length ≤ 1000 → (∀ x ∈ xs, ∃ n, Kd G x n) → RowD G size (.ref a) (if (decide ((xs.length : Int) = size) && xs.all isI) = true then some (xs.map toI) else none)
theorem RowD.frm {G : Hp} {size : Int} {v : V} {o : Option (List Int)} (h : RowD G size v o) : Frm G v size o.isSome := by
  cases h with
  | bad k hn => exact .inl ⟨_, k, hn, rfl⟩
  | tup e hl hx =>
    refine .inr ⟨_, _, rfl, e, hl, hx, ?_⟩
    split <;> rename_i c
    · rw [c]; rfl
    · simpa using c
theorem toI_all {xs : List V} (h : xs.all isI = true) : xs = (xs.map toI).map V.int := by
  induction xs with
  | nil => rfl
  | cons x xs ih =>
    simp only [List.all_cons, Bool.and_eq_true] at h
    rw [List.map_cons, List.map_cons, ← ih h.2]
    congr 1
    cases x <;> first | rfl | exact absurd h.1 (by simp [isI])
theorem RowD.some {G : Hp} {size : Int} {v : V} {r : List Int} (h : RowD G size v (some r)) : ∃ a, v = .ref a ∧ G a = Option.some (.tup (r.map V.int)) ∧ (r.length : Int) = size ∧ r.length ≤ 1000 := by
  generalize ho : Option.some r = o at h
  cases h with
  | bad k hn => cases ho
  | tup e hl hx =>
    split at ho
    · rename_i c
      cases ho
      simp only [Bool.and_eq_true, decide_eq_true_eq] at c
      exact ⟨_, rfl, by rw [← toI_all c.2]; exact e, by rw [List.length_map]; exact c.1, by rw [List.length_map]; exact hl⟩
    · cases ho
theorem RowD.ex {G G' : Hp} {size : Int} {v : V} {o : Option (List Int)} (e : Ex G G') (h : RowD G size v o) : RowD G' size v o := by
  cases h with
  | bad k hn => exact .bad (k.ex e) hn
  | tup q hl hx => exact .tup (e _ _ q) hl fun x hm => let ⟨n, k⟩ := hx x hm; ⟨n, k.ex e⟩
inductive ThingD (G : Hp) (size : Int) : V → Option (List (Option (List Int))) → Prop
  | bad {v : V} {n : String} : Kd G v n → n ≠ "tuple" → ThingD G size v none
  | tup {a : Addr} {rs : List V} {os : List (Option (List Int))} : G a = some (.tup rs) → rs.length ≤ 1000 → rs.length = os.length → (∀ (i : Nat) (r : V) (o : Option (List Int)), rs[i]? = some r → os[i]? = some o → RowD G size r o) → ThingD G size (.ref a) (some os)
theorem ThingD.ex {G G' : Hp} {size : Int} {v : V} {o : Option (List (Option (List Int)))} (e : Ex G G') (h : ThingD G size v o) : ThingD G' size v o := by
  cases h with
  | bad k hn => exact .bad (k.ex e) hn
  | tup q hl he hx => exact .tup (e _ _ q) hl he fun i r o h1 h2 => (hx i r o h1 h2).ex e
/-! ### what a basis is -/
def piv : List Int → Nat
  | [] => 0
  | x :: xs => if x = 0 then piv xs + 1 else 0
theorem piv_le : ∀ r : List Int, piv r ≤ r.length
  | [] => Nat.le_refl _
  | x :: xs => by
    have := piv_le xs
    unfold piv
    split
    · simp; omega
    · simp
theorem piv_zero : ∀ (r : List Int) (i : Nat), i < piv r → r.getD i 0 = 0
  | [], i, h => by simp
  | x :: xs, i, h => by
    unfold piv at h
    split at h
    · rename_i hx
      cases i with
      | zero => simpa using hx
      | succ i => simpa using piv_zero xs i (by omega)
    · omega
theorem piv_ne : ∀ (r : List Int), piv r < r.length → r.getD (piv r) 0 ≠ 0
  | [], h => by simp [piv] at h
  | x :: xs, h => by
    unfold piv at h ⊢
    split at h <;> rename_i hx
    · rw [if_pos hx]
      have := piv_ne xs (by simp at h; omega)
      simpa using this
    · rw [if_neg hx]
      simpa using hx
def fits (above : List (List Int)) (r : List Int) : Bool := above.all fun a => decide (0 ≤ a.getD (piv r) 0) && decide (a.getD (piv r) 0 < r.getD (piv r) 0)
def rowOk (above : List (List Int)) (last : Int) (r : List Int) : Bool :=
  !(decide ((piv r : Int) = r.length) || (decide ((piv r : Int) ≤ last) || decide (r.getD (piv r) 0 < 0))) && fits above r
def chkO : List (List Int) → Int → List (Option (List Int)) → Bool
  | _, _, [] => true
  | _, _, none :: _ => false
  | above, last, some r :: os => rowOk above last r && chkO (above ++ [r]) (piv r) os
def isB : Option (List (Option (List Int))) → Bool
  | none => false
  | some os => chkO [] (-1) os
theorem chkO_none : ∀ (os : List (Option (List Int))) (above : List (List Int)) (last : Int), os.all Option.isSome = false → chkO above last os = false
  | [], _, _, h => by simp at h
  | none :: os, _, _, _ => rfl
  | some r :: os, above, last, h => by
    unfold chkO
    rw [chkO_none os _ _ (by simpa using h), Bool.and_false]
theorem all_some : ∀ os : List (Option (List Int)), os.all Option.isSome = true → ∃ rs : List (List Int), os = rs.map some
  | [], _ => ⟨[], rfl⟩
  | none :: os, h => by simp at h
  | some r :: os, h => by
    obtain ⟨rs, e⟩ := all_some os (by simpa using h)
    exact ⟨r :: rs, by rw [e]; rfl⟩
def sp_pivot_column (K : PySem.W.Frag) : Sp := fun vs H Q _ => ∃ (k : Bool) (a : Addr) (ns : List Int), vs = [.ref a] ∧ SqK K k H a (ns.map V.int) ∧ ns.length ≤ 1000 ∧ Q (.int (piv ns)) H
def sp_is_basis (K : PySem.W.Frag) : Sp := fun vs H Q _ => ∃ (v : V) (size : Int) (o : Option (List (Option (List Int)))), vs = [v, .int size] ∧ ThingD H size v o ∧ 1 ≤ size ∧ size ≤ 1000 ∧ ∀ H', Ex H H' → Q (.bl (isB o)) H'
abbrev sp_l_is_basis := sp_is_basis
section
variable {P : Program} {w : World} {K : PySem.W.Frag} {mg : Str → Option Value} {base : Heap}
theorem ok_pivot_column {f : Addr} {fd : FuncData} (F : DefK K mg "pivot_column" st_pivot_column ["row"] f fd) (Z : Zs mg)  :
    FnOk P w K mg base CX0 1 f fd ["row"] (sp_pivot_column K) := by
  refine F.fn.ok sc_pivot_column (fun vs H Q E h => by first | (obtain ⟨rfl, _⟩ := h; rfl) | (obtain ⟨_, rfl, _⟩ := h; rfl) | (obtain ⟨_, _, rfl, _⟩ := h; rfl) | (obtain ⟨_, _, _, rfl, _⟩ := h; rfl) | (obtain ⟨_, _, _, _, rfl, _⟩ := h; rfl) | (obtain ⟨_, _, _, _, _, rfl, _⟩ := h; rfl) | (obtain ⟨_, _, _, _, _, _, rfl, _⟩ := h; rfl) | (obtain ⟨_, _, _, _, _, _, _, rfl, _⟩ := h; rfl) | (obtain ⟨_, _, _, _, _, _, _, _, rfl, _⟩ := h; rfl) | (obtain ⟨_, _, _, _, _, _, _, _, _, rfl, _⟩ := h; rfl) | (obtain ⟨_, _, _, _, _, _, _, _, _, _, rfl, _⟩ := h; rfl) | (obtain ⟨_, _, _, _, _, _, _, _, _, _, _, rfl, _⟩ := h; rfl) | (obtain ⟨_, _, _, _, _, _, _, _, _, _, _, _, rfl, _⟩ := h; rfl) | (obtain ⟨_, _, _, _, _, _, _, _, _, _, _, _, _, rfl, _⟩ := h; rfl)) (fun cdv A outer s H vs Q E hr h => ?_)
  obtain ⟨k, a, ns, rfl, hS, hl, kq⟩ := h
  refine ⟨_, (pss_cons (ps_set (i := 1) sc_pivot_column.nd rfl (.inl rfl) pe_int)
      (pss_cons (ps_while PassesOwn.never (PW.pt (pw_and (pt_cmpR op_lt (pv 1) (pe_callB (kLen (K := K)) (by rfl) Z.len_ PyProof.Rows.Boot.«len» (pa_cons (pv 0) pa_nil)) (nomark _)) (pw_and1 (pt_cmpR (kEq (K := K) hr.units) (pe_ix (kIx (K := K)) (pv 0) (pv 1) (fun _ _ => rfl)) pe_int (nomark _))))) (pss_one (ps_aug (i := 1) sc_pivot_column.nd rfl (.inl rfl) pe_int ip_add)))
      (pss_one (ps_ret (pv 1))))), ?_⟩
  refine ⟨fun m σ H' => ∃ i : Nat, σ = [some (.ref a), some (.int (i : Int))] ∧ i ≤ piv ns ∧ H' = H ∧ m + i = ns.length, ⟨_, 0, rfl, Nat.zero_le _, rfl, rfl⟩, ?_⟩
  rintro m σ H' ⟨i, rfl, hi, rfl, hm⟩
  refine ⟨_, rfl, _, rfl, a, _, rfl, hS.or, _, _, rfl, rfl, _, rfl, ?_⟩
  by_cases c1 : i < ns.length
  · have c1' : decide ((i : Int) < ((ns.map V.int).length : Nat)) = true := by simp; omega
    rw [c1']
    refine iteT ⟨_, rfl, _, rfl, ixk hS (atI_nat (v := .int (ns.getD i 0)) (by simp [c1])) (.inl ⟨rfl, _, rfl, ?_⟩)⟩
    by_cases c2 : ns.getD i 0 = 0
    · have c2' : decide (V.int (ns.getD i 0) = V.int 0) = true := by rw [c2]; simp
      rw [c2']
      refine iteT ⟨fun σ' H' => ∃ m', m' < m ∧ _, fun _ _ h => h, ?_⟩
      refine ⟨_, rfl, _, _, rfl, rfl, m - 1, by omega, i + 1, rfl, ?_, rfl, by omega⟩
      apply Classical.byContradiction
      intro h
      have e : i = piv ns := by omega
      rw [e] at c1 c2
      exact piv_ne ns c1 c2
    · have c2' : decide (V.int (ns.getD i 0) = V.int 0) = false := by simp only [V.int.injEq, decide_eq_false_iff_not]; exact c2
      rw [c2']
      refine iteF ⟨_, rfl, ?_⟩
      have e : i = piv ns := by
        apply Classical.byContradiction
        intro h
        exact c2 (piv_zero ns i (by omega))
      rw [e]
      exact kq
  · have c1' : decide ((i : Int) < ((ns.map V.int).length : Nat)) = false := by simp; omega
    rw [c1']
    have := piv_le ns
    have e : i = piv ns := by omega
    refine iteF (iteF ⟨_, rfl, ?_⟩)
    rw [e]
    exact kq

end
end K05

set_option maxHeartbeats 4000000
namespace K05
open PySem PySem.Spec PyProof.Rows L2 Hg
section
variable {P : Program} {w : World} {K : PySem.W.Frag} {mg : Str → Option Value} {base : Heap}
theorem ok_is_basis {f : Addr} {fd : FuncData} (F : DefK K mg "is_basis" st_is_basis ["thing", "size"] f fd) (Z : Zs mg) {f_is_form : Addr} {fd_is_form : FuncData} (D_is_form : DefK K mg "is_form" st_is_form ["thing", "size"] f_is_form fd_is_form) (G_is_form : FnOk P w K mg base CX0 2 f_is_form fd_is_form ["thing", "size"] (sp_is_form K)) {f_pivot_column : Addr} {fd_pivot_column : FuncData} (D_pivot_column : DefK K mg "pivot_column" st_pivot_column ["row"] f_pivot_column fd_pivot_column) (G_pivot_column : FnOk P w K mg base CX0 1 f_pivot_column fd_pivot_column ["row"] (sp_pivot_column K)) :
    FnOk P w K mg base CX0 3 f fd ["thing", "size"] (sp_is_basis K) := by
  refine F.fn.ok sc_is_basis (fun vs H Q E h => by first | (obtain ⟨rfl, _⟩ := h; rfl) | (obtain ⟨_, rfl, _⟩ := h; rfl) | (obtain ⟨_, _, rfl, _⟩ := h; rfl) | (obtain ⟨_, _, _, rfl, _⟩ := h; rfl) | (obtain ⟨_, _, _, _, rfl, _⟩ := h; rfl) | (obtain ⟨_, _, _, _, _, rfl, _⟩ := h; rfl) | (obtain ⟨_, _, _, _, _, _, rfl, _⟩ := h; rfl) | (obtain ⟨_, _, _, _, _, _, _, rfl, _⟩ := h; rfl) | (obtain ⟨_, _, _, _, _, _, _, _, rfl, _⟩ := h; rfl) | (obtain ⟨_, _, _, _, _, _, _, _, _, rfl, _⟩ := h; rfl) | (obtain ⟨_, _, _, _, _, _, _, _, _, _, rfl, _⟩ := h; rfl) | (obtain ⟨_, _, _, _, _, _, _, _, _, _, _, rfl, _⟩ := h; rfl) | (obtain ⟨_, _, _, _, _, _, _, _, _, _, _, _, rfl, _⟩ := h; rfl) | (obtain ⟨_, _, _, _, _, _, _, _, _, _, _, _, _, rfl, _⟩ := h; rfl)) (fun cdv A outer s H vs Q E hr h => ?_)
  obtain ⟨v, size, o, rfl, td, hs1, hs2, kq⟩ := h
  refine ⟨_, (pss_cons (ps_if (PW.pt (pw_or (pt_not (pt_val (pe_callB (kIsi (K := K)) (by rfl) Z.isinstance_ PyProof.Rows.Boot.«isinstance» (pa_cons (pv 0) (pa_cons (pe_bltn (v := .ty "tuple") (by rfl) Z.tuple_ PyProof.Rows.Boot.«tuple» rfl) pa_nil))))) (pw_or1 (pt_not (pt_val (pe_callB (kAll (K := K) rfl) (by rfl) Z.all_ PyProof.Rows.Boot.«all» (pa_cons (pe_lc (own := [("row", 2)]) rfl sc_is_basis.nd (kSeq (K := K) (pv 0)) (blkOk_by (N := ["thing", "size", "row", "last", "index", "column", "above"]) (sc := defScope st_is_basis) (by decide +kernel)) (fun _ _ _ _ _ => (pg_name (i := 2) sc_is_basis.nd rfl (.inl rfl))) (fun _ _ _ _ _ => pts_nil) (fun _ _ _ _ _ => (pe_call G_is_form (hr.mono (by decide)) rfl D_is_form.mg D_is_form.fn.kp D_is_form.bd .nil pass0 (pa_cons (pv 2) (pa_cons (pv 1) pa_nil))))) pa_nil))))))) (pss_one (ps_ret pe_bl)) pss_nil)
      (pss_cons (ps_set (i := 3) sc_is_basis.nd rfl (.inl rfl) (pe_un un_neg pe_int))
      (pss_cons (ps_for PassesOwn.never rfl (kEnum (K := K) (by rfl) Z.enumerate_ (pa_cons (pv 0) pa_nil)) (kPgT (K := K) (n := 2) rfl (pgs_cons (pg_name (i := 4) sc_is_basis.nd rfl (.inl rfl)) (pgs_cons (pg_name (i := 2) sc_is_basis.nd rfl (.inr rfl)) pgs_nil))) (pss_cons (ps_set (i := 5) sc_is_basis.nd rfl (.inr rfl) (pe_call G_pivot_column (hr.mono (by decide)) rfl D_pivot_column.mg D_pivot_column.fn.kp D_pivot_column.bd .nil pass0 (pa_cons (pv 2) pa_nil)))
      (pss_cons (ps_if (PW.pt (pw_or (pt_cmpR (kEq (K := K) hr.units) (pv 5) (pv 1) (nomark _)) (pw_or (pt_cmpR op_le (pv 5) (pv 3) (nomark _)) (pw_or1 (pt_cmpR op_lt (pe_ix (kIx (K := K)) (pv 2) (pv 5) (fun _ _ => rfl)) pe_int (nomark _)))))) (pss_one (ps_ret pe_bl)) pss_nil)
      (pss_cons (ps_if (pt_not (pt_val (pe_callB (kAll (K := K) rfl) (by rfl) Z.all_ PyProof.Rows.Boot.«all» (pa_cons (pe_lc (own := [("above", 6)]) rfl sc_is_basis.nd (kSeq (K := K) (pe_slice (kSl (K := K)) (pv 0) po_none (po_some (pv 4)))) (blkOk_by (N := ["thing", "size", "row", "last", "index", "column", "above"]) (sc := defScope st_is_basis) (by decide +kernel)) (fun _ _ _ _ _ => (pg_name (i := 6) sc_is_basis.nd rfl (.inl rfl))) (fun _ _ _ _ _ => pts_nil) (fun _ _ _ _ _ => (pe_chain op_le op_lt pe_int (pe_ix (kIx (K := K)) (pv 6) (pv 5) (fun _ _ => rfl)) (pe_ix (kIx (K := K)) (pv 2) (pv 5) (fun _ _ => rfl))))) pa_nil)))) (pss_one (ps_ret pe_bl)) pss_nil)
      (pss_one (ps_set (i := 3) sc_is_basis.nd rfl (.inl rfl) (pv 5)))))))
      (pss_one (ps_ret pe_bl))))), ?_⟩
  cases td with
  | bad kd hn =>
    rename_i n
    have e : (n == "tuple") = false := by simpa using hn
    refine ⟨_, rfl, v, .ty "tuple", .type n, .type "tuple", _, rfl, .ty "tuple", kd.ty, kit_ty (kit_tup n kd.mem), _, rfl, ?_⟩
    rw [e]
    exact iteT (iteT (kq _ (Ex.refl _)))
  | tup ha hl he hx =>
    rename_i a rs os
    have kd : Kd H (.ref a) "tuple" := .tup ha
    refine ⟨_, rfl, .ref a, .ty "tuple", .type "tuple", .type "tuple", _, rfl, .ty "tuple", kd.ty, kit_ty (kit_tup "tuple" kd.mem), _, rfl, ?_⟩
    refine iteF ⟨_, rfl, true, a, rs, rfl, SqK.tup ha, fun D hD => ?_⟩
    refine lc_pure (walk_k (xs := rs)) hD (fun _ => true) (fun i => .bl (os.getD i none).isSome) (by omega) (fun _ e => e.seq (SqK.tup ha)) (fun i x Hc Hy hi e y Qe Qn qe qn => ?_) (fun H1 ex hL => ?_)
    · obtain ⟨rfl, hxi⟩ := y
      have hio : os[i]? = some (os.getD i none) := by
        rw [List.getD_eq_getElem?_getD, List.getElem?_eq_getElem (by omega)]
        rfl
      exact ⟨rfl, _, rfl, _, rfl, x, size, _, rfl, ((hx i x _ hxi hio).ex e).frm, fun H' e' => qe rfl H' e'⟩
    · have hL : H1 D = some (.lst ((os.map Option.isSome).map V.bl)) := by
        rw [hL, picked_all, he]
        rw [map_range os (fun o => V.bl o.isSome) _ (fun i x h => by rw [List.getD_eq_getElem?_getD, h]; rfl), List.map_map]
        rfl
      refine ⟨D, _, rfl, SqL.of hL, ?_⟩
      refine ⟨_, rfl, iteBN (fun hf => ?_) fun ht => ?_⟩
      · have q := kq H1 ex
        rw [show isB (some os) = false from chkO_none os _ _ (by rw [← hf, List.all_map]; rfl)] at q
        exact q
      obtain ⟨Rs, rfl⟩ := all_some os (by rw [← ht, List.all_map]; rfl)
      have hrow : ∀ (i : Nat) (r : V), rs[i]? = some r → ∃ (b : Addr) (ns : List Int), r = .ref b ∧ Rs[i]? = some ns ∧ H b = some (.tup (ns.map V.int)) ∧ (ns.length : Int) = size ∧ ns.length ≤ 1000 := by
        intro i r hr
        have hi : i < (Rs.map some).length := by rw [← he]; exact (List.getElem?_eq_some_iff.mp hr).1
        rw [List.length_map] at hi
        have := hx i r (some Rs[i]) hr (by simp [hi])
        obtain ⟨b, h1, h2, h3, h4⟩ := this.some
        exact ⟨b, _, h1, by simp [hi], h2, h3, h4⟩
      refine ⟨_, rfl, _, rfl, true, a, rs, rfl, (Ex.seq ex (SqK.tup ha)), for_it (walk_ek (xs := rs)) (fun i σ H' => ∃ (last : Int) (v2 v4 v5 v6 : Option V), σ = [some (.ref a), some (.int size), v2, some (.int last), v4, v5, v6] ∧ Ex H H' ∧ chkO [] (-1) (Rs.map some) = chkO (Rs.take i) last ((Rs.drop i).map some))
        ⟨-1, _, _, _, _, rfl, ex, rfl⟩ (fun i σ H' _ p => ?_) (fun i x σ H' H2 hi p y => ?_) (fun σ H' p => ?_)⟩
      · obtain ⟨_, _, _, _, _, rfl, e, _⟩ := p
        exact e.seq (SqK.tup ha)
      · obtain ⟨last, v2, v4, v5, v6, rfl, e, hchk⟩ := p
        obtain ⟨T, x1, y1, rfl, hT, rfl, hx1, hy1⟩ := y
        cases hx1
        obtain ⟨b, r, rfl, hr, hb, hlen, hl1⟩ := hrow i y1 hy1
        have e2 : Ex H (upd H' T (.tup [.int (i : Nat), .ref b])) := e.trans (Ex.new hT)
        have hdrop : Rs.drop i = r :: Rs.drop (i + 1) := by
          rw [List.drop_eq_getElem_cons (List.getElem?_eq_some_iff.mp hr).1]
          rw [(List.getElem?_eq_some_iff.mp hr).2]
        have htake : Rs.take (i + 1) = Rs.take i ++ [r] := by
          rw [List.take_succ, hr]; rfl
        have hstep : isB (some (Rs.map some)) = (rowOk (Rs.take i) last r && chkO (Rs.take (i + 1)) (piv r) ((Rs.drop (i + 1)).map some)) := by
          show chkO [] (-1) (Rs.map some) = _
          rw [hchk, hdrop, List.map_cons, chkO, htake]
        have fin : ∀ H3, Ex H H3 → rowOk (Rs.take i) last r = false → Q (.bl false) H3 := by
          intro H3 e3 hf
          have q := kq H3 e3
          rw [hstep, hf, Bool.false_and] at q
          exact q
        have hp := piv_le r
        have hTT : upd H' T (.tup [.int (i : Nat), .ref b]) T = some (.tup [.int (i : Nat), .ref b]) := upd_same
        generalize upd H' T (.tup [.int (i : Nat), .ref b]) = H3 at e2 hTT
        have hb3 := e2 _ _ hb
        refine ⟨T, _, rfl, SqT.of hTT, rfl, _, _, rfl, _, _, rfl, rfl, ?_⟩
        refine ⟨_, rfl, true, b, r, rfl, SqK.tup hb3, hl1, ?_⟩
        refine ⟨_, rfl, _, rfl, .inl ⟨rfl, _, rfl, iteV (fun c1 => iteT (fin H3 e2 ?_)) fun c1 => ?_⟩⟩
        · unfold rowOk
          rw [decide_eq_true (by omega)]
          rfl
        have hpl : piv r < r.length := by omega
        refine ⟨_, rfl, _, rfl, _, _, rfl, rfl, _, rfl, iteD (fun c2 => iteT (fin H3 e2 ?_)) fun c2 => ?_⟩
        · unfold rowOk
          rw [decide_eq_true c2]
          simp
        refine ⟨_, rfl, _, rfl, ixt hb3 (atI_nat (v := .int (r.getD (piv r) 0)) (by simp [hpl])) ⟨_, _, rfl, rfl, _, rfl, iteD (fun c3 => ?_) fun c3 => ?_⟩⟩
        · refine fin H3 e2 ?_
          unfold rowOk
          rw [decide_eq_true c3]
          simp
        have ok1 : rowOk (Rs.take i) last r = fits (Rs.take i) r := by
          unfold rowOk
          rw [decide_eq_false c2, decide_eq_false c3, decide_eq_false (by omega)]
          rfl
        refine ⟨_, rfl, _, rfl, _, rfl, sl_t (e2 _ _ ha) fun p H4 e4 hp4 => ?_⟩
        rw [cut_to (show i ≤ rs.length by omega)] at hp4
        refine ⟨true, p, _, rfl, SqK.tup hp4, fun D1 hD1 => ?_⟩
        refine lc_pure (walk_k (xs := rs.take i)) hD1 (fun _ => true) (fun j => .bl (decide (0 ≤ (Rs.getD j []).getD (piv r) 0) && decide ((Rs.getD j []).getD (piv r) 0 < r.getD (piv r) 0))) (by simp; omega) (fun _ e => e.seq (SqK.tup hp4)) (fun j x Hc Hy hj e5 y Qe Qn qe qn => ?_) (fun H5 e5 hL5 => ?_)
        · obtain ⟨rfl, hxj⟩ := y
          have hj' : j < i := by simp at hj; omega
          rw [List.getElem?_take_of_lt hj'] at hxj
          obtain ⟨b', r', rfl, hr', hb', hlen', _⟩ := hrow j x hxj
          have hb'' := e5 _ _ (e4 _ _ (e2 _ _ hb'))
          have hb3' := e5 _ _ (e4 _ _ hb3)
          have eR : Rs.getD j [] = r' := by rw [List.getD_eq_getElem?_getD, hr']; rfl
          rw [eR] at qe
          refine ⟨rfl, _, rfl, _, rfl, ixt hb'' (atI_nat (v := .int (r'.getD (piv r) 0)) (by simp [show piv r < r'.length by omega])) ⟨_, _, rfl, rfl, _, rfl, iteD (fun d1 => ?_) fun d1 => ?_⟩⟩
          · refine ⟨_, rfl, _, rfl, ixt hb3' (atI_nat (v := .int (r.getD (piv r) 0)) (by simp [hpl])) ⟨_, _, rfl, rfl, ?_⟩⟩
            rw [decide_eq_true d1, Bool.true_and] at qe
            exact qe rfl _ (Ex.refl _)
          · rw [decide_eq_false d1, Bool.false_and] at qe
            exact qe rfl _ (Ex.refl _)
        · have hL5 : H5 D1 = some (.lst (((Rs.take i).map fun q => decide (0 ≤ q.getD (piv r) 0) && decide (q.getD (piv r) 0 < r.getD (piv r) 0)).map V.bl)) := by
            have hRl : (rs.take i).length = (Rs.take i).length := by simp [he]
            rw [hL5, picked_all, hRl, map_range (Rs.take i) (fun q => V.bl (decide (0 ≤ q.getD (piv r) 0) && decide (q.getD (piv r) 0 < r.getD (piv r) 0))) _ (fun j x h => ?_), List.map_map]
            · rfl
            · have hj : j < i := by
                have := (List.getElem?_eq_some_iff.mp h).1
                simp at this; omega
              rw [List.getElem?_take_of_lt hj] at h
              have eR : Rs.getD j [] = x := by rw [List.getD_eq_getElem?_getD, h]; rfl
              rw [eR]
          have e05 : Ex H H5 := (e2.trans e4).trans e5
          refine ⟨D1, _, rfl, SqL.of hL5, _, rfl, iteBN (fun hf => fin H5 e05 ?_) fun ht => ?_⟩
          · rw [ok1, ← hf]
            unfold fits
            rw [List.all_map]
            rfl
          · refine ⟨_, rfl, (piv r : Int), _, _, _, _, rfl, e05, ?_⟩
            have ok2 : rowOk (Rs.take i) last r = true := by
              rw [ok1, ← ht]
              unfold fits
              rw [List.all_map]
              rfl
            have := hstep
            rw [ok2, Bool.true_and] at this
            exact this
      · obtain ⟨last, v2, v4, v5, v6, rfl, e, hchk⟩ := p
        have q := kq H' e
        rw [show isB (some (Rs.map some)) = true by
          show chkO [] (-1) (Rs.map some) = true
          rw [hchk, he, List.length_map, List.drop_length]
          rfl] at q
        exact q
theorem ok_l_is_basis {f : Addr} {fd : FuncData} (F : DefK K mg "_law_is_basis" st_l_is_basis ["_law_thing", "_law_size"] f fd) (Z : Zs mg) {f_l_integer : Addr} {fd_l_integer : FuncData} (D_l_integer : DefK K mg "_law_integer" st_l_integer ["_law_thing"] f_l_integer fd_l_integer) (G_l_integer : FnOk P w K mg base CX0 1 f_l_integer fd_l_integer ["_law_thing"] (sp_l_integer K)) :
    FnOk P w K mg base CX0 2 f fd ["_law_thing", "_law_size"] (sp_l_is_basis K) := by
  refine F.fn.ok sc_l_is_basis (fun vs H Q E h => by first | (obtain ⟨rfl, _⟩ := h; rfl) | (obtain ⟨_, rfl, _⟩ := h; rfl) | (obtain ⟨_, _, rfl, _⟩ := h; rfl) | (obtain ⟨_, _, _, rfl, _⟩ := h; rfl) | (obtain ⟨_, _, _, _, rfl, _⟩ := h; rfl) | (obtain ⟨_, _, _, _, _, rfl, _⟩ := h; rfl) | (obtain ⟨_, _, _, _, _, _, rfl, _⟩ := h; rfl) | (obtain ⟨_, _, _, _, _, _, _, rfl, _⟩ := h; rfl) | (obtain ⟨_, _, _, _, _, _, _, _, rfl, _⟩ := h; rfl) | (obtain ⟨_, _, _, _, _, _, _, _, _, rfl, _⟩ := h; rfl) | (obtain ⟨_, _, _, _, _, _, _, _, _, _, rfl, _⟩ := h; rfl) | (obtain ⟨_, _, _, _, _, _, _, _, _, _, _, rfl, _⟩ := h; rfl) | (obtain ⟨_, _, _, _, _, _, _, _, _, _, _, _, rfl, _⟩ := h; rfl) | (obtain ⟨_, _, _, _, _, _, _, _, _, _, _, _, _, rfl, _⟩ := h; rfl)) (fun cdv A outer s H vs Q E hr h => ?_)
  obtain ⟨v, size, o, rfl, td, hs1, hs2, kq⟩ := h
  refine ⟨_, (pss_cons (ps_if (pt_not (pt_val (pe_callB (kIsi (K := K)) (by rfl) Z.isinstance_ PyProof.Rows.Boot.«isinstance» (pa_cons (pv 0) (pa_cons (pe_bltn (v := .ty "tuple") (by rfl) Z.tuple_ PyProof.Rows.Boot.«tuple» rfl) pa_nil))))) (pss_one (ps_ret pe_bl)) pss_nil)
      (pss_cons (ps_set (i := 2) sc_l_is_basis.nd rfl (.inr rfl) (pe_un un_neg pe_int))
      (pss_cons (ps_for PassesOwn.never rfl (kEnum (K := K) (by rfl) Z.enumerate_ (pa_cons (pv 0) pa_nil)) (kPgT (K := K) (n := 2) rfl (pgs_cons (pg_name (i := 3) sc_l_is_basis.nd rfl (.inl rfl)) (pgs_cons (pg_name (i := 4) sc_l_is_basis.nd rfl (.inr rfl)) pgs_nil))) (pss_cons (ps_if (PW.pt (pw_or (pt_not (pt_val (pe_callB (kIsi (K := K)) (by rfl) Z.isinstance_ PyProof.Rows.Boot.«isinstance» (pa_cons (pv 4) (pa_cons (pe_bltn (v := .ty "tuple") (by rfl) Z.tuple_ PyProof.Rows.Boot.«tuple» rfl) pa_nil))))) (pw_or (pt_cmpR (kNe (K := K) hr.units) (pe_callB (kLen (K := K)) (by rfl) Z.len_ PyProof.Rows.Boot.«len» (pa_cons (pv 4) pa_nil)) (pv 1) (nomark _)) (pw_or1 (pt_not (pt_val (pe_callB (kAll (K := K) rfl) (by rfl) Z.all_ PyProof.Rows.Boot.«all» (pa_cons (pe_lc (own := [("_law_entry", 7)]) rfl sc_l_is_basis.nd (kSeq (K := K) (pv 4)) (blkOk_by (N := ["_law_thing", "_law_size", "_law_last", "_law_low", "_law_row", "_law_places", "_law_at", "_law_entry", "_law_high"]) (sc := defScope st_l_is_basis) (by decide +kernel)) (fun _ _ _ _ _ => (pg_name (i := 7) sc_l_is_basis.nd rfl (.inl rfl))) (fun _ _ _ _ _ => pts_nil) (fun _ _ _ _ _ => (pe_call G_l_integer (hr.mono (by decide)) rfl D_l_integer.mg D_l_integer.fn.kp D_l_integer.bd .nil pass0 (pa_cons (pv 7) pa_nil)))) pa_nil)))))))) (pss_one (ps_ret pe_bl)) pss_nil)
      (pss_cons (ps_setLc (i := 5) (own := [("_law_at", 6), ("_law_entry", 7)]) rfl sc_l_is_basis.nd rfl rfl (sw_true rfl rfl rfl (by decide +kernel)) (kEnum (K := K) (by rfl) Z.enumerate_ (pa_cons (pv 4) pa_nil)) (blkOk_by (N := ["_law_thing", "_law_size", "_law_last", "_law_low", "_law_row", "_law_places", "_law_at", "_law_entry", "_law_high"]) (sc := defScope st_l_is_basis) (by decide +kernel)) (fun _ _ _ _ _ => (kPgT (K := K) (n := 2) rfl (pgs_cons (pg_name (i := 6) sc_l_is_basis.nd rfl (.inl rfl)) (pgs_cons (pg_name (i := 7) sc_l_is_basis.nd rfl (.inl rfl)) pgs_nil)))) (fun _ _ _ _ _ => (pts_one (pt_cmpR (kNe (K := K) hr.units) (pv 7) pe_int (nomark _)))) (fun _ _ _ _ _ => (pv 6)))
      (pss_cons (ps_if (PW.pt (pw_or (pt_cmpR (kEq (K := K) hr.units) (pv 5) (pe_lst pa_nil) (nomark _)) (pw_or (pt_cmpR op_le (pe_ix (kIx (K := K)) (pv 5) pe_int (fun _ _ => rfl)) (pv 2) (nomark _)) (pw_or1 (pt_cmpR op_lt (pe_ix (kIx (K := K)) (pv 4) (pe_ix (kIx (K := K)) (pv 5) pe_int (fun _ _ => rfl)) (fun _ _ => rfl)) pe_int (nomark _)))))) (pss_one (ps_ret pe_bl)) pss_nil)
      (pss_cons (ps_set (i := 2) sc_l_is_basis.nd rfl (.inr rfl) (pe_ix (kIx (K := K)) (pv 5) pe_int (fun _ _ => rfl)))
      (pss_one (ps_if (pt_val (pe_callB (kAny (K := K) rfl) (by rfl) Z.any_ PyProof.Rows.Boot.«any» (pa_cons (pe_lc (own := [("_law_high", 8)]) rfl sc_l_is_basis.nd (kSeq (K := K) (pe_slice (kSl (K := K)) (pv 0) po_none (po_some (pv 3)))) (blkOk_by (N := ["_law_thing", "_law_size", "_law_last", "_law_low", "_law_row", "_law_places", "_law_at", "_law_entry", "_law_high"]) (sc := defScope st_l_is_basis) (by decide +kernel)) (fun _ _ _ _ _ => (pg_name (i := 8) sc_l_is_basis.nd rfl (.inl rfl))) (fun _ _ _ _ _ => pts_nil) (fun _ _ _ _ _ => (pe_not (pe_chain op_le op_lt pe_int (pe_ix (kIx (K := K)) (pv 8) (pv 2) (fun _ _ => rfl)) (pe_ix (kIx (K := K)) (pv 4) (pv 2) (fun _ _ => rfl)))))) pa_nil))) (pss_one (ps_ret pe_bl)) pss_nil)))))))
      (pss_one (ps_ret pe_bl))))), ?_⟩
  cases td with
  | bad kd hn =>
    rename_i n
    have e : (n == "tuple") = false := by simpa using hn
    refine ⟨_, rfl, v, .ty "tuple", .type n, .type "tuple", _, rfl, .ty "tuple", kd.ty, kit_ty (kit_tup n kd.mem), _, rfl, ?_⟩
    rw [e]
    exact iteT (kq _ (Ex.refl _))
  | tup ha hl he hx =>
    rename_i a rs os
    have kd : Kd H (.ref a) "tuple" := .tup ha
    refine ⟨_, rfl, .ref a, .ty "tuple", .type "tuple", .type "tuple", _, rfl, .ty "tuple", kd.ty, kit_ty (kit_tup "tuple" kd.mem), _, rfl, ?_⟩
    refine iteF ?_
    refine ⟨_, rfl, _, rfl, true, a, rs, rfl, SqK.tup ha, for_it (walk_ek (xs := rs)) (fun i σ H' => ∃ (pre : List (List Int)) (last : Int) (v3 v4 v5 v6 v7 v8 : Option V), σ = [some (.ref a), some (.int size), some (.int last), v3, v4, v5, v6, v7, v8] ∧ Ex H H' ∧ pre.length = i ∧ (∀ j r, pre[j]? = some r → os[j]? = some (some r)) ∧ chkO [] (-1) os = chkO pre last (os.drop i))
        ⟨[], -1, _, _, _, _, _, _, rfl, Ex.refl _, rfl, fun (j : Nat) (r : List Int) (h : ([] : List (List Int))[j]? = some r) => absurd h (by simp), rfl⟩ (fun i σ H' _ p => ?_) (fun i x σ H' H2 hi p y => ?_) (fun σ H' p => ?_)⟩
    · obtain ⟨_, _, _, _, _, _, _, _, rfl, e, _⟩ := p
      exact e.seq (SqK.tup ha)
    · obtain ⟨pre, last, v3, v4, v5, v6, v7, v8, rfl, e, hpl, hpre, hchk⟩ := p
      obtain ⟨T, x1, y1, rfl, hT, rfl, hx1, hy1⟩ := y
      cases hx1
      have hio : i < os.length := by omega
      have hrd := hx i y1 os[i] hy1 (by simp)
      have e2 : Ex H (upd H' T (.tup [.int (i : Nat), y1])) := e.trans (Ex.new hT)
      have hTT : upd H' T (.tup [.int (i : Nat), y1]) T = some (.tup [.int (i : Nat), y1]) := upd_same
      generalize upd H' T (.tup [.int (i : Nat), y1]) = H3 at e2 hTT
      refine ⟨T, _, rfl, SqT.of hTT, rfl, _, _, rfl, _, _, rfl, rfl, ?_⟩
      have hdrop : os.drop i = os[i] :: os.drop (i + 1) := List.drop_eq_getElem_cons hio
      have fin0 : ∀ H3, Ex H H3 → chkO pre last (os.drop i) = false → Q (.bl false) H3 := by
        intro H3 e3 hf
        have q := kq H3 e3
        rw [show isB (some os) = false from hchk.trans hf] at q
        exact q
      rw [hdrop] at hchk fin0
      generalize hoi : os[i] = oi at *
      cases hrd with
      | bad kd hn =>
        rename_i n
        have e : (n == "tuple") = false := by simpa using hn
        refine ⟨_, rfl, y1, .ty "tuple", .type n, .type "tuple", _, rfl, .ty "tuple", (kd.ex e2).ty, kit_ty (kit_tup n kd.mem), _, rfl, ?_⟩
        rw [e]
        exact iteT (fin0 _ e2 rfl)
      | tup hb hbl hbx =>
        rename_i b ys
        have hb3 := e2 _ _ hb
        have kd : Kd H3 (.ref b) "tuple" := .tup hb3
        refine ⟨_, rfl, .ref b, .ty "tuple", .type "tuple", .type "tuple", _, rfl, .ty "tuple", kd.ty, kit_ty (kit_tup "tuple" kd.mem), _, rfl, ?_⟩
        refine iteF ⟨_, rfl, b, ys, rfl, .inr (SqT.of hb3), _, rfl, .inl ⟨rfl, _, rfl, iteW (fun c1 => iteT (fin0 _ e2 ?_)) fun c1 => ?_⟩⟩
        · rw [decide_eq_false c1]; rfl
        refine ⟨_, rfl, true, b, ys, rfl, SqK.tup hb3, fun D hD => ?_⟩
        refine lc_pure (walk_k (xs := ys)) hD (fun _ => true) (fun i => .bl (isI (ys.getD i .non))) (by omega) (fun _ e => e.seq (SqK.tup hb3)) (fun i x Hc Hy hi e y Qe Qn qe qn => ?_) (fun H4 e4 hL => ?_)
        · obtain ⟨rfl, hxi⟩ := y
          obtain ⟨n, kx⟩ := hbx x (List.mem_of_getElem? hxi)
          refine ⟨rfl, _, rfl, x, n, rfl, kx.ex (e2.trans e), ?_⟩
          have ez : ys.getD i .non = x := by
            rw [List.getD_eq_getElem?_getD, hxi]
            rfl
          rw [ez] at qe
          exact qe rfl _ (Ex.refl _)
        have hL : H4 D = some (.lst ((ys.map isI).map V.bl)) := by
          rw [hL, picked_all]
          rw [map_range ys (fun x => V.bl (isI x)) _ (fun i x h => by rw [List.getD_eq_getElem?_getD, h]; rfl), List.map_map]
          rfl
        refine ⟨D, _, rfl, SqL.of hL, _, rfl, iteBN (fun hf => fin0 _ (e2.trans e4) ?_) fun ht => ?_⟩
        · have : ys.all isI = false := by rw [← hf, List.all_map]; rfl
          rw [this, Bool.and_false]; rfl
        have hall : ys.all isI = true := by rw [← ht, List.all_map]; rfl
        obtain ⟨r, hr⟩ : ∃ r : List Int, ys = r.map V.int := ⟨_, toI_all hall⟩
        have htoI : ys.map toI = r := by rw [hr, List.map_map]; exact List.map_id _
        rw [decide_eq_true c1, hall, htoI] at hchk fin0 hoi
        subst hr
        rw [List.length_map] at hbl c1
        have e4' := e2.trans e4
        have hb4 := e4 _ _ hb3
        clear hL ht
        generalize H4 = H4 at *
        have hpl1 := piv_le r
        have hstep : isB (some os) = (rowOk pre last r && chkO (pre ++ [r]) (piv r) (os.drop (i + 1))) := hchk
        have fin : ∀ H3, Ex H H3 → rowOk pre last r = false → Q (.bl false) H3 := by
          intro H3 e3 hf
          have q := kq H3 e3
          rw [hstep, hf, Bool.false_and] at q
          exact q
        refine ⟨_, rfl, true, b, _, rfl, SqK.tup hb4, fun D1 hD1 => ?_⟩
        refine lc_pure (walk_ek (xs := r.map V.int)) hD1 (fun i => !decide (r.getD i 0 = 0)) (fun i => .int (i : Nat)) (by simp; omega) (fun _ e => e.seq (SqK.tup hb4)) (fun i x Hc Hy hi e y Qe Qn qe qn => ?_) (fun H5 e5 hL5 => ?_)
        · obtain ⟨T, x1, y1, rfl, hT, rfl, hx1, hy1⟩ := y
          cases hx1
          obtain ⟨z, hz, rfl⟩ := ints_at hy1
          have ez : r.getD i 0 = z := by rw [List.getD_eq_getElem?_getD, hz]; rfl
          rw [ez] at qe qn
          refine ⟨T, _, rfl, SqT.of upd_same, rfl, _, _, rfl, _, _, rfl, rfl, rfl, _, rfl, .inl ⟨rfl, _, rfl, iteW (fun c => ?_) fun c => ?_⟩⟩
          · exact ⟨_, rfl, qe (by simp [c]) _ (Ex.new hT)⟩
          · exact qn (by simp [c]) _ (Ex.new hT)
        have pf := picked_first (keep := fun i => !decide (r.getD i 0 = 0)) (val := fun i => ((i : Nat) : Int)) (p := piv r) (fun i hi => by rw [piv_zero r i hi]; rfl) r.length
        have hL5 : H5 D1 = some (.lst ((picked (fun i => !decide (r.getD i 0 = 0)) (fun i => ((i : Nat) : Int)) r.length).map V.int)) := by
          rw [hL5, picked_map, List.length_map]
        generalize picked (fun i => !decide (r.getD i 0 = 0)) (fun i => ((i : Nat) : Int)) r.length = ps at pf hL5
        have e5' := e4'.trans e5
        have hb5 := e5 _ _ hb4
        refine ⟨_, rfl, Nat.zero_le _, fun l hl0 => ?_⟩
        have e6 : Ex H (upd H5 l (.lst [])) := e5'.trans (Ex.new hl0)
        have nl : D1 ≠ l := ne_of_none hL5 hl0
        have hL6 : upd H5 l (.lst []) D1 = some (.lst (ps.map V.int)) := (upd_ne nl).trans hL5
        have hb6 := Ex.new (o := .lst []) hl0 _ _ hb5
        refine .inr ⟨_, _, dp_l (SqL.of hL6), .lst (SqL.of upd_same) .nil, shaped_l _, shaped_l [], _, rfl, ?_⟩
        rw [show PyData.eqv (.list (ps.map PyData.int)) (.list []) = decide (ps = []) from eqv_l ps []]
        refine iteD (fun c2 => iteT (fin _ e6 ?_)) fun c2 => ?_
        · unfold rowOk
          have : piv r = r.length := by
            apply Classical.byContradiction
            intro hne
            obtain ⟨t, ht⟩ := pf.2 (by omega) (by simp only [Bool.not_eq_true', decide_eq_false_iff_not]; exact piv_ne r (by omega))
            rw [c2] at ht
            cases ht
          rw [decide_eq_true (by omega)]
          rfl
        have hplt : piv r < r.length := by
          apply Classical.byContradiction
          intro hne
          exact c2 (pf.1 (by omega))
        obtain ⟨t, ht⟩ := pf.2 hplt (by simp only [Bool.not_eq_true', decide_eq_false_iff_not]; exact piv_ne r hplt)
        subst ht
        have h0 : atI (((piv r : Int) :: t).map V.int) 0 = some (.int (piv r)) := atI_0
        refine ⟨_, rfl, ixl hL6 h0 ⟨_, rfl, _, _, rfl, rfl, _, rfl, iteD (fun c3 => iteT (fin _ e6 ?_)) fun c3 => ?_⟩⟩
        · unfold rowOk
          rw [decide_eq_true c3]
          simp
        refine ⟨_, rfl, _, rfl, ixl hL6 h0 (ixt hb6 (atI_nat (v := .int (r.getD (piv r) 0)) (by simp [hplt])) ⟨_, _, rfl, rfl, _, rfl, iteD (fun c4 => ?_) fun c4 => ?_⟩)⟩
        · refine fin _ e6 ?_
          unfold rowOk
          rw [decide_eq_true c4]
          simp
        have ok1 : rowOk pre last r = fits pre r := by
          unfold rowOk
          rw [decide_eq_false c3, decide_eq_false c4, decide_eq_false (by omega)]
          rfl
        refine ⟨_, rfl, ixl hL6 h0 ?_⟩
        refine ⟨_, rfl, _, rfl, _, rfl, sl_t (e6 _ _ ha) fun p H7 e7 hp7 => ?_⟩
        rw [cut_to (show i ≤ rs.length by omega)] at hp7
        have hb7 := e7 _ _ hb6
        refine ⟨true, p, _, rfl, SqK.tup hp7, fun D2 hD2 => ?_⟩
        refine lc_pure (walk_k (xs := rs.take i)) hD2 (fun _ => true) (fun j => .bl (!(decide (0 ≤ (pre.getD j []).getD (piv r) 0) && decide ((pre.getD j []).getD (piv r) 0 < r.getD (piv r) 0)))) (by simp; omega) (fun _ e => e.seq (SqK.tup hp7)) (fun j x Hc Hy hj e8 y Qe Qn qe qn => ?_) (fun H8 e8 hL8 => ?_)
        · obtain ⟨rfl, hxj⟩ := y
          have hj' : j < i := by simp at hj; omega
          rw [List.getElem?_take_of_lt hj'] at hxj
          have hpj : pre[j]? = some (pre.getD j []) := by
            rw [List.getD_eq_getElem?_getD, List.getElem?_eq_getElem (by omega)]
            rfl
          obtain ⟨b', hb', hbb, hlen', _⟩ := (hx j x _ hxj (hpre j _ hpj)).some
          subst hb'
          generalize pre.getD j [] = r' at *
          have hb'' := e8 _ _ (e7 _ _ (e6 _ _ hbb))
          have hb3' := e8 _ _ hb7
          refine ⟨rfl, _, rfl, _, rfl, ixt hb'' (atI_nat (v := .int (r'.getD (piv r) 0)) (by simp [show piv r < r'.length by omega])) ⟨_, _, rfl, rfl, _, rfl, iteD (fun d1 => ?_) fun d1 => ?_⟩⟩
          · refine ⟨_, rfl, _, rfl, ixt hb3' (atI_nat (v := .int (r.getD (piv r) 0)) (by simp [hplt])) ⟨_, _, rfl, rfl, _, rfl, ?_⟩⟩
            rw [decide_eq_true d1, Bool.true_and] at qe
            exact qe rfl _ (Ex.refl _)
          · rw [decide_eq_false d1, Bool.false_and] at qe
            exact ⟨_, rfl, qe rfl _ (Ex.refl _)⟩
        · have hRl : (rs.take i).length = pre.length := by simp; omega
          have hL8 : H8 D2 = some (.lst ((pre.map fun q => !(decide (0 ≤ q.getD (piv r) 0) && decide (q.getD (piv r) 0 < r.getD (piv r) 0))).map V.bl)) := by
            rw [hL8, picked_all, hRl, map_range pre (fun q => V.bl (!(decide (0 ≤ q.getD (piv r) 0) && decide (q.getD (piv r) 0 < r.getD (piv r) 0)))) _ (fun j x h => ?_), List.map_map]
            · rfl
            · have eR : pre.getD j [] = x := by rw [List.getD_eq_getElem?_getD, h]; rfl
              rw [eR]
          have e08 : Ex H H8 := (e6.trans e7).trans e8
          have hany : (pre.map fun q => !(decide (0 ≤ q.getD (piv r) 0) && decide (q.getD (piv r) 0 < r.getD (piv r) 0))).any id = !fits pre r := by
            unfold fits
            rw [List.any_map, List.not_all_eq_any_not]
            rfl
          refine ⟨D2, _, rfl, SqL.of hL8, ?_⟩
          rw [hany]
          refine ⟨_, rfl, iteBN (fun hf => fin H8 e08 (ok1.trans hf)) fun ht => ?_⟩
          have hoi' := hoi
          refine ⟨pre ++ [r], (piv r : Int), _, _, _, _, _, _, rfl, e08, by simp [hpl], fun j r' h => ?_, ?_⟩
          · by_cases hj : j < pre.length
            · rw [List.getElem?_append_left hj] at h
              exact hpre j r' h
            · rw [List.getElem?_append_right (by omega)] at h
              have hj0 : j - pre.length = 0 := by
                have := (List.getElem?_eq_some_iff.mp h).1
                simp at this; omega
              rw [hj0] at h
              cases h
              have : j = i := by omega
              subst this
              rw [List.getElem?_eq_getElem hio, hoi]
              rfl
          · have := hstep
            rw [ok1, ht, Bool.true_and] at this
            exact this
    · obtain ⟨pre, last, v3, v4, v5, v6, v7, v8, rfl, e, hpl, hpre, hchk⟩ := p
      have q := kq H' e
      rw [show isB (some os) = true by
        show chkO [] (-1) os = true
        rw [hchk, he, List.drop_length]
        rfl] at q
      exact q
end
end K05

set_option maxHeartbeats 4000000
namespace K05
open PySem PySem.Spec PyProof.Rows L2 Hg
/-! ### the basis that the law builds: the mathematics -/
def plusI (f : Int) (xs ys : List Int) : List Int := List.zipWith (fun x y => f * x + y) xs ys
def Bd (n : Nat) : Nat := 10 ^ (40 + 41 * n)
structure RInv (size : Nat) (cs : List Nat) (R : List (List Int)) (low t : Nat) : Prop where
  len : R.length = cs.length
  asc : ∀ (i j c d : Nat), i < j → cs[i]? = some c → cs[j]? = some d → c < d
  lt : ∀ c ∈ cs, c < size
  row : ∀ (j c : Nat) (r : List Int), cs[j]? = some c → R[j]? = some r → r.length = size ∧ (∀ i, i < c → r.getD i 0 = 0) ∧ 0 < r.getD c 0
  red : ∀ (j l c : Nat) (r r' : List Int), j < l → (l < low ∨ (l = low ∧ j < t)) → cs[l]? = some c → R[j]? = some r → R[l]? = some r' → 0 ≤ r.getD c 0 ∧ r.getD c 0 < r'.getD c 0
  small : ∀ (j : Nat) (r : List Int), low ≤ j → R[j]? = some r → ∀ x ∈ r, x.natAbs ≤ 10 ^ 40
  bnd : ∀ (j : Nat) (r : List Int), R[j]? = some r → ∀ x ∈ r, x.natAbs ≤ Bd (if j < t then low + 1 else low)
theorem getD_zip {f : Int → Int → Int} {xs ys : List Int} {i : Nat} (hx : i < xs.length) (hy : i < ys.length) : (List.zipWith f xs ys).getD i 0 = f (xs.getD i 0) (ys.getD i 0) := by
  rw [List.getD_eq_getElem?_getD, List.getD_eq_getElem?_getD, List.getD_eq_getElem?_getD, List.getElem?_zipWith, List.getElem?_eq_getElem hx, List.getElem?_eq_getElem hy]
  rfl
theorem Bd_mono {m n : Nat} (h : m ≤ n) : Bd m ≤ Bd n := Nat.pow_le_pow_right (by decide) (by omega)
theorem Bd_succ (n : Nat) : Bd (n + 1) = Bd n * 10 ^ 41 := by
  unfold Bd
  rw [← Nat.pow_add]
  congr 1
theorem fdiv_natAbs {a p : Int} (hp : 0 < p) : (a.fdiv p).natAbs ≤ a.natAbs := by
  rw [Int.fdiv_eq_ediv_of_nonneg _ (Int.le_of_lt hp)]
  exact Int.natAbs_ediv_le_natAbs a p
theorem RInv.step {size : Nat} {cs : List Nat} {R : List (List Int)} {low t : Nat} (h : RInv size cs R low t) (ht : t < low) {c : Nat} {r r' : List Int} (hc : cs[low]? = some c) (hr : R[t]? = some r) (hr' : R[low]? = some r') :
    RInv size cs (R.set t (plusI (0 - (r.getD c 0).fdiv (r'.getD c 0)) r' r)) low (t + 1) := by
  have hRl : t < R.length := (List.getElem?_eq_some_iff.mp hr).1
  have hlow : low < cs.length := (List.getElem?_eq_some_iff.mp hc).1
  obtain ⟨ct, hct⟩ : ∃ ct, cs[t]? = some ct := ⟨cs[t]'(by omega), by simp [show t < cs.length by omega]⟩
  have hlt : ct < c := h.asc t low ct c ht hct hc
  have hcs : c < size := h.lt c (List.mem_of_getElem? hc)
  obtain ⟨l1, z1, p1⟩ := h.row t ct r hct hr
  obtain ⟨l2, z2, p2⟩ := h.row low c r' hc hr'
  have sm := h.small low r' (Nat.le_refl _) hr'
  have bn := h.bnd t r hr
  rw [if_neg (by omega)] at bn
  generalize hf : (r.getD c 0).fdiv (r'.getD c 0) = f
  have get : ∀ i, i < size → (plusI (0 - f) r' r).getD i 0 = (0 - f) * r'.getD i 0 + r.getD i 0 := fun i hi => getD_zip (by omega) (by omega)
  have lenN : (plusI (0 - f) r' r).length = size := by unfold plusI; rw [List.length_zipWith]; omega
  have same : ∀ i, i < c → (plusI (0 - f) r' r).getD i 0 = r.getD i 0 := by
    intro i hi
    rw [get i (by omega), z2 i hi, Int.mul_zero, Int.zero_add]
  have setAt : ∀ (j : Nat) (x : List Int), (R.set t (plusI (0 - f) r' r))[j]? = some x → (j = t ∧ x = plusI (0 - f) r' r) ∨ (j ≠ t ∧ R[j]? = some x) := by
    intro j x hx
    by_cases e : j = t
    · subst e
      rw [List.getElem?_set_self hRl] at hx
      exact .inl ⟨rfl, (Option.some.inj hx).symm⟩
    · rw [List.getElem?_set_ne (Ne.symm e)] at hx
      exact .inr ⟨e, hx⟩
  refine ⟨by rw [List.length_set]; exact h.len, h.asc, h.lt, fun j d x hd hx => ?_, fun j l d x y hjl hl hd hx hy => ?_, fun j x hj hx => ?_, fun j x hx => ?_⟩
  · rcases setAt j x hx with ⟨rfl, rfl⟩ | ⟨_, hx⟩
    · rw [hct] at hd
      cases hd
      refine ⟨lenN, fun i hi => ?_, ?_⟩
      · rw [same i (by omega)]
        exact z1 i hi
      · rw [same ct hlt]
        exact p1
    · exact h.row j d x hd hx
  · -- reduced
    have yv : ∃ y0, R[l]? = some y0 ∧ y.getD d 0 = y0.getD d 0 := by
      rcases setAt l y hy with ⟨rfl, rfl⟩ | ⟨_, hy⟩
      · rw [hct] at hd
        cases hd
        exact ⟨r, hr, same ct hlt⟩
      · exact ⟨y, hy, rfl⟩
    obtain ⟨y0, hy0, ey⟩ := yv
    rw [ey]
    rcases setAt j x hx with ⟨rfl, rfl⟩ | ⟨hne, hx⟩
    · rcases hl with hl | ⟨rfl, _⟩
      · have hdc : d < c := h.asc l low d c hl hd hc
        rw [same d hdc]
        exact h.red j l d r y0 hjl (.inl hl) hd hr hy0
      · rw [hc] at hd
        cases hd
        rw [hr'] at hy0
        cases hy0
        rw [get c hcs, ← hf]
        have e1 : (0 - (r.getD c 0).fdiv (r'.getD c 0)) * r'.getD c 0 + r.getD c 0 = r.getD c 0 % r'.getD c 0 := by
          rw [Int.fdiv_eq_ediv_of_nonneg _ (Int.le_of_lt p2)]
          have := Int.emod_def (r.getD c 0) (r'.getD c 0)
          rw [this, Int.zero_sub, Int.neg_mul, Int.mul_comm (r.getD c 0 / r'.getD c 0)]
          omega
        rw [e1]
        exact ⟨Int.emod_nonneg _ (by omega), Int.emod_lt_of_pos _ p2⟩
    · refine h.red j l d x y0 hjl ?_ hd hx hy0
      rcases hl with hl | ⟨e, hl⟩
      · exact .inl hl
      · exact .inr ⟨e, by omega⟩
  · rcases setAt j x hx with ⟨rfl, _⟩ | ⟨_, hx⟩
    · omega
    · exact h.small j x hj hx
  · rcases setAt j x hx with ⟨rfl, rfl⟩ | ⟨hne, hx⟩
    · rw [if_pos (by omega), Bd_succ]
      intro z hz
      unfold plusI at hz
      obtain ⟨i, hi, rfl⟩ := List.mem_iff_getElem.mp hz
      rw [List.length_zipWith] at hi
      rw [List.getElem_zipWith]
      have b1 : f.natAbs ≤ Bd low := by
        rw [← hf]
        refine Nat.le_trans (fdiv_natAbs p2) ?_
        by_cases hcl : c < r.length
        · rw [List.getD_eq_getElem?_getD, List.getElem?_eq_getElem hcl]
          exact bn _ (List.getElem_mem _)
        · omega
      have b2 := sm _ (List.getElem_mem (l := r') (n := i) (by omega))
      have b3 := bn _ (List.getElem_mem (l := r) (n := i) (by omega))
      have b4 : ((0 - f) * r'[i]).natAbs ≤ Bd low * 10 ^ 40 := by
        rw [Int.natAbs_mul, Int.zero_sub, Int.natAbs_neg]
        exact Nat.mul_le_mul b1 b2
      have b5 := Int.natAbs_add_le ((0 - f) * r'[i]) r[i]
      have b6 : Bd low * 10 ^ 41 = Bd low * 10 ^ 40 * 10 := by rw [Nat.mul_assoc]
      have b7 : Bd low ≤ Bd low * 10 ^ 40 := Nat.le_mul_of_pos_right _ (by decide)
      omega
    · intro z hz
      refine Nat.le_trans (h.bnd j x hx z hz) (Bd_mono ?_)
      split <;> split <;> omega
theorem RInv.next {size : Nat} {cs : List Nat} {R : List (List Int)} {low : Nat} (h : RInv size cs R low low) : RInv size cs R (low + 1) 0 := by
  refine ⟨h.len, h.asc, h.lt, h.row, fun j l d x y hjl hl hd hx hy => ?_, fun j r hj hr => h.small j r (by omega) hr, fun j r hr x hx => ?_⟩
  · refine h.red j l d x y hjl ?_ hd hx hy
    omega
  · refine Nat.le_trans (h.bnd j r hr x hx) (Bd_mono ?_)
    split <;> split <;> omega
theorem piv_eq {r : List Int} {c : Nat} (h0 : ∀ i, i < c → r.getD i 0 = 0) (h1 : 0 < r.getD c 0) : piv r = c := by
  have hl : c < r.length := by
    apply Classical.byContradiction
    intro h
    rw [List.getD_eq_getElem?_getD, List.getElem?_eq_none (by omega)] at h1
    exact absurd h1 (by decide)
  apply Classical.byContradiction
  intro hne
  by_cases hlt : piv r < c
  · exact piv_ne r (by omega) (h0 _ hlt)
  · have := piv_zero r c (by omega)
    omega
theorem RInv.isB {size : Nat} {cs : List Nat} {R : List (List Int)} {low : Nat} (h : RInv size cs R low 0) (hlow : low = cs.length) : isB (some (R.map some)) = true := by
  have main : ∀ (k i : Nat) (last : Int), k + i = R.length → (∀ c, cs[i]? = some c → last < (c : Int)) → chkO (R.take i) last ((R.drop i).map some) = true := by
    intro k
    induction k with
    | zero =>
      intro i last hk _
      rw [List.drop_of_length_le (by omega)]
      rfl
    | succ k ih =>
      intro i last hk hl
      have hi : i < R.length := by omega
      have hic : i < cs.length := by rw [← h.len]; exact hi
      have hci : cs[i]? = some cs[i] := by simp [hic]
      have hri : R[i]? = some R[i] := by simp [hi]
      obtain ⟨h1, h2, h3⟩ := h.row i _ _ hci hri
      have hp := piv_eq h2 h3
      have hcl := h.lt _ (List.getElem_mem hic)
      have hlast := hl _ hci
      rw [List.drop_eq_getElem_cons hi, List.map_cons, chkO]
      have e1 : R.take i ++ [R[i]] = R.take (i + 1) := by rw [List.take_succ, hri]; rfl
      rw [e1, ih (i + 1) _ (by omega) (fun d hd => by rw [hp]; have := h.asc i (i + 1) _ d (by omega) hci hd; omega), Bool.and_true]
      unfold rowOk
      rw [hp, decide_eq_false (by omega), decide_eq_false (by omega), decide_eq_false (by omega)]
      show fits _ _ = true
      unfold fits
      rw [List.all_eq_true]
      intro a ha
      obtain ⟨j, hj, rfl⟩ := List.mem_iff_getElem.mp ha
      rw [List.length_take] at hj
      rw [List.getElem_take, hp]
      obtain ⟨g1, g2⟩ := h.red j i _ R[j] R[i] (by omega) (.inl (by omega)) hci (by simp) hri
      rw [decide_eq_true g1, decide_eq_true g2]
      rfl
  have := main R.length 0 (-1) (by omega) (fun c _ => by omega)
  show chkO [] (-1) (R.map some) = true
  simpa using this
end K05

set_option maxHeartbeats 4000000
namespace K05
open PySem PySem.Spec PyProof.Rows L2 Hg
def sp_l_plus (K : PySem.W.Frag) : Sp := fun vs H Q _ => ∃ (k l : Bool) (a b : Addr) (f : Int) (xs ys : List Int), vs = [.int f, .ref a, .ref b] ∧ SqK K k H a (xs.map V.int) ∧ SqK K l H b (ys.map V.int) ∧ xs.length = ys.length ∧ xs.length ≤ 1000 ∧
  big f ∧ (∀ x ∈ xs, big x) ∧ ∀ H' p, Ex H H' → H p = none → H' p = some (.tup ((plusI f xs ys).map V.int)) → Q (.ref p) H'
def sp_l_basis (K : PySem.W.Frag) : Sp := fun vs H Q _ => ∃ (s q : Addr) (B : Nat) (G : Hp) (size : Nat), vs = [.ref s, .int size] ∧ Ov s q B G H ∧ B ≤ 1000 ∧ 1 ≤ size ∧ size ≤ 12 ∧
  ∀ (b : Addr) (as : List Addr) (R : List (List Int)) (H' : Hp), Ov s q (B + 1000) G H' → H' b = some (.tup (as.map V.ref)) → RowsIn H' as R → R.length ≤ size → (∀ r ∈ R, r.length = size) → isB (some (R.map some)) = true → Q (.ref b) H'
section
variable {P : Program} {w : World} {K : PySem.W.Frag} {mg : Str → Option Value} {base : Heap}
theorem ok_l_plus {f : Addr} {fd : FuncData} (F : DefK K mg "_law_plus" st_l_plus ["_law_factor", "_law_one", "_law_other"] f fd) (Z : Zs mg)  :
    FnOk P w K mg base CX0 1 f fd ["_law_factor", "_law_one", "_law_other"] (sp_l_plus K) := by
  refine F.fn.ok sc_l_plus (fun vs H Q E h => by first | (obtain ⟨rfl, _⟩ := h; rfl) | (obtain ⟨_, rfl, _⟩ := h; rfl) | (obtain ⟨_, _, rfl, _⟩ := h; rfl) | (obtain ⟨_, _, _, rfl, _⟩ := h; rfl) | (obtain ⟨_, _, _, _, rfl, _⟩ := h; rfl) | (obtain ⟨_, _, _, _, _, rfl, _⟩ := h; rfl) | (obtain ⟨_, _, _, _, _, _, rfl, _⟩ := h; rfl) | (obtain ⟨_, _, _, _, _, _, _, rfl, _⟩ := h; rfl) | (obtain ⟨_, _, _, _, _, _, _, _, rfl, _⟩ := h; rfl) | (obtain ⟨_, _, _, _, _, _, _, _, _, rfl, _⟩ := h; rfl) | (obtain ⟨_, _, _, _, _, _, _, _, _, _, rfl, _⟩ := h; rfl) | (obtain ⟨_, _, _, _, _, _, _, _, _, _, _, rfl, _⟩ := h; rfl) | (obtain ⟨_, _, _, _, _, _, _, _, _, _, _, _, rfl, _⟩ := h; rfl) | (obtain ⟨_, _, _, _, _, _, _, _, _, _, _, _, _, rfl, _⟩ := h; rfl)) (fun cdv A outer s H vs Q E hr h => ?_)
  obtain ⟨k, l, a, b, f, xs, ys, rfl, ha, hb, he, hlen, bf, bx, kq⟩ := h
  refine ⟨_, (pss_one (ps_ret (pe_callTy (kTup (K := K)) (by rfl) Z.tuple_ PyProof.Rows.Boot.«tuple» (pa_cons (pe_lc (own := [("_law_a", 3), ("_law_b", 4)]) rfl sc_l_plus.nd (kZip (K := K) (by rfl) Z.zip_ (pa_cons (pv 1) (pa_cons (pv 2) pa_nil))) (blkOk_by (N := ["_law_factor", "_law_one", "_law_other", "_law_a", "_law_b"]) (sc := defScope st_l_plus) (by decide +kernel)) (fun _ _ _ _ _ => (kPgT (K := K) (n := 2) rfl (pgs_cons (pg_name (i := 3) sc_l_plus.nd rfl (.inl rfl)) (pgs_cons (pg_name (i := 4) sc_l_plus.nd rfl (.inl rfl)) pgs_nil)))) (fun _ _ _ _ _ => pts_nil) (fun _ _ _ _ _ => (pe_op (kAdd (K := K)) (pe_op oMul (pv 0) (pv 3)) (pv 4)))) pa_nil)))), ?_⟩
  refine ⟨_, rfl, _, rfl, k, l, a, b, _, _, rfl, ha, hb, fun D hD => ?_⟩
  have hmin : min xs.length ys.length = min (xs.map V.int).length (ys.map V.int).length := by simp
  refine lc_pure (walk_zk (K := K) (k := k) (l := l) (a := a) (b := b) (xs := xs.map V.int) (ys := ys.map V.int) hmin) hD (fun _ => true) (fun i => .int (f * xs.getD i 0 + ys.getD i 0)) (by omega) (fun _ e => ⟨e.seq ha, e.seq hb⟩) (fun i x Hc Hy hi e y Qe Qn qe qn => ?_) (fun H1 ex hL => ?_)
  · obtain ⟨T, x1, y1, rfl, hT, rfl, hx, hy⟩ := y
    obtain ⟨z1, hz1, rfl⟩ := ints_at hx
    obtain ⟨z2, hz2, rfl⟩ := ints_at hy
    have e1 : xs.getD i 0 = z1 := by rw [List.getD_eq_getElem?_getD, hz1]; rfl
    have e2 : ys.getD i 0 = z2 := by rw [List.getD_eq_getElem?_getD, hz2]; rfl
    rw [e1, e2] at qe
    refine ⟨T, _, rfl, SqT.of upd_same, rfl, _, _, rfl, _, _, rfl, rfl, rfl, _, rfl, _, rfl, f, z1, rfl, rfl, big_mul bf (bx _ (List.mem_of_getElem? hz1)), _, rfl, .inl ⟨_, _, rfl, rfl, qe rfl _ (Ex.new hT)⟩⟩
  · rw [picked_all, range_zip he (fun x y => f * x + y) _ (fun i x y h1 h2 => by rw [List.getD_eq_getElem?_getD, List.getD_eq_getElem?_getD, h1, h2]; rfl)] at hL
    refine ⟨D, _, rfl, .inl ⟨SqL.of hL, fun t ht => ?_⟩⟩
    exact kq _ t (ex.trans (Ex.new ht)) (ex.free ht) upd_same
end
end K05

set_option maxHeartbeats 4000000
namespace K05
open PySem PySem.Spec PyProof.Rows L2 Hg
def menuI : List Int := [1, 1, 2, 3, 4, 6, 12, 35, 1000003, 10 ^ 40]
/-- ascending columns below n -/
def Cols (n : Nat) (cs : List Nat) : Prop := (∀ c ∈ cs, c < n) ∧ (∀ (a b c d : Nat), a < b → cs[a]? = some c → cs[b]? = some d → c < d) ∧ cs.length ≤ n
theorem Cols.snoc {n : Nat} {cs : List Nat} (h : Cols n cs) : Cols (n + 1) (cs ++ [n]) := by
  obtain ⟨h1, h2, h3⟩ := h
  refine ⟨fun c hc => ?_, fun a b c d hab hc hd => ?_, by simp; exact h3⟩
  · rcases List.mem_append.mp hc with hc | hc
    · have := h1 c hc; omega
    · rw [List.mem_singleton.mp hc]; omega
  · have hb : b < (cs ++ [n]).length := (List.getElem?_eq_some_iff.mp hd).1
    simp at hb
    rw [List.getElem?_append_left (by omega)] at hc
    by_cases hbl : b < cs.length
    · rw [List.getElem?_append_left hbl] at hd
      exact h2 a b c d hab hc hd
    · rw [List.getElem?_append_right (by omega), show b - cs.length = 0 by omega] at hd
      cases hd
      exact h1 c (List.mem_of_getElem? hc)
theorem Cols.more {n : Nat} {cs : List Nat} (h : Cols n cs) : Cols (n + 1) cs := ⟨fun c hc => by have := h.1 c hc; omega, h.2.1, by have := h.2.2; omega⟩
/-- the rows made so far -/
def Made (size : Nat) (cs : List Nat) (R : List (List Int)) : Prop := ∀ (j c : Nat) (r : List Int), cs[j]? = some c → R[j]? = some r → r.length = size ∧ (∀ i, i < c → r.getD i 0 = 0) ∧ 0 < r.getD c 0 ∧ ∀ x ∈ r, x.natAbs ≤ 10 ^ 40
section
variable {P : Program} {w : World} {K : PySem.W.Frag} {mg : Str → Option Value} {base : Heap}
theorem ok_l_basis {f : Addr} {fd : FuncData} (F : DefK K mg "_law_basis" st_l_basis ["_law_stream", "_law_size"] f fd) (Z : Zs mg) {f_l_draw : Addr} {fd_l_draw : FuncData} (D_l_draw : DefK K mg "_law_draw" st_l_draw ["_law_stream", "_law_count"] f_l_draw fd_l_draw) (G_l_draw : FnOk P w K mg base CX0 1 f_l_draw fd_l_draw ["_law_stream", "_law_count"] (sp_l_draw K)) {f_l_plus : Addr} {fd_l_plus : FuncData} (D_l_plus : DefK K mg "_law_plus" st_l_plus ["_law_factor", "_law_one", "_law_other"] f_l_plus fd_l_plus) (G_l_plus : FnOk P w K mg base CX0 1 f_l_plus fd_l_plus ["_law_factor", "_law_one", "_law_other"] (sp_l_plus K)) :
    FnOk P w K mg base CX0 2 f fd ["_law_stream", "_law_size"] (sp_l_basis K) := by
  refine F.fn.ok sc_l_basis (fun vs H Q E h => by first | (obtain ⟨rfl, _⟩ := h; rfl) | (obtain ⟨_, rfl, _⟩ := h; rfl) | (obtain ⟨_, _, rfl, _⟩ := h; rfl) | (obtain ⟨_, _, _, rfl, _⟩ := h; rfl) | (obtain ⟨_, _, _, _, rfl, _⟩ := h; rfl) | (obtain ⟨_, _, _, _, _, rfl, _⟩ := h; rfl) | (obtain ⟨_, _, _, _, _, _, rfl, _⟩ := h; rfl) | (obtain ⟨_, _, _, _, _, _, _, rfl, _⟩ := h; rfl) | (obtain ⟨_, _, _, _, _, _, _, _, rfl, _⟩ := h; rfl) | (obtain ⟨_, _, _, _, _, _, _, _, _, rfl, _⟩ := h; rfl) | (obtain ⟨_, _, _, _, _, _, _, _, _, _, rfl, _⟩ := h; rfl) | (obtain ⟨_, _, _, _, _, _, _, _, _, _, _, rfl, _⟩ := h; rfl) | (obtain ⟨_, _, _, _, _, _, _, _, _, _, _, _, rfl, _⟩ := h; rfl) | (obtain ⟨_, _, _, _, _, _, _, _, _, _, _, _, _, rfl, _⟩ := h; rfl)) (fun cdv A outer s H vs Q E hr h => ?_)
  obtain ⟨s0, q, B, G, size, rfl, O, hB, hs1, hs2, kq⟩ := h
  refine ⟨_, (pss_cons (ps_set (i := 2) sc_l_basis.nd rfl (.inl rfl) (pe_lst (pa_cons pe_int (pa_cons pe_int (pa_cons pe_int (pa_cons pe_int (pa_cons pe_int (pa_cons pe_int (pa_cons pe_int (pa_cons pe_int (pa_cons pe_int (pa_cons (pe_op op_pow pe_int pe_int) pa_nil))))))))))))
      (pss_cons (ps_setLc (i := 4) (own := [("_law_column", 3)]) rfl sc_l_basis.nd rfl rfl (sw_true rfl rfl rfl (by decide +kernel)) (pi_range1 (by rfl) Z.range_ (pa_cons (pv 1) pa_nil)) (blkOk_by (N := ["_law_stream", "_law_size", "_law_menu", "_law_column", "_law_columns", "_law_rows", "_law_row", "_law_low", "_law_high", "_law_factor"]) (sc := defScope st_l_basis) (by decide +kernel)) (fun _ _ _ _ _ => (pg_name (i := 3) sc_l_basis.nd rfl (.inl rfl))) (fun _ _ _ _ _ => (pts_one (pt_cmpR op_gt (pe_call G_l_draw (hr.mono (by decide)) rfl D_l_draw.mg D_l_draw.fn.kp D_l_draw.bd .nil pass0 (pa_cons (pv 0) (pa_cons pe_int pa_nil))) pe_int (nomark _)))) (fun _ _ _ _ _ => (pv 3)))
      (pss_cons (ps_set (i := 5) sc_l_basis.nd rfl (.inl rfl) (pe_lst pa_nil))
      (pss_cons (ps_for PassesOwn.never rfl (kSeq (K := K) (pv 4)) (pg_name (i := 3) sc_l_basis.nd rfl (.inl rfl)) (pss_cons (ps_set (i := 6) sc_l_basis.nd rfl (.inl rfl) (pe_op (kAdd (K := K)) (pe_op op_rep (pe_lst (pa_cons pe_int pa_nil)) (pv 3)) (pe_lst (pa_cons (pe_ix (kIx (K := K)) (pv 2) (pe_call G_l_draw (hr.mono (by decide)) rfl D_l_draw.mg D_l_draw.fn.kp D_l_draw.bd .nil pass0 (pa_cons (pv 0) (pa_cons pe_int pa_nil))) (fun _ _ => rfl)) pa_nil))))
      (pss_cons (ps_while PassesOwn.never (pt_cmpR op_lt (pe_callB (kLen (K := K)) (by rfl) Z.len_ PyProof.Rows.Boot.«len» (pa_cons (pv 6) pa_nil)) (pv 1) (nomark _)) (pss_one (ps_expr (pe_bm PySem.F.plainAttrs_list PySem.F.slot_list_append PySem.F.type_list_append mt_append (pv 6) (pa_cons (pe_ix (kIx (K := K)) (pe_lst (pa_cons pe_int (pa_cons (pe_op op_sub (pe_call G_l_draw (hr.mono (by decide)) rfl D_l_draw.mg D_l_draw.fn.kp D_l_draw.bd .nil pass0 (pa_cons (pv 0) (pa_cons pe_int pa_nil))) pe_int) (pa_cons (pe_call G_l_draw (hr.mono (by decide)) rfl D_l_draw.mg D_l_draw.fn.kp D_l_draw.bd .nil pass0 (pa_cons (pv 0) (pa_cons (pe_op op_pow pe_int pe_int) pa_nil))) pa_nil)))) (pe_call G_l_draw (hr.mono (by decide)) rfl D_l_draw.mg D_l_draw.fn.kp D_l_draw.bd .nil pass0 (pa_cons (pv 0) (pa_cons pe_int pa_nil))) (fun _ _ => rfl)) pa_nil)))))
      (pss_one (ps_expr (pe_bm PySem.F.plainAttrs_list PySem.F.slot_list_append PySem.F.type_list_append mt_append (pv 5) (pa_cons (pe_callTy (kTup (K := K)) (by rfl) Z.tuple_ PyProof.Rows.Boot.«tuple» (pa_cons (pv 6) pa_nil)) pa_nil)))))))
      (pss_cons (ps_for PassesOwn.never rfl (kEnum (K := K) (by rfl) Z.enumerate_ (pa_cons (pv 4) pa_nil)) (kPgT (K := K) (n := 2) rfl (pgs_cons (pg_name (i := 7) sc_l_basis.nd rfl (.inl rfl)) (pgs_cons (pg_name (i := 3) sc_l_basis.nd rfl (.inl rfl)) pgs_nil))) (pss_one (ps_for PassesOwn.never rfl (pi_range1 (by rfl) Z.range_ (pa_cons (pv 7) pa_nil)) (pg_name (i := 8) sc_l_basis.nd rfl (.inl rfl)) (pss_cons (ps_set (i := 9) sc_l_basis.nd rfl (.inl rfl) (pe_op oDiv (pe_ix (kIx (K := K)) (pe_ix (kIx (K := K)) (pv 5) (pv 8) (fun _ _ => rfl)) (pv 3) (fun _ _ => rfl)) (pe_ix (kIx (K := K)) (pe_ix (kIx (K := K)) (pv 5) (pv 7) (fun _ _ => rfl)) (pv 3) (fun _ _ => rfl))))
      (pss_one (ps_asg (pe_call G_l_plus (hr.mono (by decide)) rfl D_l_plus.mg D_l_plus.fn.kp D_l_plus.bd .nil pass0 (pa_cons (pe_op op_sub pe_int (pv 9)) (pa_cons (pe_ix (kIx (K := K)) (pv 5) (pv 7) (fun _ _ => rfl)) (pa_cons (pe_ix (kIx (K := K)) (pv 5) (pv 8) (fun _ _ => rfl)) pa_nil)))) (pg_sub (pv 5) (pv 8) set_list)))))))
      (pss_one (ps_ret (pe_callTy (kTup (K := K)) (by rfl) Z.tuple_ PyProof.Rows.Boot.«tuple» (pa_cons (pv 5) pa_nil))))))))), ?_⟩
  refine ⟨10, 40, rfl, rfl, ⟨by decide, by decide, by decide⟩, by show 10 ≤ sizeLine; decide, fun M hM => ?_⟩
  obtain ⟨nMs, nMq⟩ := O.ns hM
  have O1 := O.drop (o := .lst (menuI.map V.int)) hM
  have hM1 : upd H M (.lst (menuI.map V.int)) M = some (.lst (menuI.map V.int)) := upd_same
  have gM : G M = none := O.sub.free hM
  show tSeq _ _ _ _ (upd H M (.lst (menuI.map V.int)))
  generalize upd H M (.lst (menuI.map V.int)) = H1 at O1 hM1
  -- columns
  refine ⟨_, rfl, size, rfl, by omega, by omega, fun D hD => ?_⟩
  obtain ⟨nDs, nDq⟩ := O1.ns hD
  rw [show ((size : Nat) : Int).toNat = size from Int.toNat_natCast _]
  refine lc_strm (walk_range (lo := 0) (n := size)) (c := 1) O1.all.1 hD (fun i acc => ∃ cs : List Nat, acc = cs.map (fun c : Nat => V.int (c : Int)) ∧ Cols i cs) ⟨[], rfl, ⟨(fun c hc => absurd hc (by simp)), (fun a b c d _ h => absurd h (by simp)), Nat.le_refl _⟩⟩ (fun i acc _ p => by obtain ⟨cs, rfl, e⟩ := p; rw [List.length_map]; exact e.2.2) (by omega) (fun _ _ _ _ _ => trivial) (fun i x Hc Hy acc hi pa oc y Qe Qn qe qn => ?_) (fun H2 acc pa O2 => ?_)
  · obtain ⟨rfl, rfl⟩ := y
    obtain ⟨cs, rfl, hcs⟩ := pa
    refine ⟨rfl, _, rfl, s0, q, _, _, 4, rfl, oc, by omega, by decide, by decide, fun z H5 z0 z1 O5 => ⟨_, _, rfl, rfl, _, rfl, iteD (fun c => ?_) fun c => ?_⟩⟩
    · exact ⟨_, rfl, qe _ _ ⟨cs ++ [i], by simp, hcs.snoc⟩ (O5.more (by omega))⟩
    · exact qn _ ⟨cs, rfl, hcs.more⟩ (O5.more (by omega))
  obtain ⟨cs, rfl, hcs⟩ := pa
  have hD2 : H2 D = some (.lst (cs.map fun c : Nat => V.int (c : Int))) := O2.sub _ _ upd_same
  have hM2 : H2 M = some (.lst (menuI.map V.int)) := by
    refine O2.sub _ _ ((upd_ne ?_).trans ((beside_of nMs nMq).trans hM1))
    intro e; rw [e, hD] at hM1; cases hM1
  have gD : G D = none := O1.sub.free hD
  have O2 : Ov s0 q (B + 12) G H2 := ((O2.weak (Ex.new (by rw [beside_of nDs nDq]; exact hD))).weak O1.all.2).more (by omega)
  have hcl : cs.length ≤ 12 := by have := hcs.2.2; omega
  -- rows = []
  refine ⟨Nat.zero_le _, fun L hL => ?_⟩
  obtain ⟨nLs, nLq⟩ := O2.ns hL
  have gL : G L = none := O2.sub.free hL
  have nLM : M ≠ L := ne_of_none hM2 hL
  have nLD : D ≠ L := ne_of_none hD2 hL
  have O3 := O2.drop (o := .lst []) hL
  refine ⟨_, rfl, false, D, _, rfl, SqK.lst ((upd_ne nLD).trans hD2), for_it (walk_k (xs := cs.map fun c : Nat => V.int (c : Int))) (fun i σ H' => ∃ (v3 v6 : Option V) (as : List Addr) (R : List (List Int)), σ = [some (.ref s0), some (.int size), some (.ref M), v3, some (.ref D), some (.ref L), v6, none, none, none] ∧
      Ov s0 q (B + 12 + 40 * i) G H' ∧ H' M = some (.lst (menuI.map V.int)) ∧ H' D = some (.lst (cs.map fun c : Nat => V.int (c : Int))) ∧ H' L = some (.lst (as.map V.ref)) ∧ RowsIn H' as R ∧ R.length = i ∧ Made size cs R)
    ⟨_, _, [], [], rfl, O3, (upd_ne nLM).trans hM2, (upd_ne nLD).trans hD2, upd_same, RowsIn.nil, rfl, fun j c r _ h => absurd h (by simp)⟩ (fun i σ H' _ p => ?_) (fun i x σ H' H6 hi p y => ?_) (fun σ H' p => ?_)⟩
  · obtain ⟨_, _, _, _, rfl, _, _, h, _⟩ := p
    exact SqK.lst h
  · obtain ⟨v3, v6, as, R, rfl, O4, hM4, hD4, hL4, hR, hRl, hMd⟩ := p
    obtain ⟨rfl, hx⟩ := y
    rw [List.length_map] at hi
    rw [List.getElem?_map, List.getElem?_eq_getElem hi] at hx
    cases hx
    have hc : cs[i]? = some cs[i] := by simp [hi]
    generalize cs[i] = c at hc
    have hcs' : c < size := hcs.1 c (List.mem_of_getElem? hc)
    -- row = [0] * c + [menu[..]]
    refine ⟨by show 1 ≤ sizeLine; decide, fun l1 hl1 => ⟨_, rfl, l1, c, [.int 0], rfl, rfl, upd_same, by omega, by omega, by rw [sizeLine_eq, Int.toNat_natCast]; simp; omega, fun p1 hp1 => ?_⟩⟩
    have e5 : Ex H6 (upd (upd H6 l1 (.lst [.int 0])) p1 (.lst (List.replicate (c : Int).toNat [V.int 0]).flatten)) := (Ex.new hl1).trans (Ex.new hp1)
    have O5 := O4.ex e5
    obtain ⟨n1s, n1q⟩ := (O4.drop (o := .lst [.int 0]) hl1).ns hp1
    have hp5 : upd (upd H6 l1 (.lst [.int 0])) p1 (.lst (List.replicate (c : Int).toNat [V.int 0]).flatten) p1 = some (.lst ((List.replicate c (0 : Int)).map V.int)) := by
      rw [upd_same, Int.toNat_natCast]
      congr 2
      rw [List.map_replicate]
      clear hp1 e5 O5 n1s n1q hc hcs'
      induction c with
      | zero => rfl
      | succ c ih => rw [List.replicate_succ, List.replicate_succ, List.flatten_cons, ih]; rfl
    generalize upd (upd H6 l1 (.lst [.int 0])) p1 (.lst (List.replicate (c : Int).toNat [V.int 0]).flatten) = H5 at e5 O5 hp5
    refine ⟨_, rfl, _, rfl, s0, q, _, _, 10, rfl, O5.all.1, by omega, by decide, by decide, fun r H7 r0 r1 O7 => ?_⟩
    have hM7 := O7.l nMs nMq (e5 _ _ hM4)
    have hD7 := O7.l nDs nDq (e5 _ _ hD4)
    have hL7 := O7.l nLs nLq (e5 _ _ hL4)
    have hp7 := O7.l n1s n1q hp5
    have hR7 := (hR.mono (fun a xs h => e5 _ _ h)).mono (fun a xs h => O5.t O7 h)
    have O7 := O5.g O7
    obtain ⟨v, hv, hm⟩ := menu (n := 10) r0 r1 (vs := menuI.map V.int) rfl
    have hvz : ∃ z : Int, v = .int z ∧ 0 < z ∧ z.natAbs ≤ 10 ^ 40 := by
      obtain ⟨z, hz, rfl⟩ := List.mem_map.mp hm
      refine ⟨z, rfl, ?_⟩
      simp only [menuI, List.mem_cons, List.not_mem_nil, or_false] at hz
      rcases hz with h | h | h | h | h | h | h | h | h | h <;> subst h <;> decide
    obtain ⟨z, rfl, z0, z1⟩ := hvz
    refine ixl hM7 hv ⟨by show 1 ≤ sizeLine; decide, fun l2 hl2 => ?_⟩
    have e8 := Ex.new (o := .lst [.int z]) hl2
    have O8 := O7.ex e8
    refine cat_l (e8 _ _ hp7) upd_same (by simp; omega) fun p3 H9 e9 hn9 hp9 => ?_
    have O9 := O8.ex e9
    obtain ⟨n3s, n3q⟩ := O8.ns hn9
    have g3 : G p3 = none := O8.sub.free hn9
    have hM9 := e9 _ _ (e8 _ _ hM7)
    have hD9 := e9 _ _ (e8 _ _ hD7)
    have hL9 := e9 _ _ (e8 _ _ hL7)
    have hR9 := (hR7.mono fun a xs h => e8 _ _ h).mono fun a xs h => e9 _ _ h
    have nM3 : M ≠ p3 := ne_of_none (e8 _ _ hM7) hn9
    have nD3 : D ≠ p3 := ne_of_none (e8 _ _ hD7) hn9
    have nL3 : L ≠ p3 := ne_of_none (e8 _ _ hL7) hn9
    have hp9 : H9 p3 = some (.lst ((List.replicate c (0 : Int) ++ [z]).map V.int)) := by rw [hp9, List.map_append]; rfl
    generalize hns0 : List.replicate c (0 : Int) ++ [z] = ns0 at hp9
    have l0 : ns0.length = c + 1 := by rw [← hns0]; simp
    have z0' : ∀ i, i < c → ns0.getD i 0 = 0 := by
      intro i hi
      rw [← hns0, List.getD_eq_getElem?_getD, List.getElem?_append_left (by simpa using hi)]
      simp [hi]
    have c0' : 0 < ns0.getD c 0 := by
      rw [← hns0, List.getD_eq_getElem?_getD, List.getElem?_append_right (by simp)]
      simpa using z0
    have b0' : ∀ x ∈ ns0, x.natAbs ≤ 10 ^ 40 := by
      intro x hx
      rw [← hns0] at hx
      rcases List.mem_append.mp hx with h | h
      · rw [(List.mem_replicate.mp h).2]; decide
      · rw [List.mem_singleton.mp h]; exact z1
    clear hns0 e8 e9 O8 hp7 hl2
    refine ⟨fun m σ H'' => ∃ ns : List Int, σ = [some (.ref s0), some (.int size), some (.ref M), some (.int c), some (.ref D), some (.ref L), some (.ref p3), none, none, none] ∧ Ov s0 q (B + 12 + 40 * i + 1 + 3 * ns.length) G H'' ∧
      H'' M = some (.lst (menuI.map V.int)) ∧ H'' D = some (.lst (cs.map fun c : Nat => V.int (c : Int))) ∧ H'' L = some (.lst (as.map V.ref)) ∧ RowsIn H'' as R ∧ H'' p3 = some (.lst (ns.map V.int)) ∧ c < ns.length ∧ ns.length + m = size ∧
      (∀ i, i < c → ns.getD i 0 = 0) ∧ 0 < ns.getD c 0 ∧ ∀ x ∈ ns, x.natAbs ≤ 10 ^ 40, ⟨size - (c + 1), ns0, rfl, O9.more (by omega), hM9, hD9, hL9, hR9, hp9, by omega, by omega, z0', c0', b0'⟩, ?_⟩
    rintro m σ H'' ⟨ns, rfl, Oa, hMa, hDa, hLa, hRa, hpa, hca, hma, hza, hcpa, hba⟩
    refine ⟨_, rfl, p3, _, rfl, .inl (SqL.of hpa), _, rfl, _, _, rfl, rfl, _, rfl, iteD (fun t => ?_) fun t => ?_⟩
    · rw [List.length_map] at t
      refine ⟨fun σ' H' => ∃ m', m' < m ∧ _, fun _ _ h => h, ?_⟩
      refine ⟨_, rfl, .inl ⟨rfl, _, SqL.of hpa⟩, ?_⟩
      refine ⟨_, rfl, s0, q, _, _, 7, rfl, Oa.all.1, by omega, by decide, by decide, fun y1 Hb y10 y11 Ob => ⟨y1, 3, rfl, rfl, ?_⟩⟩
      have hMb := Ob.l nMs nMq hMa
      have hDb := Ob.l nDs nDq hDa
      have hLb := Ob.l nLs nLq hLa
      have hpb := Ob.l n3s n3q hpa
      have hRb := hRa.mono (fun a xs h => Oa.t Ob h)
      have Ob := Oa.g Ob
      refine ⟨_, rfl, 10, 20, rfl, rfl, ⟨by decide, by decide, by decide⟩, s0, q, _, _, _, rfl, Ob.all.1, by omega, by decide, by decide, fun y2 Hc y20 y21 Oc => ?_⟩
      have hMc := Oc.l nMs nMq hMb
      have hDc := Oc.l nDs nDq hDb
      have hLc := Oc.l nLs nLq hLb
      have hpc := Oc.l n3s n3q hpb
      have hRc := hRb.mono (fun a xs h => Ob.t Oc h)
      have Oc := Ob.g Oc
      refine ⟨by show 3 ≤ sizeLine; decide, fun l4 hl4 => ?_⟩
      have e4 := Ex.new (o := .lst [.int 0, .int (y1 - 3), .int y2]) hl4
      obtain ⟨n4s, n4q⟩ := Oc.ns hl4
      have Od := Oc.ex e4
      refine ⟨_, rfl, s0, q, _, _, 3, rfl, Od.all.1, by omega, by decide, by decide, fun y3 He y30 y31 Oe => ?_⟩
      have hMe := Oe.l nMs nMq (e4 _ _ hMc)
      have hDe := Oe.l nDs nDq (e4 _ _ hDc)
      have hLe := Oe.l nLs nLq (e4 _ _ hLc)
      have hpe := Oe.l n3s n3q (e4 _ _ hpc)
      have h4e := Oe.l n4s n4q (upd_same (H := Hc) (a := l4) (o := .lst [.int 0, .int (y1 - 3), .int y2]))
      have hRe := (hRc.mono fun a xs h => e4 _ _ h).mono (fun a xs h => Od.t Oe h)
      have Oe := Od.g Oe
      obtain ⟨v, hv, hm⟩ := menu (n := 3) y30 y31 (vs := [.int 0, .int (y1 - 3), .int y2]) rfl
      have hvz : ∃ z : Int, v = .int z ∧ z.natAbs ≤ 10 ^ 40 := by
        simp only [List.mem_cons, List.not_mem_nil, or_false] at hm
        rcases hm with h | h | h
        · exact ⟨_, h, by decide⟩
        · exact ⟨_, h, by omega⟩
        · refine ⟨_, h, ?_⟩
          have : (10 : Int) ^ (20 : Int).toNat = 100000000000000000000 := by decide
          omega
      obtain ⟨x, rfl, hx1⟩ := hvz
      refine ixl h4e hv ?_
      refine ⟨p3, _, _, rfl, rfl, hpe, by rw [List.length_map, sizeLine_eq]; omega, ?_⟩
      refine ⟨m - 1, by omega, ns ++ [x], rfl, (Oe.mut g3 n3s n3q).more (by simp; omega), (upd_ne nM3).trans hMe, (upd_ne nD3).trans hDe, (upd_ne nL3).trans hLe, hRe.mono (tk_put hpe), by rw [upd_same, List.map_append]; rfl, by simp; omega, by simp; omega, fun i hi => ?_, ?_, fun y hy => ?_⟩
      · rw [List.getD_eq_getElem?_getD, List.getElem?_append_left (by omega), ← List.getD_eq_getElem?_getD]
        exact hza i hi
      · rw [List.getD_eq_getElem?_getD, List.getElem?_append_left (by omega), ← List.getD_eq_getElem?_getD]
        exact hcpa
      · rcases List.mem_append.mp hy with h | h
        · exact hba y h
        · rw [List.mem_singleton.mp h]; exact hx1
    · rw [List.length_map] at t
      refine ⟨_, rfl, .inl ⟨rfl, _, SqL.of hLa⟩, _, rfl, p3, _, rfl, .inl ⟨SqL.of hpa, fun t ht => ?_⟩⟩
      have e1 := Ex.new (o := .tup (ns.map V.int)) ht
      have nLt : t ≠ L := fun e => by rw [e, hLa] at ht; cases ht
      refine ⟨L, _, _, rfl, rfl, e1 _ _ hLa, by rw [List.length_map, hR.1, hRl, sizeLine_eq]; omega, ?_⟩
      refine ⟨_, _, as ++ [t], R ++ [ns], rfl, ((Oa.ex e1).mut gL nLs nLq).more (by omega), (upd_ne nLM).trans (e1 _ _ hMa), (upd_ne nLD).trans (e1 _ _ hDa), by rw [upd_same, List.map_append]; rfl, ((hRa.mono fun a xs h => e1 _ _ h).mono (tk_put (e1 _ _ hLa))).snoc ((upd_ne nLt).trans upd_same), by simp [hRl], fun j d x hd hx => ?_⟩
      by_cases hj : j < R.length
      · rw [List.getElem?_append_left hj] at hx
        exact hMd j d x hd hx
      · rw [List.getElem?_append_right (by omega)] at hx
        have hj0 : j - R.length = 0 := by
          have := (List.getElem?_eq_some_iff.mp hx).1
          simp at this; omega
        rw [hj0] at hx
        cases hx
        have : j = i := by omega
        subst this
        rw [hc] at hd
        cases hd
        exact ⟨by omega, hza, hcpa, hba⟩
  · obtain ⟨v3, v6, as, R, rfl, O4, hM4, hD4, hL4, hR, hRl, hMd⟩ := p
    rw [List.length_map] at O4 hRl
    have hcsz := hcs.2.2
    have inv0 : RInv size cs R 0 0 := by
      refine ⟨hRl, fun i j c d hij hc hd => hcs.2.1 i j c d hij hc hd, hcs.1, fun j c r hc hr => ?_, fun j l c r r' _ hl => by omega, fun j r _ hr x hx => ?_, fun j r hr x hx => ?_⟩
      · obtain ⟨m1, m2, m3, _⟩ := hMd j c r hc hr
        exact ⟨m1, m2, m3⟩
      · have hj : j < cs.length := by rw [← hRl]; exact (List.getElem?_eq_some_iff.mp hr).1
        exact (hMd j cs[j] r (by simp [hj]) hr).2.2.2 x hx
      · have hj : j < cs.length := by rw [← hRl]; exact (List.getElem?_eq_some_iff.mp hr).1
        exact (hMd j cs[j] r (by simp [hj]) hr).2.2.2 x hx
    have mpos : ∀ n, n ≤ 12 → Bd (n + 1) < 2 ^ 2000 := fun n hn => Nat.lt_of_le_of_lt (Bd_mono (show n + 1 ≤ 13 by omega)) (by decide)
    refine ⟨_, rfl, false, D, _, rfl, SqK.lst hD4, for_it (walk_ek (xs := cs.map fun c : Nat => V.int (c : Int))) (fun low σ H'' => ∃ (v3 v6 v7 v8 v9 : Option V) (as : List Addr) (R : List (List Int)), σ = [some (.ref s0), some (.int size), some (.ref M), v3, some (.ref D), some (.ref L), v6, v7, v8, v9] ∧
        Ov s0 q (B + 1000) G H'' ∧ H'' D = some (.lst (cs.map fun c : Nat => V.int (c : Int))) ∧ H'' L = some (.lst (as.map V.ref)) ∧ RowsIn H'' as R ∧ RInv size cs R low 0)
      ⟨_, _, _, _, _, as, R, rfl, O4.more (by omega), hD4, hL4, hR, inv0⟩ (fun i σ H' _ p => ?_) (fun low x σ H' H6 hi p y => ?_) (fun σ H' p => ?_)⟩
    · obtain ⟨_, _, _, _, _, _, _, rfl, _, h, _⟩ := p
      exact SqK.lst h
    · obtain ⟨v3, v6, v7, v8, v9, as, R, rfl, O5, hD5, hL5, hR5, inv⟩ := p
      obtain ⟨T, x1, y1, rfl, hT, rfl, hx1, hy1⟩ := y
      cases hx1
      rw [List.length_map] at hi
      have hy1 : (cs.map fun c : Nat => V.int (c : Int))[low]? = some y1 := hy1
      rw [List.getElem?_map, List.getElem?_eq_getElem hi] at hy1
      cases hy1
      have hc : cs[low]? = some cs[low] := by simp [hi]
      generalize cs[low] = c at hc
      have eT := Ex.new (o := .tup [.int (low : Nat), .int (c : Int)]) hT
      refine ⟨T, _, rfl, SqT.of upd_same, rfl, _, _, rfl, _, _, rfl, rfl, ?_⟩
      have O6 := O5.ex eT
      have hD6 := eT _ _ hD5
      have hL6 := eT _ _ hL5
      have hR6 := hR5.mono fun a xs h => eT _ _ h
      generalize upd H' T (.tup [.int (low : Nat), .int (c : Int)]) = H7 at eT O6 hD6 hL6 hR6
      refine ⟨_, rfl, (low : Int), rfl, by omega, by omega, ?_⟩
      rw [Int.toNat_natCast]
      refine for_it (walk_range (lo := 0) (n := low)) (fun t σ H'' => ∃ (v6 v8 v9 : Option V) (as : List Addr) (R : List (List Int)), σ = [some (.ref s0), some (.int size), some (.ref M), some (.int (c : Int)), some (.ref D), some (.ref L), v6, some (.int (low : Int)), v8, v9] ∧
        Ov s0 q (B + 1000) G H'' ∧ H'' D = some (.lst (cs.map fun c : Nat => V.int (c : Int))) ∧ H'' L = some (.lst (as.map V.ref)) ∧ RowsIn H'' as R ∧ RInv size cs R low t)
        ⟨_, _, _, as, R, rfl, O6, hD6, hL6, hR6, inv⟩ (fun _ _ _ _ _ => trivial) (fun t x σ H' H8 ht p y => ?_) (fun σ H' p => ?_)
      · obtain ⟨v6, v8, v9, as, R, rfl, O7, hD7, hL7, hR7, inv⟩ := p
        obtain ⟨rfl, rfl⟩ := y
        show gName 8 (V.int (0 + (t : Int))) _ _ _
        rw [Int.zero_add]
        have hlR : low < R.length := by rw [inv.len]; exact hi
        obtain ⟨a, ea, er, ha⟩ := hR7.get (show t < R.length by omega)
        obtain ⟨b, eb, er', hb⟩ := hR7.get hlR
        generalize R[t] = r at er ha
        generalize R[low] = r' at er' hb
        have htc : t < cs.length := by omega
        obtain ⟨l1, _, _⟩ := inv.row t cs[t] r (by simp [htc]) er
        obtain ⟨l2, _, p2⟩ := inv.row low c r' hc er'
        have sm := inv.small low r' (Nat.le_refl _) er'
        have bn := inv.bnd t r er
        have hcs := inv.lt c (List.mem_of_getElem? hc)
        have low12 : low ≤ 12 := by omega
        rw [if_neg (by omega)] at bn
        have hr'c : (r'.getD c 0).natAbs ≤ 10 ^ 40 := by
          rw [List.getD_eq_getElem?_getD, List.getElem?_eq_getElem (by omega)]
          exact sm _ (List.getElem_mem _)
        have hrc : (r.getD c 0).natAbs ≤ Bd low := by
          rw [List.getD_eq_getElem?_getD, List.getElem?_eq_getElem (by omega)]
          exact bn _ (List.getElem_mem _)
        have Ba : atI (as.map V.ref) (t : Int) = some (.ref a) := atI_nat (by rw [List.getElem?_map, ea]; rfl)
        have Bb : atI (as.map V.ref) (low : Int) = some (.ref b) := atI_nat (by rw [List.getElem?_map, eb]; rfl)
        have Ca : atI (r.map V.int) (c : Int) = some (.int (r.getD c 0)) := atI_nat (by simp [show c < r.length by omega])
        have Cb : atI (r'.map V.int) (c : Int) = some (.int (r'.getD c 0)) := atI_nat (by simp [show c < r'.length by omega])
        refine ⟨_, rfl, _, rfl, ixl hL7 Ba ⟨_, rfl, ixt ha Ca ⟨_, rfl, _, rfl, ixl hL7 Bb ⟨_, rfl, ixt hb Cb ⟨_, _, rfl, rfl, ⟨by omega, ?_⟩, ?_⟩⟩⟩⟩⟩
        · exact Nat.lt_of_lt_of_le (PySem.Flt.log2_lt_of (k := 140) (by decide) (Nat.lt_of_le_of_lt hr'c (by decide))) (by decide)
        have hst := inv.step ht hc er er'
        have fb : ((r.getD c 0).fdiv (r'.getD c 0)).natAbs ≤ Bd low := Nat.le_trans (fdiv_natAbs p2) hrc
        obtain ⟨f, hf⟩ : ∃ f, (r.getD c 0).fdiv (r'.getD c 0) = f := ⟨_, rfl⟩
        rw [hf] at hst fb
        have bl2 : Bd low < 2 ^ 2000 := Nat.lt_of_le_of_lt (Bd_mono (by omega)) (mpos low low12)
        refine ⟨_, rfl, 0, f, rfl, (by rw [← hf]), _, rfl, _, rfl, ixl hL7 Bb ⟨_, rfl, _, rfl, ixl hL7 Ba ⟨true, true, b, a, 0 - f, r', r, rfl, SqK.tup hb, SqK.tup ha, by omega, by omega, ?_, fun x hx => ?_, fun H9 p9 e9 hn9 hp9 => ?_⟩⟩⟩
        · show (0 - f).natAbs < _
          rw [Int.zero_sub, Int.natAbs_neg]
          exact Nat.lt_of_le_of_lt fb (Nat.lt_of_lt_of_le bl2 (by decide))
        · exact Nat.lt_of_le_of_lt (sm x hx) (by decide)
        have hL9 := e9 _ _ hL7
        refine ⟨_, rfl, _, rfl, L, _, (t : Int), t, rfl, rfl, hL9, ixN_nat (by rw [List.length_map, hR7.1]; omega), ?_⟩
        have nLD9 : D ≠ L := nLD
        refine ⟨_, _, _, as.set t p9, R.set t (plusI (0 - f) r' r), rfl, (O7.ex e9).mut gL nLs nLq, (upd_ne nLD9).trans (e9 _ _ hD7), ?_, ((hR7.mono fun a xs h => e9 _ _ h).mono (tk_put hL9)).set (tk_put hL9 _ _ hp9), hst⟩
        rw [upd_same, List.map_set]
      · obtain ⟨v6, v8, v9, as, R, rfl, O7, hD7, hL7, hR7, inv⟩ := p
        exact ⟨_, _, _, _, _, as, R, rfl, O7, hD7, hL7, hR7, inv.next⟩
    · obtain ⟨v3, v6, v7, v8, v9, as, R, rfl, O5, hD5, hL5, hR5, inv⟩ := p
      rw [List.length_map] at inv
      refine ⟨_, rfl, L, _, rfl, .inl ⟨SqL.of hL5, fun b hb => ?_⟩⟩
      have eb := Ex.new (o := .tup (as.map V.ref)) hb
      refine kq b as R _ (O5.ex eb) upd_same (hR5.mono fun a xs h => eb _ _ h) (by rw [inv.len]; exact hcsz) (fun r hr => ?_) (inv.isB rfl)
      obtain ⟨j, hj, rfl⟩ := List.mem_iff_getElem.mp hr
      have hjc : j < cs.length := by rw [← inv.len]; exact hj
      exact (inv.row j cs[j] _ (by simp [hjc]) (by simp [hj])).1
end
end K05

set_option maxHeartbeats 4000000
namespace K05
open PySem PySem.Spec PyProof.Rows L2 Hg
/-! ### things that the law makes -/
def AnyRow (G : Hp) (v : V) : Prop := (∃ n, Kd G v n ∧ n ≠ "tuple") ∨ ∃ (a : Addr) (xs : List V), v = .ref a ∧ G a = some (.tup xs) ∧ xs.length ≤ 1000 ∧ ∀ x ∈ xs, ∃ n, Kd G x n
def AnyThing (G : Hp) (v : V) : Prop := (∃ n, Kd G v n ∧ n ≠ "tuple") ∨ ∃ (a : Addr) (rs : List V), v = .ref a ∧ G a = some (.tup rs) ∧ rs.length ≤ 1000 ∧ ∀ r ∈ rs, AnyRow G r
theorem AnyRow.ex {G G' : Hp} {v : V} (e : Ex G G') (h : AnyRow G v) : AnyRow G' v := by
  rcases h with ⟨n, k, hn⟩ | ⟨a, xs, hv, ha, hl, hx⟩
  · exact .inl ⟨n, k.ex e, hn⟩
  · exact .inr ⟨a, xs, hv, e _ _ ha, hl, fun x hm => let ⟨n, k⟩ := hx x hm; ⟨n, k.ex e⟩⟩
theorem AnyThing.ex {G G' : Hp} {v : V} (e : Ex G G') (h : AnyThing G v) : AnyThing G' v := by
  rcases h with ⟨n, k, hn⟩ | ⟨a, xs, hv, ha, hl, hx⟩
  · exact .inl ⟨n, k.ex e, hn⟩
  · exact .inr ⟨a, xs, hv, e _ _ ha, hl, fun x hm => (hx x hm).ex e⟩
theorem AnyRow.d {G : Hp} {v : V} (h : AnyRow G v) (size : Int) : ∃ o, RowD G size v o := by
  rcases h with ⟨n, k, hn⟩ | ⟨a, xs, rfl, ha, hl, hx⟩
  · exact ⟨_, .bad k hn⟩
  · exact ⟨_, .tup ha hl hx⟩
theorem rows_d {G : Hp} (size : Int) : ∀ rs : List V, (∀ r ∈ rs, AnyRow G r) → ∃ os : List (Option (List Int)), rs.length = os.length ∧ ∀ (i : Nat) (r : V) (o : Option (List Int)), rs[i]? = some r → os[i]? = some o → RowD G size r o
  | [], _ => ⟨[], rfl, fun i r o h => by simp at h⟩
  | r :: rs, h => by
    obtain ⟨o, ho⟩ := (h r (by simp)).d size
    obtain ⟨os, h1, h2⟩ := rows_d size rs fun x hx => h x (by simp [hx])
    refine ⟨o :: os, by simp [h1], fun i x y hx hy => ?_⟩
    cases i with
    | zero => cases hx; cases hy; exact ho
    | succ i => exact h2 i x y (by simpa using hx) (by simpa using hy)
theorem AnyThing.d {G : Hp} {v : V} (h : AnyThing G v) (size : Int) : ∃ o, ThingD G size v o := by
  rcases h with ⟨n, k, hn⟩ | ⟨a, rs, rfl, ha, hl, hx⟩
  · exact ⟨_, .bad k hn⟩
  · obtain ⟨os, h1, h2⟩ := rows_d size rs hx
    exact ⟨_, .tup ha hl h1 h2⟩
theorem AnyRow.ints {G : Hp} {a : Addr} {r : List Int} (h : G a = some (.tup (r.map V.int))) (hl : r.length ≤ 1000) : AnyRow G (.ref a) :=
  .inr ⟨a, _, rfl, h, by rw [List.length_map]; exact hl, fun x hx => by obtain ⟨z, _, rfl⟩ := List.mem_map.mp hx; exact ⟨_, .int z⟩⟩
def sp_l_any (K : PySem.W.Frag) : Sp := fun vs H Q _ => ∃ (s q : Addr) (B : Nat) (G : Hp), vs = [.ref s] ∧ Ov s q B G H ∧ B < 900000 ∧ ∀ (v : V) (G' H' : Hp), Ex G G' → Ov s q (B + 1) G' H' → AnyThing G' v → (∃ n, Kd G' v n) → Q v H'
section
variable {P : Program} {w : World} {K : PySem.W.Frag} {mg : Str → Option Value} {base : Heap}
theorem ok_l_any {f : Addr} {fd : FuncData} (F : DefK K mg "_law_any" st_l_any ["_law_stream"] f fd) (Z : Zs mg) {f_l_draw : Addr} {fd_l_draw : FuncData} (D_l_draw : DefK K mg "_law_draw" st_l_draw ["_law_stream", "_law_count"] f_l_draw fd_l_draw) (G_l_draw : FnOk P w K mg base CX0 1 f_l_draw fd_l_draw ["_law_stream", "_law_count"] (sp_l_draw K)) :
    FnOk P w K mg base CX0 2 f fd ["_law_stream"] (sp_l_any K) := by
  refine F.fn.ok sc_l_any (fun vs H Q E h => by first | (obtain ⟨rfl, _⟩ := h; rfl) | (obtain ⟨_, rfl, _⟩ := h; rfl) | (obtain ⟨_, _, rfl, _⟩ := h; rfl) | (obtain ⟨_, _, _, rfl, _⟩ := h; rfl) | (obtain ⟨_, _, _, _, rfl, _⟩ := h; rfl) | (obtain ⟨_, _, _, _, _, rfl, _⟩ := h; rfl) | (obtain ⟨_, _, _, _, _, _, rfl, _⟩ := h; rfl) | (obtain ⟨_, _, _, _, _, _, _, rfl, _⟩ := h; rfl) | (obtain ⟨_, _, _, _, _, _, _, _, rfl, _⟩ := h; rfl) | (obtain ⟨_, _, _, _, _, _, _, _, _, rfl, _⟩ := h; rfl) | (obtain ⟨_, _, _, _, _, _, _, _, _, _, rfl, _⟩ := h; rfl) | (obtain ⟨_, _, _, _, _, _, _, _, _, _, _, rfl, _⟩ := h; rfl) | (obtain ⟨_, _, _, _, _, _, _, _, _, _, _, _, rfl, _⟩ := h; rfl) | (obtain ⟨_, _, _, _, _, _, _, _, _, _, _, _, _, rfl, _⟩ := h; rfl)) (fun cdv A outer s H vs Q E hr h => ?_)
  obtain ⟨s0, q, B, G, rfl, O, hB, kq⟩ := h
  refine ⟨_, (pss_cons (ps_set (i := 1) sc_l_any.nd rfl (.inl rfl) (pe_lst (pa_cons pe_non (pa_cons pe_bl (pa_cons pe_bl (pa_cons pe_int (pa_cons pe_int (pa_cons (pe_un un_neg pe_int) (pa_cons pe_int (pa_cons (pe_op op_pow pe_int pe_int) (pa_cons pe_str (pa_cons pe_str (pa_cons (pe_tup pa_nil) (pa_cons (pe_lst pa_nil) (pa_cons (pe_tup (pa_cons pe_int pa_nil)) (pa_cons (pe_lst (pa_cons pe_int pa_nil)) (pa_cons (pe_tup (pa_cons pe_bl pa_nil)) (pa_cons (pe_tup (pa_cons pe_str pa_nil)) (pa_cons (pe_tup (pa_cons (pe_tup (pa_cons pe_int pa_nil)) pa_nil)) (pa_cons pe_str pa_nil))))))))))))))))))))
      (pss_one (ps_ret (pe_ix (kIx (K := K)) (pv 1) (pe_call G_l_draw (hr.mono (by decide)) rfl D_l_draw.mg D_l_draw.fn.kp D_l_draw.bd .nil pass0 (pa_cons (pv 0) (pa_cons pe_int pa_nil))) (fun _ _ => rfl))))), ?_⟩
  refine ⟨1, rfl, 10, 30, rfl, rfl, ⟨by decide, by decide, by decide⟩, ?_⟩
  refine ⟨Nat.zero_le _, fun p1 h1 => ⟨Nat.zero_le _, fun p2 h2 => ⟨by show 1 ≤ sizeLine; decide, fun p3 h3 => ⟨by show 1 ≤ sizeLine; decide, fun p4 h4 => ⟨by show 1 ≤ sizeLine; decide, fun p5 h5 => ⟨by show 1 ≤ sizeLine; decide, fun p6 h6 => ⟨by show 1 ≤ sizeLine; decide, fun p7 h7 => ⟨by show 1 ≤ sizeLine; decide, fun p8 h8 => ⟨by show 18 ≤ sizeLine; decide, fun l hl => ?_⟩⟩⟩⟩⟩⟩⟩⟩⟩
  have O1 := O.new (o := .tup []) h1
  have O2 := O1.new (o := .lst []) h2
  have O3 := O2.new (o := .tup [.int 0]) h3
  have O4 := O3.new (o := .lst [.int 0]) h4
  have O5 := O4.new (o := .tup [.bl true]) h5
  have O6 := O5.new (o := .tup [.str "a"]) h6
  have O7 := O6.new (o := .tup [.int 1]) h7
  have O8 := O7.new (o := .tup [.ref p7]) h8
  have O9 := O8.new (o := .lst [.non, .bl true, .bl false, .int 0, .int 1, .int (-1), .int 7, .int (10 ^ (30 : Int).toNat), .str "", .str "a", .ref p1, .ref p2, .ref p3, .ref p4, .ref p5, .ref p6, .ref p8, .str "primal"]) hl
  have e8 := Ex.new (o := .lst [.non, .bl true, .bl false, .int 0, .int 1, .int (-1), .int 7, .int (10 ^ (30 : Int).toNat), .str "", .str "a", .ref p1, .ref p2, .ref p3, .ref p4, .ref p5, .ref p6, .ref p8, .str "primal"]) (O8.sub.free hl)
  have e7 := (Ex.new (o := .tup [.ref p7]) (O7.sub.free h8)).trans e8
  have e6 := (Ex.new (o := .tup [.int 1]) (O6.sub.free h7)).trans e7
  have e5 := (Ex.new (o := .tup [.str "a"]) (O5.sub.free h6)).trans e6
  have e4 := (Ex.new (o := .tup [.bl true]) (O4.sub.free h5)).trans e5
  have e3 := (Ex.new (o := .lst [.int 0]) (O3.sub.free h4)).trans e4
  have e2 := (Ex.new (o := .tup [.int 0]) (O2.sub.free h3)).trans e3
  have e1 := (Ex.new (o := .lst []) (O1.sub.free h2)).trans e2
  have e0 := (Ex.new (o := .tup []) (O.sub.free h1)).trans e1
  have f1 := e1 p1 _ upd_same
  have f2 := e2 p2 _ upd_same
  have f3 := e3 p3 _ upd_same
  have f4 := e4 p4 _ upd_same
  have f5 := e5 p5 _ upd_same
  have f6 := e6 p6 _ upd_same
  have f7 := e7 p7 _ upd_same
  have f8 := e8 p8 _ upd_same
  refine ⟨_, rfl, _, rfl, s0, q, B, _, 18, rfl, O9, by omega, by decide, by decide, fun r H1 r0 r1 OO => ?_⟩
  obtain ⟨v, hv, hm⟩ := menu (n := 18) r0 r1 (vs := [.non, .bl true, .bl false, .int 0, .int 1, .int (-1), .int 7, .int (10 ^ (30 : Int).toNat), .str "", .str "a", .ref p1, .ref p2, .ref p3, .ref p4, .ref p5, .ref p6, .ref p8, .str "primal"]) rfl
  have g1 := e0
  have both : AnyThing (upd (upd (upd (upd (upd (upd (upd (upd (upd G p1 (.tup [])) p2 (.lst [])) p3 (.tup [.int 0])) p4 (.lst [.int 0])) p5 (.tup [.bl true])) p6 (.tup [.str "a"])) p7 (.tup [.int 1])) p8 (.tup [.ref p7])) l (.lst [.non, .bl true, .bl false, .int 0, .int 1, .int (-1), .int 7, .int (10 ^ (30 : Int).toNat), .str "", .str "a", .ref p1, .ref p2, .ref p3, .ref p4, .ref p5, .ref p6, .ref p8, .str "primal"])) v ∧ ∃ n, Kd (upd (upd (upd (upd (upd (upd (upd (upd (upd G p1 (.tup [])) p2 (.lst [])) p3 (.tup [.int 0])) p4 (.lst [.int 0])) p5 (.tup [.bl true])) p6 (.tup [.str "a"])) p7 (.tup [.int 1])) p8 (.tup [.ref p7])) l (.lst [.non, .bl true, .bl false, .int 0, .int 1, .int (-1), .int 7, .int (10 ^ (30 : Int).toNat), .str "", .str "a", .ref p1, .ref p2, .ref p3, .ref p4, .ref p5, .ref p6, .ref p8, .str "primal"])) v n := by
    simp only [List.mem_cons, List.not_mem_nil, or_false] at hm
    rcases hm with h | h | h | h | h | h | h | h | h | h | h | h | h | h | h | h | h | h <;> subst h
    · exact ⟨.inl ⟨_, .non, by decide⟩, _, .non⟩
    · exact ⟨.inl ⟨_, .bl _, by decide⟩, _, .bl _⟩
    · exact ⟨.inl ⟨_, .bl _, by decide⟩, _, .bl _⟩
    · exact ⟨.inl ⟨_, .int _, by decide⟩, _, .int _⟩
    · exact ⟨.inl ⟨_, .int _, by decide⟩, _, .int _⟩
    · exact ⟨.inl ⟨_, .int _, by decide⟩, _, .int _⟩
    · exact ⟨.inl ⟨_, .int _, by decide⟩, _, .int _⟩
    · exact ⟨.inl ⟨_, .int _, by decide⟩, _, .int _⟩
    · exact ⟨.inl ⟨_, .str _, by decide⟩, _, .str _⟩
    · exact ⟨.inl ⟨_, .str _, by decide⟩, _, .str _⟩
    · exact ⟨.inr ⟨p1, [], rfl, f1, by decide, fun x hx => absurd hx (by simp)⟩, _, .tup f1⟩
    · exact ⟨.inl ⟨_, .lst f2, by decide⟩, _, .lst f2⟩
    · exact ⟨.inr ⟨p3, _, rfl, f3, by decide, fun x hx => by simp at hx; subst hx; exact .inl ⟨_, .int _, by decide⟩⟩, _, .tup f3⟩
    · exact ⟨.inl ⟨_, .lst f4, by decide⟩, _, .lst f4⟩
    · exact ⟨.inr ⟨p5, _, rfl, f5, by decide, fun x hx => by simp at hx; subst hx; exact .inl ⟨_, .bl _, by decide⟩⟩, _, .tup f5⟩
    · exact ⟨.inr ⟨p6, _, rfl, f6, by decide, fun x hx => by simp at hx; subst hx; exact .inl ⟨_, .str _, by decide⟩⟩, _, .tup f6⟩
    · exact ⟨.inr ⟨p8, [.ref p7], rfl, f8, by show 1 ≤ 1000; decide, fun x hx => by simp at hx; subst hx; exact .inr ⟨p7, _, rfl, f7, by decide, fun y hy => by simp at hy; subst hy; exact ⟨_, .int _⟩⟩⟩, _, .tup f8⟩
    · exact ⟨.inl ⟨_, .str _, by decide⟩, _, .str _⟩
  exact ixl (OO.sub l _ upd_same) hv (kq v _ H1 e0 OO both.1 both.2)
end
end K05

set_option maxHeartbeats 4000000
namespace K05
open PySem PySem.Spec PyProof.Rows L2 Hg
def sp_l_changed (K : PySem.W.Frag) : Sp := fun vs H Q _ => ∃ (s q : Addr) (B : Nat) (G : Hp) (b : Addr) (as : List Addr) (R : List (List Int)) (size : Nat), vs = [.ref s, .ref b, .int size] ∧ Ov s q B G H ∧ B < 800000 ∧ 1 ≤ size ∧ size ≤ 12 ∧
  G b = some (.tup (as.map V.ref)) ∧ RowsIn G as R ∧ R.length ≤ size ∧ (∀ r ∈ R, r.length = size) ∧ ∀ (v : V) (G' H' : Hp), Ex G G' → Ov s q (B + 8) G' H' → AnyThing G' v → Q v H'
theorem AnyRow.putL {G : Hp} {l : Addr} {xs ys : List V} {v : V} (hl : G l = some (.lst xs)) (h : AnyRow G v) : AnyRow (upd G l (.lst ys)) v := by
  rcases h with ⟨n, k, hn⟩ | ⟨a, zs, hv, ha, hz, hx⟩
  · exact .inl ⟨n, k.putL hl, hn⟩
  · exact .inr ⟨a, zs, hv, tk_put hl _ _ ha, hz, fun x hm => let ⟨n, k⟩ := hx x hm; ⟨n, k.putL hl⟩⟩
theorem AnyRow.of {G : Hp} {a : Addr} {xs : List V} (h : G a = some (.tup xs)) (hl : xs.length ≤ 1000) (hx : ∀ x ∈ xs, ∃ n, Kd G x n) : AnyRow G (.ref a) := .inr ⟨a, xs, rfl, h, hl, hx⟩
/-- the menu of rows -/
def Opts (G : Hp) (l : Addr) (vs : List V) : Prop := G l = some (.lst vs) ∧ ∀ v ∈ vs, AnyRow G v
theorem Opts.ex {G G' : Hp} {l : Addr} {vs : List V} (e : Ex G G') (h : Opts G l vs) : Opts G' l vs := ⟨e _ _ h.1, fun v hv => (h.2 v hv).ex e⟩
section
variable {P : Program} {w : World} {K : PySem.W.Frag} {mg : Str → Option Value} {base : Heap}
theorem ok_l_changed {f : Addr} {fd : FuncData} (F : DefK K mg "_law_changed" st_l_changed ["_law_stream", "_law_basis_here", "_law_size"] f fd) (Z : Zs mg) {f_l_draw : Addr} {fd_l_draw : FuncData} (D_l_draw : DefK K mg "_law_draw" st_l_draw ["_law_stream", "_law_count"] f_l_draw fd_l_draw) (G_l_draw : FnOk P w K mg base CX0 1 f_l_draw fd_l_draw ["_law_stream", "_law_count"] (sp_l_draw K)) {f_l_any : Addr} {fd_l_any : FuncData} (D_l_any : DefK K mg "_law_any" st_l_any ["_law_stream"] f_l_any fd_l_any) (G_l_any : FnOk P w K mg base CX0 2 f_l_any fd_l_any ["_law_stream"] (sp_l_any K)) :
    FnOk P w K mg base CX0 3 f fd ["_law_stream", "_law_basis_here", "_law_size"] (sp_l_changed K) := by
  refine F.fn.ok sc_l_changed (fun vs H Q E h => by first | (obtain ⟨rfl, _⟩ := h; rfl) | (obtain ⟨_, rfl, _⟩ := h; rfl) | (obtain ⟨_, _, rfl, _⟩ := h; rfl) | (obtain ⟨_, _, _, rfl, _⟩ := h; rfl) | (obtain ⟨_, _, _, _, rfl, _⟩ := h; rfl) | (obtain ⟨_, _, _, _, _, rfl, _⟩ := h; rfl) | (obtain ⟨_, _, _, _, _, _, rfl, _⟩ := h; rfl) | (obtain ⟨_, _, _, _, _, _, _, rfl, _⟩ := h; rfl) | (obtain ⟨_, _, _, _, _, _, _, _, rfl, _⟩ := h; rfl) | (obtain ⟨_, _, _, _, _, _, _, _, _, rfl, _⟩ := h; rfl) | (obtain ⟨_, _, _, _, _, _, _, _, _, _, rfl, _⟩ := h; rfl) | (obtain ⟨_, _, _, _, _, _, _, _, _, _, _, rfl, _⟩ := h; rfl) | (obtain ⟨_, _, _, _, _, _, _, _, _, _, _, _, rfl, _⟩ := h; rfl) | (obtain ⟨_, _, _, _, _, _, _, _, _, _, _, _, _, rfl, _⟩ := h; rfl)) (fun cdv A outer s H vs Q E hr h => ?_)
  obtain ⟨s0, q, B, G, b, as, R, size, rfl, O, hB, hs1, hs2, hb, hR, hRl, hRs, kq⟩ := h
  refine ⟨_, (pss_cons (ps_set (i := 3) sc_l_changed.nd rfl (.inl rfl) (pe_call G_l_draw (hr.mono (by decide)) rfl D_l_draw.mg D_l_draw.fn.kp D_l_draw.bd .nil pass0 (pa_cons (pv 0) (pa_cons pe_int pa_nil))))
      (pss_cons (ps_if (PW.pt (pw_or (pt_cmpR op_gt (pv 3) pe_int (nomark _)) (pw_or1 (pt_cmpR (kEq (K := K) hr.units) (pv 1) (pe_tup pa_nil) (nomark _))))) (pss_one (ps_ret (pe_ix (kIx (K := K)) (pe_lst (pa_cons (pv 1) (pa_cons (pe_call G_l_any (hr.mono (by decide)) rfl D_l_any.mg D_l_any.fn.kp D_l_any.bd .nil pass0 (pa_cons (pv 0) pa_nil)) pa_nil))) (pe_callTy call_int1 (by rfl) Z.int_ PyProof.Rows.Boot.«int» (pa_cons (pe_cmpR op_gt (pv 3) pe_int (nomark _)) pa_nil)) (fun _ _ => rfl)))) pss_nil)
      (pss_cons (ps_set (i := 4) sc_l_changed.nd rfl (.inl rfl) (pe_call G_l_draw (hr.mono (by decide)) rfl D_l_draw.mg D_l_draw.fn.kp D_l_draw.bd .nil pass0 (pa_cons (pv 0) (pa_cons (pe_callB (kLen (K := K)) (by rfl) Z.len_ PyProof.Rows.Boot.«len» (pa_cons (pv 1) pa_nil)) pa_nil))))
      (pss_cons (ps_set (i := 5) sc_l_changed.nd rfl (.inl rfl) (pe_call G_l_draw (hr.mono (by decide)) rfl D_l_draw.mg D_l_draw.fn.kp D_l_draw.bd .nil pass0 (pa_cons (pv 0) (pa_cons (pv 2) pa_nil))))
      (pss_cons (ps_set (i := 6) sc_l_changed.nd rfl (.inl rfl) (pe_ix (kIx (K := K)) (pv 1) (pv 4) (fun _ _ => rfl)))
      (pss_cons (ps_set (i := 7) sc_l_changed.nd rfl (.inl rfl) (pe_lst (pa_cons (pv 6) (pa_cons (pv 6) (pa_cons (pe_op (kAdd (K := K)) (pe_op (kAdd (K := K)) (pe_slice (kSl (K := K)) (pv 6) po_none (po_some (pv 5))) (pe_tup (pa_cons (pe_op (kAdd (K := K)) (pe_ix (kIx (K := K)) (pv 6) (pv 5) (fun _ _ => rfl)) (pe_ix (kIx (K := K)) (pe_lst (pa_cons pe_int (pa_cons (pe_un un_neg pe_int) pa_nil))) (pe_call G_l_draw (hr.mono (by decide)) rfl D_l_draw.mg D_l_draw.fn.kp D_l_draw.bd .nil pass0 (pa_cons (pv 0) (pa_cons pe_int pa_nil))) (fun _ _ => rfl))) pa_nil))) (pe_slice (kSl (K := K)) (pv 6) (po_some (pe_op (kAdd (K := K)) (pv 5) pe_int)) po_none)) pa_nil)))))
      (pss_cons (ps_set (i := 7) sc_l_changed.nd rfl (.inl rfl) (pe_op (kAdd (K := K)) (pv 7) (pe_lst (pa_cons (pe_callTy (kTup (K := K)) (by rfl) Z.tuple_ PyProof.Rows.Boot.«tuple» (pa_cons (pe_lc (own := [("_law_entry", 9)]) rfl sc_l_changed.nd (kSeq (K := K) (pv 6)) (blkOk_by (N := ["_law_stream", "_law_basis_here", "_law_size", "_law_way", "_law_at", "_law_column", "_law_row", "_law_some", "_law_rows", "_law_entry"]) (sc := defScope st_l_changed) (by decide +kernel)) (fun _ _ _ _ _ => (pg_name (i := 9) sc_l_changed.nd rfl (.inl rfl))) (fun _ _ _ _ _ => pts_nil) (fun _ _ _ _ _ => (pe_op op_sub pe_int (pv 9)))) pa_nil)) (pa_cons (pe_op (kRepU (K := K)) (pe_tup (pa_cons pe_int pa_nil)) (pv 2)) (pa_cons (pe_callTy (kLst (K := K)) (by rfl) Z.list_ PyProof.Rows.Boot.«list» (pa_cons (pv 6) pa_nil)) (pa_cons (pe_op (kAdd (K := K)) (pv 6) (pe_tup (pa_cons pe_int pa_nil))) pa_nil)))))))
      (pss_cons (ps_expr (pe_bm PySem.F.plainAttrs_list PySem.F.slot_list_append PySem.F.type_list_append mt_append (pv 7) (pa_cons (pe_op (kAdd (K := K)) (pe_op (kAdd (K := K)) (pe_slice (kSl (K := K)) (pv 6) po_none (po_some (pv 5))) (pe_tup (pa_cons (pe_call G_l_any (hr.mono (by decide)) rfl D_l_any.mg D_l_any.fn.kp D_l_any.bd .nil pass0 (pa_cons (pv 0) pa_nil)) pa_nil))) (pe_slice (kSl (K := K)) (pv 6) (po_some (pe_op (kAdd (K := K)) (pv 5) pe_int)) po_none)) pa_nil)))
      (pss_cons (ps_set (i := 8) sc_l_changed.nd rfl (.inl rfl) (pe_op (kAdd (K := K)) (pe_op (kAdd (K := K)) (pe_slice (kSl (K := K)) (pv 1) po_none (po_some (pv 4))) (pe_tup (pa_cons (pe_ix (kIx (K := K)) (pv 7) (pe_op oMod (pv 3) pe_int) (fun _ _ => rfl)) pa_nil))) (pe_slice (kSl (K := K)) (pv 1) (po_some (pe_op (kAdd (K := K)) (pv 4) pe_int)) po_none)))
      (pss_cons (ps_if (pt_cmpR (kEq (K := K) hr.units) (pv 3) pe_int (nomark _)) (pss_one (ps_ret (pe_op (kAdd (K := K)) (pe_slice (kSl (K := K)) (pv 1) (po_some (pv 4)) po_none) (pe_slice (kSl (K := K)) (pv 1) po_none (po_some (pv 4)))))) pss_nil)
      (pss_cons (ps_if (pt_cmpR (kEq (K := K) hr.units) (pv 3) pe_int (nomark _)) (pss_one (ps_ret (pe_op (kAdd (K := K)) (pe_slice (kSl (K := K)) (pv 1) po_none (po_some (pv 4))) (pe_slice (kSl (K := K)) (pv 1) (po_some (pe_op (kAdd (K := K)) (pv 4) pe_int)) po_none)))) pss_nil)
      (pss_cons (ps_if (pt_cmpR (kEq (K := K) hr.units) (pv 3) pe_int (nomark _)) (pss_one (ps_ret (pe_ix (kIx (K := K)) (pe_lst (pa_cons (pe_callTy (kLst (K := K)) (by rfl) Z.list_ PyProof.Rows.Boot.«list» (pa_cons (pv 1) pa_nil)) (pa_cons (pe_op (kAdd (K := K)) (pv 1) (pe_tup (pa_cons (pv 6) pa_nil))) pa_nil))) (pe_call G_l_draw (hr.mono (by decide)) rfl D_l_draw.mg D_l_draw.fn.kp D_l_draw.bd .nil pass0 (pa_cons (pv 0) (pa_cons pe_int pa_nil))) (fun _ _ => rfl)))) pss_nil)
      (pss_one (ps_ret (pv 8))))))))))))))), ?_⟩
  have anyB : ∀ v ∈ as.map V.ref, AnyRow G v := by
    intro v hv
    obtain ⟨a, ha, rfl⟩ := List.mem_map.mp hv
    obtain ⟨i, hi, rfl⟩ := List.mem_iff_getElem.mp ha
    have hiR : i < R.length := by rw [← hR.1]; exact hi
    exact AnyRow.ints (hR.2 i _ R[i] (by simp [hi]) (by simp [hiR])) (by rw [hRs _ (List.getElem_mem _)]; omega)
  refine ⟨_, rfl, s0, q, _, _, 12, rfl, O, by omega, by decide, by decide, fun way H1 w0 w1 O1 => ?_⟩
  refine ⟨_, rfl, way, 8, rfl, rfl, _, rfl, iteD (fun c => iteT ?_) fun c => ?_⟩
  · refine ⟨_, rfl, _, rfl, s0, q, _, _, rfl, O1, by omega, fun v G' H' eG O' kv _ => ⟨by show 2 ≤ sizeLine; decide, fun l hl => ⟨_, rfl, _, _, rfl, rfl, .inr ⟨_, rfl, ?_⟩⟩⟩⟩
    have hbG := eG _ _ hb
    by_cases cw : 10 < way
    · rw [decide_eq_true cw]
      exact ixl upd_same (atI_nat (j := 1) rfl) (kq v G' _ eG ((O'.more (by omega)).ex (Ex.new hl)) kv)
    · rw [decide_eq_false cw]
      exact ixl upd_same (atI_nat (j := 0) rfl) (kq (.ref b) G' _ eG ((O'.more (by omega)).ex (Ex.new hl)) (.inr ⟨b, _, rfl, hbG, by rw [List.length_map, hR.1]; omega, fun x hx => (anyB x hx).ex eG⟩))
  refine ⟨_, rfl, Nat.zero_le _, fun p0 hp0 => ?_⟩
  have O2 := O1.drop (o := .tup []) hp0
  have hb2 := O2.sub _ _ hb
  refine .inr ⟨_, _, .tup (SqT.of hb2) (dp_rows as R (hR.mono fun a xs h => O2.sub _ _ h)), .tup (SqT.of upd_same) .nil, shaped_rows R, shaped_t [], _, rfl, ?_⟩
  rw [eqv_rows_nil]
  refine iteD (fun c => ?_) fun hne => ?_
  · refine ⟨_, rfl, _, rfl, s0, q, _, _, rfl, O2, by omega, fun v G' H' eG O' kv _ => ⟨by show 2 ≤ sizeLine; decide, fun l hl => ⟨_, rfl, _, _, rfl, rfl, .inr ⟨_, rfl, ?_⟩⟩⟩⟩
    have hbG := eG _ _ hb
    by_cases cw : 10 < way
    · rw [decide_eq_true cw]
      exact ixl upd_same (atI_nat (j := 1) rfl) (kq v G' _ eG ((O'.more (by omega)).ex (Ex.new hl)) kv)
    · rw [decide_eq_false cw]
      exact ixl upd_same (atI_nat (j := 0) rfl) (kq (.ref b) G' _ eG ((O'.more (by omega)).ex (Ex.new hl)) (.inr ⟨b, _, rfl, hbG, by rw [List.length_map, hR.1]; omega, fun x hx => (anyB x hx).ex eG⟩))
  have hRp : 0 < R.length := by cases R with | nil => exact absurd rfl hne | cons _ _ => simp
  have hal : as.length = R.length := hR.1
  -- at, column
  refine ⟨_, rfl, _, rfl, b, _, rfl, .inr (SqT.of hb2), s0, q, _, _, _, rfl, O2, by omega, by rw [List.length_map]; omega, by rw [List.length_map]; exact Nat.lt_of_lt_of_le (show ((as.length : Nat) : Int).natAbs < 16 by omega) (by decide), fun at_ H3 a0 a1 O3 => ?_⟩
  rw [List.length_map] at a1
  obtain ⟨n, rfl⟩ := Int.eq_ofNat_of_zero_le a0
  have hn : n < R.length := by omega
  refine ⟨_, rfl, _, rfl, s0, q, _, _, _, rfl, O3, by omega, by omega, Nat.lt_of_lt_of_le (show ((size : Nat) : Int).natAbs < 16 by omega) (by decide), fun col H4 b0 b1 O4 => ?_⟩
  obtain ⟨c', rfl⟩ := Int.eq_ofNat_of_zero_le b0
  have hc' : c' < size := by omega
  obtain ⟨ra, era, err, hra⟩ := hR.get hn
  have hrl : R[n].length = size := hRs _ (List.getElem_mem _)
  generalize R[n] = r at err hra hrl
  refine ⟨_, rfl, _, rfl, ixt (O4.sub _ _ hb) (atI_nat (v := .ref ra) (by rw [List.getElem?_map, era]; rfl)) ?_⟩
  have hra4 := O4.sub _ _ hra
  have hint : ∀ (G' : Hp) (x : V) (lo hi : Option Int), x ∈ cutV (r.map V.int) lo hi → ∃ n, Kd G' x n := by
    intro G' x lo hi hx
    obtain ⟨z, _, rfl⟩ := List.mem_map.mp (mem_cutV hx)
    exact ⟨_, .int z⟩
  have hcl : ∀ lo hi, (cutV (r.map V.int) lo hi).length ≤ 12 := by
    intro lo hi
    have := cutV_length (r.map V.int) lo hi
    rw [List.length_map] at this
    omega
  have hbl : ∀ lo hi, (cutV (as.map V.ref) lo hi).length ≤ 12 := by
    intro lo hi
    have := cutV_length (as.map V.ref) lo hi
    rw [List.length_map] at this
    omega
  have hrc : atI (r.map V.int) (c' : Int) = some (.int (r.getD c' 0)) := atI_nat (by simp [show c' < r.length by omega])
  -- some, the first three
  refine ⟨_, rfl, _, rfl, _, rfl, _, rfl, _, rfl, sl_t hra4 fun p5 H5 e5 hp5 => ?_⟩
  obtain ⟨G5, g5, O5, hg5⟩ := O4.sync e5 hp5
  refine ⟨_, rfl, _, rfl, ixt (O5.sub _ _ (g5 _ _ hra)) hrc ⟨1, rfl, by show 2 ≤ sizeLine; decide, fun l6 hl6 => ⟨_, rfl, s0, q, _, _, 2, rfl, O5.new hl6, by omega, by decide, by decide, fun z H7 z0 z1 O7 => ?_⟩⟩⟩
  obtain ⟨v, hv, hm⟩ := menu (n := 2) z0 z1 (vs := [.int 1, .int (-1)]) rfl
  have hvz : ∃ z : Int, v = .int z := by
    simp only [List.mem_cons, List.not_mem_nil, or_false] at hm
    rcases hm with h | h <;> exact ⟨_, h⟩
  obtain ⟨zz, rfl⟩ := hvz
  refine ixl (O7.sub _ _ upd_same) hv (.inl ⟨_, _, rfl, rfl, by show 1 ≤ sizeLine; decide, fun t8 ht8 => ?_⟩)
  have O7 := O7.weak (Ex.new (O5.sub.free hl6))
  obtain ⟨G8, g8, O8, hg8⟩ := O7.sync (Ex.new ht8) upd_same
  have e8 := g5.trans g8
  refine cat_t (O8.sub _ _ (g8 _ _ hg5)) (O8.sub _ _ hg8) (by have := hcl none (some (c' : Int)); simp; omega) fun p9 H9 e9 hp9 => ?_
  obtain ⟨G9, g9, O9, hg9⟩ := O8.sync e9 hp9
  refine ⟨_, rfl, _, rfl, .inl ⟨_, _, rfl, rfl, _, rfl, sl_t (O9.sub _ _ ((e8.trans g9) _ _ hra)) fun p10 H10 e10 hp10 => ?_⟩⟩
  obtain ⟨G10, g10, O10, hg10⟩ := O9.sync e10 hp10
  refine cat_t (O10.sub _ _ (g10 _ _ hg9)) (O10.sub _ _ hg10) (by have := hcl none (some (c' : Int)); have := hcl (some ((c' : Int) + 1)) none; simp only [List.length_append, List.length_cons, List.length_nil]; omega) fun p11 H11 e11 hp11 => ?_
  obtain ⟨G11, g11, O11, hg11⟩ := O10.sync e11 hp11
  have e11' := ((e8.trans g9).trans g10).trans g11
  have row11 : AnyRow G11 (.ref p11) := by
    refine AnyRow.of hg11 (by have := hcl none (some (c' : Int)); have := hcl (some ((c' : Int) + 1)) none; simp only [List.length_append, List.length_cons, List.length_nil]; omega) fun x hx => ?_
    rcases List.mem_append.mp hx with hx | hx
    · rcases List.mem_append.mp hx with hx | hx
      · exact hint _ _ _ _ hx
      · rw [List.mem_singleton.mp hx]; exact ⟨_, .int _⟩
    · exact hint _ _ _ _ hx
  refine ⟨by show 3 ≤ sizeLine; decide, fun l12 hl12 => ?_⟩
  obtain ⟨G12, g12, O12, hg12⟩ := O11.syncL (Ex.new hl12) hl12 upd_same
  have E12 := e11'.trans g12
  have op12 : Opts G12 l12 [.ref ra, .ref ra, .ref p11] := by
    refine ⟨hg12, fun v hv => ?_⟩
    have rowra : AnyRow G12 (.ref ra) := AnyRow.ints (E12 _ _ hra) (by omega)
    simp only [List.mem_cons, List.not_mem_nil, or_false] at hv
    rcases hv with h | h | h <;> subst h
    · exact rowra
    · exact rowra
    · exact row11.ex g12
  clear hg12 row11
  generalize upd H11 l12 (.lst [.ref ra, .ref ra, .ref p11]) = H12 at O12
  -- some, four more
  refine ⟨_, rfl, _, rfl, true, ra, _, rfl, SqK.tup (O12.sub _ _ (E12 _ _ hra)), fun D hD => ?_⟩
  refine lc_pure (walk_k (xs := r.map V.int)) hD (fun _ => true) (fun i => .int (0 - r.getD i 0)) (by simp; omega) (fun _ e => e.seq (SqK.tup (O12.sub _ _ (E12 _ _ hra)))) (fun i x Hc Hy hi e y Qe Qn qe qn => ?_) (fun H13 e13 hL => ?_)
  · obtain ⟨rfl, hx⟩ := y
    obtain ⟨z1, hz1, rfl⟩ := ints_at hx
    have e1 : r.getD i 0 = z1 := by rw [List.getD_eq_getElem?_getD, hz1]; rfl
    rw [e1] at qe
    exact ⟨rfl, _, rfl, 0, z1, rfl, rfl, qe rfl _ (Ex.refl _)⟩
  have hL : H13 D = some (.lst ((picked (fun _ => true) (fun i => 0 - r.getD i 0) (r.map V.int).length).map V.int)) := by rw [hL, picked_map]
  have hLl := picked_len (fun _ => true) (fun i => 0 - r.getD i 0) (r.map V.int).length
  rw [List.length_map] at hLl hL
  generalize picked (fun _ => true) (fun i => 0 - r.getD i 0) r.length = ngs at hL hLl
  have O13 := O12.ex e13
  refine ⟨D, _, rfl, .inl ⟨SqL.of hL, fun t14 ht14 => ?_⟩⟩
  obtain ⟨G14, g14, O14, hg14⟩ := O13.sync (Ex.new ht14) upd_same
  have row14 : AnyRow G14 (.ref t14) := AnyRow.ints (r := ngs) hg14 (by omega)
  clear hg14
  refine ⟨by show 1 ≤ sizeLine; decide, fun t15 ht15 => ⟨_, rfl, rep_t upd_same hs1 (by omega) fun p16 H16 e16 hp16 => ?_⟩⟩
  obtain ⟨G16, g16, O16, hg16⟩ := (O14.drop (o := .tup [.int 0]) ht15).sync e16 hp16
  have row16 : AnyRow G16 (.ref p16) := AnyRow.of hg16 (by simp; omega) fun x hx => by rw [(List.mem_replicate.mp hx).2]; exact ⟨_, .int _⟩
  have E16 := (E12.trans g14).trans g16
  refine ⟨_, rfl, ra, _, rfl, .inr (SqT.of (O16.sub _ _ (E16 _ _ hra))), fun l17 hl17 => ?_⟩
  obtain ⟨G17, g17, O17, hg17⟩ := O16.syncL (o := .lst (r.map V.int)) (Ex.new hl17) hl17 upd_same
  have row17 : AnyRow G17 (.ref l17) := .inl ⟨_, .lst hg17, by decide⟩
  clear hg17
  refine ⟨_, rfl, by show 1 ≤ sizeLine; decide, fun t18 ht18 => ?_⟩
  have O18 := O17.new (o := .tup [.int 0]) ht18
  refine cat_t (O18.sub _ _ ((Ex.new (O17.sub.free ht18)) _ _ ((E16.trans g17) _ _ hra))) upd_same (by simp; omega) fun p19 H19 e19 hp19 => ?_
  obtain ⟨G19, g19, O19, hg19⟩ := (O17.drop (o := .tup [.int 0]) ht18).sync e19 hp19
  have row19 : AnyRow G19 (.ref p19) := by
    refine AnyRow.of hg19 (by simp; omega) fun x hx => ?_
    rcases List.mem_append.mp hx with hx | hx
    · obtain ⟨z, _, rfl⟩ := List.mem_map.mp hx
      exact ⟨_, .int z⟩
    · rw [List.mem_singleton.mp hx]; exact ⟨_, .int _⟩
  have E19 := (E16.trans g17).trans g19
  refine ⟨by show 4 ≤ sizeLine; decide, fun l20 hl20 => ?_⟩
  obtain ⟨G20, g20, O20, hg20⟩ := O19.syncL (Ex.new hl20) hl20 upd_same
  have op20 := (((((op12.ex g14).ex g16).ex g17).ex g19).ex g20)
  refine cat_l (O20.sub _ _ op20.1) (O20.sub _ _ hg20) (by show 3 + 4 ≤ 100000; decide) fun l21 H21 e21 hn21 hp21 => ?_
  obtain ⟨G21, g21, O21, hg21⟩ := O20.syncL e21 hn21 hp21
  have E21 := (E19.trans g20).trans g21
  have op21 : Opts G21 l21 ([.ref ra, .ref ra, .ref p11] ++ [.ref t14, .ref p16, .ref l17, .ref p19]) := by
    refine ⟨hg21, fun v hv => ?_⟩
    rcases List.mem_append.mp hv with hv | hv
    · exact (op20.ex g21).2 v hv
    · simp only [List.mem_cons, List.not_mem_nil, or_false] at hv
      rcases hv with h | h | h | h <;> subst h
      · exact (((((row14.ex g16).ex g17).ex g19).ex g20).ex g21)
      · exact ((((row16.ex g17).ex g19).ex g20).ex g21)
      · exact (((row17.ex g19).ex g20).ex g21)
      · exact ((row19.ex g20).ex g21)
  clear row14 row16 row17 row19 op20 op12 hg19 hg16 hg20 hg21
  -- some.append(..)
  have gl21 : G l21 = none := (E19.trans g20).free (O20.sub.free hn21)
  have a80 : (((as.map V.ref).length : Nat) : Int) = as.length := by rw [List.length_map]
  unfold gName
  dsimp only
  refine cut (fun σ' H' => ∃ (G' : Hp) (vs : List V), σ' = [some (.ref s0), some (.ref b), some (.int (size : Int)), some (.int way), some (.int (n : Int)), some (.int (c' : Int)), some (.ref ra), some (.ref l21), none, none] ∧ Ov s0 q (B + 5) G' H' ∧ Ex G G' ∧ Opts G' l21 vs ∧ vs.length = 8) ?_ ?_
  · clear op21 O21 e21 hp21 hn21 O20 O19 O18 O17 O16 O14 O13 O12 O11 O10 O9 O8 O7 O5 O4 O3 O2 O1 O E21 E19 E16 E12 gl21
    rintro σ' H' ⟨G', vs, rfl, O', eG, opt, hvs⟩
    have anyT : ∀ (G'' : Hp) (p : Addr) (xs : List V), Ex G G'' → G'' p = some (.tup xs) → xs.length ≤ 1000 → (∀ x ∈ xs, (∃ lo hi, x ∈ cutV (as.map V.ref) lo hi) ∨ AnyRow G'' x) → AnyThing G'' (.ref p) := by
      intro G'' p xs e h hl hx
      refine .inr ⟨p, xs, rfl, h, hl, fun x hm => ?_⟩
      rcases hx x hm with ⟨lo, hi, h1⟩ | h1
      · exact (anyB x (mem_cutV h1)).ex e
      · exact h1
    -- rows
    refine ⟨_, rfl, _, rfl, _, rfl, sl_t (O'.sub _ _ (eG _ _ hb)) fun p1 H1 e1 hp1 => ?_⟩
    obtain ⟨G1, g1, O1, hg1⟩ := O'.sync e1 hp1
    have hw : 0 ≤ way.fmod 8 ∧ way.fmod 8 < 8 := by
      rw [Int.fmod_eq_emod_of_nonneg _ (by decide)]
      exact ⟨Int.emod_nonneg _ (by decide), Int.emod_lt_of_pos _ (by decide)⟩
    obtain ⟨v, hv, hm⟩ := menu (n := 8) hw.1 hw.2 hvs
    refine ⟨_, rfl, _, rfl, way, 8, rfl, rfl, (show (8 : Int) ≠ 0 by decide), ixl (O1.sub _ _ (g1 _ _ opt.1)) hv ⟨by show 1 ≤ sizeLine; decide, fun t2 ht2 => ?_⟩⟩
    obtain ⟨G2, g2, O2, hg2⟩ := O1.sync (Ex.new ht2) upd_same
    refine cat_t (O2.sub _ _ (g2 _ _ hg1)) (O2.sub _ _ hg2) (by have := hbl none (some (n : Int)); simp only [List.length_cons, List.length_nil]; omega) fun p3 H3 e3 hp3 => ?_
    obtain ⟨G3, g3, O3, hg3⟩ := O2.sync e3 hp3
    have E3 := ((eG.trans g1).trans g2).trans g3
    refine ⟨_, rfl, _, rfl, .inl ⟨_, _, rfl, rfl, _, rfl, sl_t (O3.sub _ _ (E3 _ _ hb)) fun p4 H4 e4 hp4 => ?_⟩⟩
    obtain ⟨G4, g4, O4, hg4⟩ := O3.sync e4 hp4
    refine cat_t (O4.sub _ _ (g4 _ _ hg3)) (O4.sub _ _ hg4) (by have := hbl none (some (n : Int)); have := hbl (some ((n : Int) + 1)) none; simp only [List.length_append, List.length_cons, List.length_nil]; omega) fun p5 H5 e5 hp5 => ?_
    obtain ⟨G5, g5, O5, hg5⟩ := O4.sync e5 hp5
    have E5 := (E3.trans g4).trans g5
    have th5 : AnyThing G5 (.ref p5) := by
      refine anyT G5 p5 _ E5 hg5 (by have := hbl none (some (n : Int)); have := hbl (some ((n : Int) + 1)) none; simp only [List.length_append, List.length_cons, List.length_nil]; omega) fun x hx => ?_
      rcases List.mem_append.mp hx with hx | hx
      · rcases List.mem_append.mp hx with hx | hx
        · exact .inl ⟨_, _, hx⟩
        · rw [List.mem_singleton.mp hx]
          exact .inr ((((((opt.2 v hm).ex g1).ex g2).ex g3).ex g4).ex g5)
      · exact .inl ⟨_, _, hx⟩
    clear O1 O2 O3 O4 hg1 hg2 hg3 hg4
    -- way == 0
    refine ⟨_, rfl, .inl ⟨rfl, _, rfl, iteV (fun c => ?_) fun c0 => ?_⟩⟩
    · refine ⟨_, rfl, _, rfl, _, rfl, sl_t (O5.sub _ _ (E5 _ _ hb)) fun p6 H6 e6 hp6 => ?_⟩
      obtain ⟨G6, g6, O6, hg6⟩ := O5.sync e6 hp6
      refine ⟨_, rfl, _, rfl, _, rfl, sl_t (O6.sub _ _ ((E5.trans g6) _ _ hb)) fun p7 H7 e7 hp7 => ?_⟩
      obtain ⟨G7, g7, O7, hg7⟩ := O6.sync e7 hp7
      refine cat_t (O7.sub _ _ (g7 _ _ hg6)) (O7.sub _ _ hg7) (by have := hbl none (some (n : Int)); have := hbl (some (n : Int)) none; omega) fun p8 H8 e8 hp8 => ?_
      obtain ⟨G8, g8, O8, hg8⟩ := O7.sync e8 hp8
      have E8 := ((E5.trans g6).trans g7).trans g8
      refine kq _ G8 _ E8 (O8.more (by omega)) (anyT G8 p8 _ E8 hg8 (by have := hbl none (some (n : Int)); have := hbl (some (n : Int)) none; rw [List.length_append]; omega) fun x hx => ?_)
      rcases List.mem_append.mp hx with hx | hx
      · exact .inl ⟨_, _, hx⟩
      · exact .inl ⟨_, _, hx⟩
    -- way == 1
    refine ⟨_, rfl, .inl ⟨rfl, _, rfl, iteV (fun c => ?_) fun c1 => ?_⟩⟩
    · refine ⟨_, rfl, _, rfl, _, rfl, sl_t (O5.sub _ _ (E5 _ _ hb)) fun p6 H6 e6 hp6 => ?_⟩
      obtain ⟨G6, g6, O6, hg6⟩ := O5.sync e6 hp6
      refine ⟨_, rfl, _, rfl, .inl ⟨_, _, rfl, rfl, _, rfl, sl_t (O6.sub _ _ ((E5.trans g6) _ _ hb)) fun p7 H7 e7 hp7 => ?_⟩⟩
      obtain ⟨G7, g7, O7, hg7⟩ := O6.sync e7 hp7
      refine cat_t (O7.sub _ _ (g7 _ _ hg6)) (O7.sub _ _ hg7) (by have := hbl none (some (n : Int)); have := hbl (some ((n : Int) + 1)) none; omega) fun p8 H8 e8 hp8 => ?_
      obtain ⟨G8, g8, O8, hg8⟩ := O7.sync e8 hp8
      have E8 := ((E5.trans g6).trans g7).trans g8
      refine kq _ G8 _ E8 (O8.more (by omega)) (anyT G8 p8 _ E8 hg8 (by have := hbl none (some (n : Int)); have := hbl (some ((n : Int) + 1)) none; rw [List.length_append]; omega) fun x hx => ?_)
      rcases List.mem_append.mp hx with hx | hx
      · exact .inl ⟨_, _, hx⟩
      · exact .inl ⟨_, _, hx⟩
    -- way == 8
    refine ⟨_, rfl, .inl ⟨rfl, _, rfl, iteV (fun c => ?_) fun c8 => ?_⟩⟩
    · refine ⟨_, rfl, b, _, rfl, .inr (SqT.of (O5.sub _ _ (E5 _ _ hb))), fun l6 hl6 => ?_⟩
      obtain ⟨G6, g6, O6, hg6⟩ := O5.syncL (o := .lst (as.map V.ref)) (Ex.new hl6) hl6 upd_same
      have th6 : AnyThing G6 (.ref l6) := .inl ⟨_, .lst hg6, by decide⟩
      refine ⟨_, rfl, _, rfl, by show 1 ≤ sizeLine; decide, fun t7 ht7 => ?_⟩
      obtain ⟨G7, g7, O7, hg7⟩ := O6.sync (Ex.new ht7) upd_same
      have E7 := (E5.trans g6).trans g7
      refine cat_t (O7.sub _ _ (E7 _ _ hb)) (O7.sub _ _ hg7) (by rw [List.length_map]; simp only [List.length_cons, List.length_nil]; omega) fun p8 H8 e8 hp8 => ?_
      obtain ⟨G8, g8, O8, hg8⟩ := O7.sync e8 hp8
      have E8 := E7.trans g8
      have th8 : AnyThing G8 (.ref p8) := by
        refine .inr ⟨p8, _, rfl, hg8, by rw [List.length_append, List.length_map]; simp only [List.length_cons, List.length_nil]; omega, fun x hx => ?_⟩
        rcases List.mem_append.mp hx with hx | hx
        · exact (anyB x hx).ex E8
        · rw [List.mem_singleton.mp hx]; exact AnyRow.ints (E8 _ _ hra) (by omega)
      refine ⟨by show 2 ≤ sizeLine; decide, fun l9 hl9 => ?_⟩
      obtain ⟨G9, g9, O9, hg9⟩ := O8.syncL (o := .lst [.ref l6, .ref p8]) (Ex.new hl9) hl9 upd_same
      refine ⟨_, rfl, s0, q, _, _, 2, rfl, O9, by omega, by decide, by decide, fun z H10 z0 z1 O10 => ?_⟩
      obtain ⟨v, hv, hm⟩ := menu (n := 2) z0 z1 (vs := [.ref l6, .ref p8]) rfl
      refine ixl (O10.sub _ _ hg9) hv (kq v G9 _ (E8.trans g9) (O10.more (by omega)) ?_)
      simp only [List.mem_cons, List.not_mem_nil, or_false] at hm
      rcases hm with h | h <;> subst h
      · exact ((th6.ex g7).ex g8).ex g9
      · exact th8.ex g9
    exact ⟨_, rfl, kq _ G5 _ E5 (O5.more (by omega)) th5⟩
  intro N hN
  refine ⟨_, rfl, .inl ⟨rfl, _, SqL.of (O21.sub _ _ op21.1)⟩, _, rfl, _, rfl, _, rfl, sl_t (O21.sub _ _ (E21 _ _ hra)) fun p22 H22 e22 hp22 => ?_⟩
  obtain ⟨G22, g22, O22, hg22⟩ := O21.sync e22 hp22
  refine ⟨_, rfl, s0, q, _, _, rfl, O22, by omega, fun vv G23 H23 g23 O23 _ kv => ⟨by show 1 ≤ sizeLine; decide, fun t24 ht24 => ?_⟩⟩
  obtain ⟨n23, kv⟩ := kv
  obtain ⟨G24, g24, O24, hg24⟩ := O23.sync (Ex.new ht24) upd_same
  refine cat_t (O24.sub _ _ ((g23.trans g24) _ _ hg22)) (O24.sub _ _ hg24) (by have := hcl none (some (c' : Int)); simp; omega) fun p25 H25 e25 hp25 => ?_
  obtain ⟨G25, g25, O25, hg25⟩ := O24.sync e25 hp25
  have E25 := (((E21.trans g22).trans g23).trans g24).trans g25
  refine ⟨_, rfl, _, rfl, .inl ⟨_, _, rfl, rfl, _, rfl, sl_t (O25.sub _ _ (E25 _ _ hra)) fun p26 H26 e26 hp26 => ?_⟩⟩
  obtain ⟨G26, g26, O26, hg26⟩ := O25.sync e26 hp26
  refine cat_t (O26.sub _ _ (g26 _ _ hg25)) (O26.sub _ _ hg26) (by have := hcl none (some (c' : Int)); have := hcl (some ((c' : Int) + 1)) none; simp only [List.length_append, List.length_cons, List.length_nil]; omega) fun p27 H27 e27 hp27 => ?_
  obtain ⟨G27, g27, O27, hg27⟩ := O26.sync e27 hp27
  have E27 := (E25.trans g26).trans g27
  have op27 := (((((op21.ex g22).ex g23).ex g24).ex g25).ex g26).ex g27
  have row27 : AnyRow G27 (.ref p27) := by
    refine AnyRow.of hg27 (by have := hcl none (some (c' : Int)); have := hcl (some ((c' : Int) + 1)) none; simp only [List.length_append, List.length_cons, List.length_nil]; omega) fun x hx => ?_
    rcases List.mem_append.mp hx with hx | hx
    · rcases List.mem_append.mp hx with hx | hx
      · exact hint _ _ _ _ hx
      · rw [List.mem_singleton.mp hx]; exact ⟨_, (((kv.ex g24).ex g25).ex g26).ex g27⟩
    · exact hint _ _ _ _ hx
  have hl27 := op27.1
  have row27' := row27
  refine ⟨l21, _, _, rfl, rfl, O27.sub _ _ hl27, by rw [sizeLine_eq]; show 7 < _; decide, hN _ _ ⟨_, _, rfl, (O27.put hl27).more (by omega), fun a o h => ?_, ⟨upd_same, fun v hv => AnyRow.putL hl27 ?_⟩, by simp⟩⟩
  · exact (upd_ne (fun e => by rw [e, gl21] at h; cases h)).trans (E27 _ _ h)
  · rcases List.mem_append.mp hv with hv | hv
    · exact op27.2 v hv
    · rw [List.mem_singleton.mp hv]; exact row27
end
end K05

set_option maxHeartbeats 4000000
namespace K05
open PySem PySem.Spec PyProof.Rows L2 Hg
abbrev sp_law := spLaw
theorem all_isI (r : List Int) : (r.map V.int).all isI = true := by
  rw [List.all_eq_true]
  intro x hx
  obtain ⟨z, _, rfl⟩ := List.mem_map.mp hx
  rfl
theorem rowD_ints {G : Hp} {a : Addr} {r : List Int} {size : Nat} (h : G a = some (.tup (r.map V.int))) (hl : r.length = size) (h1 : size ≤ 1000) : RowD G size (.ref a) (some r) := by
  have := RowD.tup (size := (size : Int)) h (by rw [List.length_map]; omega) (fun x hx => by obtain ⟨z, _, rfl⟩ := List.mem_map.mp hx; exact ⟨_, .int z⟩)
  rw [all_isI, List.length_map, hl, decide_eq_true rfl, Bool.true_and, if_pos rfl, List.map_map] at this
  rw [show (toI ∘ V.int) = id from rfl, List.map_id] at this
  exact this
theorem thingD_rows {G : Hp} {b : Addr} {as : List Addr} {R : List (List Int)} {size : Nat} (hb : G b = some (.tup (as.map V.ref))) (hR : RowsIn G as R) (hs : ∀ r ∈ R, r.length = size) (h1 : size ≤ 1000) (h2 : R.length ≤ 1000) : ThingD G size (.ref b) (some (R.map some)) := by
  refine .tup hb (by rw [List.length_map, hR.1]; exact h2) (by rw [List.length_map, List.length_map, hR.1]) fun i v o hv ho => ?_
  rw [List.getElem?_map] at hv ho
  obtain ⟨a, ha, rfl⟩ := Option.map_eq_some_iff.mp hv
  obtain ⟨r, hr, rfl⟩ := Option.map_eq_some_iff.mp ho
  exact rowD_ints (hR.2 i a r ha hr) (hs r (List.mem_of_getElem? hr)) h1
section
variable {P : Program} {w : World} {K : PySem.W.Frag} {mg : Str → Option Value} {base : Heap}
theorem ok_law {f : Addr} {fd : FuncData} (F : DefK K mg "law" st_law ["_law_script"] f fd) (Z : Zs mg) {f_is_basis : Addr} {fd_is_basis : FuncData} (D_is_basis : DefK K mg "is_basis" st_is_basis ["thing", "size"] f_is_basis fd_is_basis) (G_is_basis : FnOk P w K mg base CX0 3 f_is_basis fd_is_basis ["thing", "size"] (sp_is_basis K)) {f_l_draw : Addr} {fd_l_draw : FuncData} (D_l_draw : DefK K mg "_law_draw" st_l_draw ["_law_stream", "_law_count"] f_l_draw fd_l_draw) (G_l_draw : FnOk P w K mg base CX0 1 f_l_draw fd_l_draw ["_law_stream", "_law_count"] (sp_l_draw K)) {f_l_basis : Addr} {fd_l_basis : FuncData} (D_l_basis : DefK K mg "_law_basis" st_l_basis ["_law_stream", "_law_size"] f_l_basis fd_l_basis) (G_l_basis : FnOk P w K mg base CX0 2 f_l_basis fd_l_basis ["_law_stream", "_law_size"] (sp_l_basis K)) {f_l_changed : Addr} {fd_l_changed : FuncData} (D_l_changed : DefK K mg "_law_changed" st_l_changed ["_law_stream", "_law_basis_here", "_law_size"] f_l_changed fd_l_changed) (G_l_changed : FnOk P w K mg base CX0 3 f_l_changed fd_l_changed ["_law_stream", "_law_basis_here", "_law_size"] (sp_l_changed K)) {f_l_is_basis : Addr} {fd_l_is_basis : FuncData} (D_l_is_basis : DefK K mg "_law_is_basis" st_l_is_basis ["_law_thing", "_law_size"] f_l_is_basis fd_l_is_basis) (G_l_is_basis : FnOk P w K mg base CX0 2 f_l_is_basis fd_l_is_basis ["_law_thing", "_law_size"] (sp_l_is_basis K)) :
    FnOk P w K mg base CX0 4 f fd ["_law_script"] (sp_law K) := by
  refine F.fn.ok sc_law (fun vs H Q E h => by first | (obtain ⟨rfl, _⟩ := h; rfl) | (obtain ⟨_, rfl, _⟩ := h; rfl) | (obtain ⟨_, _, rfl, _⟩ := h; rfl) | (obtain ⟨_, _, _, rfl, _⟩ := h; rfl) | (obtain ⟨_, _, _, _, rfl, _⟩ := h; rfl) | (obtain ⟨_, _, _, _, _, rfl, _⟩ := h; rfl) | (obtain ⟨_, _, _, _, _, _, rfl, _⟩ := h; rfl) | (obtain ⟨_, _, _, _, _, _, _, rfl, _⟩ := h; rfl) | (obtain ⟨_, _, _, _, _, _, _, _, rfl, _⟩ := h; rfl) | (obtain ⟨_, _, _, _, _, _, _, _, _, rfl, _⟩ := h; rfl) | (obtain ⟨_, _, _, _, _, _, _, _, _, _, rfl, _⟩ := h; rfl) | (obtain ⟨_, _, _, _, _, _, _, _, _, _, _, rfl, _⟩ := h; rfl) | (obtain ⟨_, _, _, _, _, _, _, _, _, _, _, _, rfl, _⟩ := h; rfl) | (obtain ⟨_, _, _, _, _, _, _, _, _, _, _, _, _, rfl, _⟩ := h; rfl)) (fun cdv A outer s H vs Q E hr h => ?_)
  obtain ⟨a, ns, rfl, hS, kq⟩ := h
  refine ⟨_, (pss_cons (ps_set (i := 1) sc_law.nd rfl (.inl rfl) (pe_lst (pa_cons (pe_callTy (kLst (K := K)) (by rfl) Z.list_ PyProof.Rows.Boot.«list» (pa_cons (pv 0) pa_nil)) (pa_cons pe_int (pa_cons pe_int (pa_cons pe_int pa_nil))))))
      (pss_cons (ps_set (i := 2) sc_law.nd rfl (.inl rfl) (pe_op (kAdd (K := K)) pe_int (pe_call G_l_draw (hr.mono (by decide)) rfl D_l_draw.mg D_l_draw.fn.kp D_l_draw.bd .nil pass0 (pa_cons (pv 1) (pa_cons (pe_ix (kIx (K := K)) (pe_lst (pa_cons pe_int (pa_cons pe_int pa_nil))) (pe_call G_l_draw (hr.mono (by decide)) rfl D_l_draw.mg D_l_draw.fn.kp D_l_draw.bd .nil pass0 (pa_cons (pv 1) (pa_cons pe_int pa_nil))) (fun _ _ => rfl)) pa_nil)))))
      (pss_cons (ps_set (i := 3) sc_law.nd rfl (.inl rfl) (pe_call G_l_basis (hr.mono (by decide)) rfl D_l_basis.mg D_l_basis.fn.kp D_l_basis.bd .nil pass0 (pa_cons (pv 1) (pa_cons (pv 2) pa_nil))))
      (pss_cons (ps_for PassesOwn.never rfl (pi_range1 (by rfl) Z.range_ (pa_cons pe_int pa_nil)) (pg_name (i := 4) sc_law.nd rfl (.inl rfl)) (pss_cons (ps_set (i := 5) sc_law.nd rfl (.inl rfl) (pe_call G_l_changed (hr.mono (by decide)) rfl D_l_changed.mg D_l_changed.fn.kp D_l_changed.bd .nil pass0 (pa_cons (pv 1) (pa_cons (pv 3) (pa_cons (pv 2) pa_nil)))))
      (pss_cons (ps_set (i := 6) sc_law.nd rfl (.inl rfl) (pe_call G_is_basis (hr.mono (by decide)) rfl D_is_basis.mg D_is_basis.fn.kp D_is_basis.bd .nil pass0 (pa_cons (pv 5) (pa_cons (pv 2) pa_nil))))
      (pss_one (ps_if (PW.pt (pw_or (pt_not (pt_val (pe_callB (kIsi (K := K)) (by rfl) Z.isinstance_ PyProof.Rows.Boot.«isinstance» (pa_cons (pv 6) (pa_cons (pe_bltn (v := .ty "bool") (by rfl) Z.bool_ PyProof.Rows.Boot.«bool» rfl) pa_nil))))) (pw_or1 (pt_cmpR (kNe (K := K) hr.units) (pv 6) (pe_call G_l_is_basis (hr.mono (by decide)) rfl D_l_is_basis.mg D_l_is_basis.fn.kp D_l_is_basis.bd .nil pass0 (pa_cons (pv 5) (pa_cons (pv 2) pa_nil))) (nomark _))))) (pss_one (ps_ret pe_bl)) pss_nil)))))
      (pss_one (ps_ret (pe_and (pe_cmpR op_isBl (pe_call G_is_basis (hr.mono (by decide)) rfl D_is_basis.mg D_is_basis.fn.kp D_is_basis.bd .nil pass0 (pa_cons (pe_tup pa_nil) (pa_cons (pv 2) pa_nil))) pe_bl (nomark _)) (pe_one (pe_cmpR op_isBl (pe_call G_is_basis (hr.mono (by decide)) rfl D_is_basis.mg D_is_basis.fn.kp D_is_basis.bd .nil pass0 (pa_cons (pv 3) (pa_cons (pv 2) pa_nil))) pe_bl (nomark _)))))))))), ?_⟩
  refine ⟨_, rfl, a, _, rfl, .inl hS, fun q0 hq => ⟨by show 4 ≤ sizeLine; decide, fun s0 hs => ?_⟩⟩
  have O := strm_new hq hs
  generalize upd (upd H q0 (.lst (ns.map V.int))) s0 (.lst [.ref q0, .int 0, .int 0, .int 0]) = H0 at O
  refine ⟨_, rfl, by show 2 ≤ sizeLine; decide, fun l hl => ⟨_, rfl, s0, q0, _, _, 2, rfl, O.new hl, by decide, by decide, by decide, fun r H1 r0 r1 O1 => ?_⟩⟩
  obtain ⟨v, hv, hm⟩ := menu (n := 2) r0 r1 (vs := [.int 4, .int 12]) rfl
  have hvz : ∃ z : Int, v = .int z ∧ 0 < z ∧ z ≤ 12 := by
    simp only [List.mem_cons, List.not_mem_nil, or_false] at hm
    rcases hm with h | h <;> exact ⟨_, h, by decide, by decide⟩
  obtain ⟨z, rfl, z0, z1⟩ := hvz
  refine ixl (O1.sub _ _ upd_same) hv ⟨s0, q0, _, _, z, rfl, O1.weak (Ex.new (O.sub.free hl)), by decide, z0, Nat.lt_of_lt_of_le (show z.natAbs < 16 by omega) (by decide), fun d H2 d0 d1 O2 => .inl ⟨1, d, rfl, rfl, ?_⟩⟩
  obtain ⟨size, hsz⟩ : ∃ size : Nat, 1 + d = (size : Int) := ⟨(1 + d).toNat, by omega⟩
  show gName 2 (V.int (1 + d)) _ _ _
  rw [hsz]
  have hs1 : 1 ≤ size := by omega
  have hs2 : size ≤ 12 := by omega
  refine ⟨_, rfl, _, rfl, s0, q0, _, _, size, rfl, O2, by decide, hs1, hs2, fun b as R H3 O3 hb hR hRl hRs hB => ?_⟩
  obtain ⟨O3', _⟩ := O3.all
  have hb' := O3.tup hb
  have hR' := hR.mono fun a xs h => O3.tup h
  refine ⟨6, rfl, by decide, by decide, for_it (walk_range (lo := 0) (n := 6)) (fun i σ H' => ∃ (v4 v5 v6 : Option V) (G' : Hp), σ = [some (.ref a), some (.ref s0), some (.int (size : Int)), some (.ref b), v4, v5, v6] ∧ Ov s0 q0 (1002 + 8 * i) G' H' ∧ G' b = some (.tup (as.map V.ref)) ∧ RowsIn G' as R)
    ⟨_, _, _, _, rfl, O3'.more (by omega), hb', hR'⟩ (fun _ _ _ _ _ => trivial) (fun i x σ H' H6 hi p y => ?_) (fun σ H' p => ?_)⟩
  · obtain ⟨v4, v5, v6, G', rfl, O4, hb4, hR4⟩ := p
    obtain ⟨rfl, rfl⟩ := y
    refine ⟨_, rfl, _, rfl, _, rfl, s0, q0, _, G', b, as, R, size, rfl, O4, by omega, hs1, hs2, hb4, hR4, hRl, hRs, fun v G5 H5 g5 O5 th => ?_⟩
    obtain ⟨o, td⟩ := th.d size
    refine ⟨_, rfl, _, rfl, v, size, o, rfl, td.ex O5.sub, by omega, by omega, fun H7 e7 => ?_⟩
    refine ⟨_, rfl, .bl (isB o), .ty "bool", .type "bool", .type "bool", _, rfl, .ty "bool", (Kd.bl (H := H7) (isB o)).ty, kit_ty (kit_bool "bool" (Kd.bl (H := H7) (isB o)).mem), _, rfl, iteF ?_⟩
    refine ⟨_, rfl, _, rfl, _, rfl, v, size, o, rfl, (td.ex O5.sub).ex e7, by omega, by omega, fun H8 e8 => .inl ⟨rfl, _, rfl, ?_⟩⟩
    refine iteNF rfl ?_
    exact ⟨_, _, _, G5, rfl, ((O5.ex e7).ex e8).more (by omega), g5 _ _ hb4, hR4.mono fun a xs h => g5 _ _ h⟩
  · obtain ⟨v4, v5, v6, G', rfl, O4, hb4, hR4⟩ := p
    refine ⟨Nat.zero_le _, fun p0 hp0 => ⟨_, rfl, .ref p0, size, some [], rfl, .tup upd_same (by decide) rfl (fun i r o h => absurd h (by simp)), by omega, by omega, fun H5 e5 => ⟨true, true, rfl, rfl, _, rfl, ?_⟩⟩⟩
    have O5 := (O4.drop (o := .tup []) hp0).ex e5
    have td := thingD_rows hb4 hR4 hRs (by omega) (by omega)
    refine iteT ⟨_, rfl, _, rfl, .ref b, size, _, rfl, td.ex O5.sub, by omega, by omega, fun H6 e6 => ⟨true, true, by rw [hB], rfl, ?_⟩⟩
    exact kq _
end
end K05

set_option maxHeartbeats 4000000
namespace K05
open PySem PySem.Spec PyProof.Rows L2 Hg

theorem all_mk {P : Program} {w : World} {K : PySem.W.Frag} {h : Heap} {mg : Str → Option Value} {fa : Addr} (X : K.In h) (G : h.Ns mainGlobals mg) (hfa : mg "law" = some (.ref fa))
    {f_is_integer : Addr} {od_is_integer an_is_integer : Option Addr} {sl_is_integer : Array (Option Value)} {oc_is_integer kV_is_integer dc_is_integer pm_is_integer cd_is_integer ct_is_integer : Value}
    {f_is_form : Addr} {od_is_form an_is_form : Option Addr} {sl_is_form : Array (Option Value)} {oc_is_form kV_is_form dc_is_form pm_is_form cd_is_form ct_is_form : Value}
    {f_is_basis : Addr} {od_is_basis an_is_basis : Option Addr} {sl_is_basis : Array (Option Value)} {oc_is_basis kV_is_basis dc_is_basis pm_is_basis cd_is_basis ct_is_basis : Value}
    {f_pivot_column : Addr} {od_pivot_column an_pivot_column : Option Addr} {sl_pivot_column : Array (Option Value)} {oc_pivot_column kV_pivot_column dc_pivot_column pm_pivot_column cd_pivot_column ct_pivot_column : Value}
    {f_l_draw : Addr} {od_l_draw an_l_draw : Option Addr} {sl_l_draw : Array (Option Value)} {oc_l_draw kV_l_draw dc_l_draw pm_l_draw cd_l_draw ct_l_draw : Value}
    {f_l_integer : Addr} {od_l_integer an_l_integer : Option Addr} {sl_l_integer : Array (Option Value)} {oc_l_integer kV_l_integer dc_l_integer pm_l_integer cd_l_integer ct_l_integer : Value}
    {f_l_plus : Addr} {od_l_plus an_l_plus : Option Addr} {sl_l_plus : Array (Option Value)} {oc_l_plus kV_l_plus dc_l_plus pm_l_plus cd_l_plus ct_l_plus : Value}
    {f_l_basis : Addr} {od_l_basis an_l_basis : Option Addr} {sl_l_basis : Array (Option Value)} {oc_l_basis kV_l_basis dc_l_basis pm_l_basis cd_l_basis ct_l_basis : Value}
    {f_l_any : Addr} {od_l_any an_l_any : Option Addr} {sl_l_any : Array (Option Value)} {oc_l_any kV_l_any dc_l_any pm_l_any cd_l_any ct_l_any : Value}
    {f_l_changed : Addr} {od_l_changed an_l_changed : Option Addr} {sl_l_changed : Array (Option Value)} {oc_l_changed kV_l_changed dc_l_changed pm_l_changed cd_l_changed ct_l_changed : Value}
    {f_l_is_basis : Addr} {od_l_is_basis an_l_is_basis : Option Addr} {sl_l_is_basis : Array (Option Value)} {oc_l_is_basis kV_l_is_basis dc_l_is_basis pm_l_is_basis cd_l_is_basis ct_l_is_basis : Value}
    {f_law : Addr} {od_law an_law : Option Addr} {sl_law : Array (Option Value)} {oc_law kV_law dc_law pm_law cd_law ct_law : Value}
    
    (a_is_integer : PySem.W.nsIn K mainGlobals "is_integer" = some (some (.ref f_is_integer)))
    (l_is_integer : K.lookup f_is_integer = some ⟨oc_is_integer, od_is_integer, .func (PySem.W.fnOf "is_integer" "is_integer" (defArgs st_is_integer) (defBody st_is_integer) (defScope st_is_integer) .none kV_is_integer dc_is_integer pm_is_integer an_is_integer cd_is_integer ct_is_integer), sl_is_integer⟩)
    (c_is_integer : PySem.W.codeIn K cd_is_integer "is_integer" = true)
    (k_is_integer : PySem.W.keepIn K (.ref f_is_integer) = true)
    (a_is_form : PySem.W.nsIn K mainGlobals "is_form" = some (some (.ref f_is_form)))
    (l_is_form : K.lookup f_is_form = some ⟨oc_is_form, od_is_form, .func (PySem.W.fnOf "is_form" "is_form" (defArgs st_is_form) (defBody st_is_form) (defScope st_is_form) .none kV_is_form dc_is_form pm_is_form an_is_form cd_is_form ct_is_form), sl_is_form⟩)
    (c_is_form : PySem.W.codeIn K cd_is_form "is_form" = true)
    (k_is_form : PySem.W.keepIn K (.ref f_is_form) = true)
    (a_is_basis : PySem.W.nsIn K mainGlobals "is_basis" = some (some (.ref f_is_basis)))
    (l_is_basis : K.lookup f_is_basis = some ⟨oc_is_basis, od_is_basis, .func (PySem.W.fnOf "is_basis" "is_basis" (defArgs st_is_basis) (defBody st_is_basis) (defScope st_is_basis) .none kV_is_basis dc_is_basis pm_is_basis an_is_basis cd_is_basis ct_is_basis), sl_is_basis⟩)
    (c_is_basis : PySem.W.codeIn K cd_is_basis "is_basis" = true)
    (k_is_basis : PySem.W.keepIn K (.ref f_is_basis) = true)
    (a_pivot_column : PySem.W.nsIn K mainGlobals "pivot_column" = some (some (.ref f_pivot_column)))
    (l_pivot_column : K.lookup f_pivot_column = some ⟨oc_pivot_column, od_pivot_column, .func (PySem.W.fnOf "pivot_column" "pivot_column" (defArgs st_pivot_column) (defBody st_pivot_column) (defScope st_pivot_column) .none kV_pivot_column dc_pivot_column pm_pivot_column an_pivot_column cd_pivot_column ct_pivot_column), sl_pivot_column⟩)
    (c_pivot_column : PySem.W.codeIn K cd_pivot_column "pivot_column" = true)
    (k_pivot_column : PySem.W.keepIn K (.ref f_pivot_column) = true)
    (a_l_draw : PySem.W.nsIn K mainGlobals "_law_draw" = some (some (.ref f_l_draw)))
    (l_l_draw : K.lookup f_l_draw = some ⟨oc_l_draw, od_l_draw, .func (PySem.W.fnOf "_law_draw" "_law_draw" (defArgs st_l_draw) (defBody st_l_draw) (defScope st_l_draw) .none kV_l_draw dc_l_draw pm_l_draw an_l_draw cd_l_draw ct_l_draw), sl_l_draw⟩)
    (c_l_draw : PySem.W.codeIn K cd_l_draw "_law_draw" = true)
    (k_l_draw : PySem.W.keepIn K (.ref f_l_draw) = true)
    (a_l_integer : PySem.W.nsIn K mainGlobals "_law_integer" = some (some (.ref f_l_integer)))
    (l_l_integer : K.lookup f_l_integer = some ⟨oc_l_integer, od_l_integer, .func (PySem.W.fnOf "_law_integer" "_law_integer" (defArgs st_l_integer) (defBody st_l_integer) (defScope st_l_integer) .none kV_l_integer dc_l_integer pm_l_integer an_l_integer cd_l_integer ct_l_integer), sl_l_integer⟩)
    (c_l_integer : PySem.W.codeIn K cd_l_integer "_law_integer" = true)
    (k_l_integer : PySem.W.keepIn K (.ref f_l_integer) = true)
    (a_l_plus : PySem.W.nsIn K mainGlobals "_law_plus" = some (some (.ref f_l_plus)))
    (l_l_plus : K.lookup f_l_plus = some ⟨oc_l_plus, od_l_plus, .func (PySem.W.fnOf "_law_plus" "_law_plus" (defArgs st_l_plus) (defBody st_l_plus) (defScope st_l_plus) .none kV_l_plus dc_l_plus pm_l_plus an_l_plus cd_l_plus ct_l_plus), sl_l_plus⟩)
    (c_l_plus : PySem.W.codeIn K cd_l_plus "_law_plus" = true)
    (k_l_plus : PySem.W.keepIn K (.ref f_l_plus) = true)
    (a_l_basis : PySem.W.nsIn K mainGlobals "_law_basis" = some (some (.ref f_l_basis)))
    (l_l_basis : K.lookup f_l_basis = some ⟨oc_l_basis, od_l_basis, .func (PySem.W.fnOf "_law_basis" "_law_basis" (defArgs st_l_basis) (defBody st_l_basis) (defScope st_l_basis) .none kV_l_basis dc_l_basis pm_l_basis an_l_basis cd_l_basis ct_l_basis), sl_l_basis⟩)
    (c_l_basis : PySem.W.codeIn K cd_l_basis "_law_basis" = true)
    (k_l_basis : PySem.W.keepIn K (.ref f_l_basis) = true)
    (a_l_any : PySem.W.nsIn K mainGlobals "_law_any" = some (some (.ref f_l_any)))
    (l_l_any : K.lookup f_l_any = some ⟨oc_l_any, od_l_any, .func (PySem.W.fnOf "_law_any" "_law_any" (defArgs st_l_any) (defBody st_l_any) (defScope st_l_any) .none kV_l_any dc_l_any pm_l_any an_l_any cd_l_any ct_l_any), sl_l_any⟩)
    (c_l_any : PySem.W.codeIn K cd_l_any "_law_any" = true)
    (k_l_any : PySem.W.keepIn K (.ref f_l_any) = true)
    (a_l_changed : PySem.W.nsIn K mainGlobals "_law_changed" = some (some (.ref f_l_changed)))
    (l_l_changed : K.lookup f_l_changed = some ⟨oc_l_changed, od_l_changed, .func (PySem.W.fnOf "_law_changed" "_law_changed" (defArgs st_l_changed) (defBody st_l_changed) (defScope st_l_changed) .none kV_l_changed dc_l_changed pm_l_changed an_l_changed cd_l_changed ct_l_changed), sl_l_changed⟩)
    (c_l_changed : PySem.W.codeIn K cd_l_changed "_law_changed" = true)
    (k_l_changed : PySem.W.keepIn K (.ref f_l_changed) = true)
    (a_l_is_basis : PySem.W.nsIn K mainGlobals "_law_is_basis" = some (some (.ref f_l_is_basis)))
    (l_l_is_basis : K.lookup f_l_is_basis = some ⟨oc_l_is_basis, od_l_is_basis, .func (PySem.W.fnOf "_law_is_basis" "_law_is_basis" (defArgs st_l_is_basis) (defBody st_l_is_basis) (defScope st_l_is_basis) .none kV_l_is_basis dc_l_is_basis pm_l_is_basis an_l_is_basis cd_l_is_basis ct_l_is_basis), sl_l_is_basis⟩)
    (c_l_is_basis : PySem.W.codeIn K cd_l_is_basis "_law_is_basis" = true)
    (k_l_is_basis : PySem.W.keepIn K (.ref f_l_is_basis) = true)
    (a_law : PySem.W.nsIn K mainGlobals "law" = some (some (.ref f_law)))
    (l_law : K.lookup f_law = some ⟨oc_law, od_law, .func (PySem.W.fnOf "law" "law" (defArgs st_law) (defBody st_law) (defScope st_law) .none kV_law dc_law pm_law an_law cd_law ct_law), sl_law⟩)
    (c_law : PySem.W.codeIn K cd_law "law" = true)
    (k_law : PySem.W.keepIn K (.ref f_law) = true)
    (z_all : PySem.W.nsIn K mainGlobals "all" = some none)
    (z_any : PySem.W.nsIn K mainGlobals "any" = some none)
    (z_bool : PySem.W.nsIn K mainGlobals "bool" = some none)
    (z_enumerate : PySem.W.nsIn K mainGlobals "enumerate" = some none)
    (z_int : PySem.W.nsIn K mainGlobals "int" = some none)
    (z_isinstance : PySem.W.nsIn K mainGlobals "isinstance" = some none)
    (z_len : PySem.W.nsIn K mainGlobals "len" = some none)
    (z_list : PySem.W.nsIn K mainGlobals "list" = some none)
    (z_range : PySem.W.nsIn K mainGlobals "range" = some none)
    (z_tuple : PySem.W.nsIn K mainGlobals "tuple" = some none)
    (z_zip : PySem.W.nsIn K mainGlobals "zip" = some none)
    : ∃ fd : FuncData, (∀ (s : Shared) (v : Value), BindsTo s fd ⟨[v], []⟩ [("_law_script", v)]) ∧ ∀ base : Heap, K.In base → base.Ns mainGlobals mg → FnOk P w K mg base CX0 4 fa fd ["_law_script"] (sp_law K) := by
  have e := hfa.symm.trans (PySem.W.mg_of X G a_law)
  cases e
  have Z : Zs mg := ⟨PySem.W.mg_none_of X G z_all, PySem.W.mg_none_of X G z_any, PySem.W.mg_none_of X G z_bool, PySem.W.mg_none_of X G z_enumerate, PySem.W.mg_none_of X G z_int, PySem.W.mg_none_of X G z_isinstance, PySem.W.mg_none_of X G z_len, PySem.W.mg_none_of X G z_list, PySem.W.mg_none_of X G z_range, PySem.W.mg_none_of X G z_tuple, PySem.W.mg_none_of X G z_zip⟩
  have F_is_integer := fun_mk (st := st_is_integer) l_is_integer c_is_integer k_is_integer
  have D_is_integer : DefK K mg "is_integer" st_is_integer ["thing"] f_is_integer _ := ⟨PySem.W.mg_of X G a_is_integer, F_is_integer, F_is_integer.binds (ps := ["thing"]) fun _ _ _ _ _ _ us hl => match us, hl with | [_], _ => rfl⟩
  have F_is_form := fun_mk (st := st_is_form) l_is_form c_is_form k_is_form
  have D_is_form : DefK K mg "is_form" st_is_form ["thing", "size"] f_is_form _ := ⟨PySem.W.mg_of X G a_is_form, F_is_form, F_is_form.binds (ps := ["thing", "size"]) fun _ _ _ _ _ _ us hl => match us, hl with | [_, _], _ => rfl⟩
  have F_is_basis := fun_mk (st := st_is_basis) l_is_basis c_is_basis k_is_basis
  have D_is_basis : DefK K mg "is_basis" st_is_basis ["thing", "size"] f_is_basis _ := ⟨PySem.W.mg_of X G a_is_basis, F_is_basis, F_is_basis.binds (ps := ["thing", "size"]) fun _ _ _ _ _ _ us hl => match us, hl with | [_, _], _ => rfl⟩
  have F_pivot_column := fun_mk (st := st_pivot_column) l_pivot_column c_pivot_column k_pivot_column
  have D_pivot_column : DefK K mg "pivot_column" st_pivot_column ["row"] f_pivot_column _ := ⟨PySem.W.mg_of X G a_pivot_column, F_pivot_column, F_pivot_column.binds (ps := ["row"]) fun _ _ _ _ _ _ us hl => match us, hl with | [_], _ => rfl⟩
  have F_l_draw := fun_mk (st := st_l_draw) l_l_draw c_l_draw k_l_draw
  have D_l_draw : DefK K mg "_law_draw" st_l_draw ["_law_stream", "_law_count"] f_l_draw _ := ⟨PySem.W.mg_of X G a_l_draw, F_l_draw, F_l_draw.binds (ps := ["_law_stream", "_law_count"]) fun _ _ _ _ _ _ us hl => match us, hl with | [_, _], _ => rfl⟩
  have F_l_integer := fun_mk (st := st_l_integer) l_l_integer c_l_integer k_l_integer
  have D_l_integer : DefK K mg "_law_integer" st_l_integer ["_law_thing"] f_l_integer _ := ⟨PySem.W.mg_of X G a_l_integer, F_l_integer, F_l_integer.binds (ps := ["_law_thing"]) fun _ _ _ _ _ _ us hl => match us, hl with | [_], _ => rfl⟩
  have F_l_plus := fun_mk (st := st_l_plus) l_l_plus c_l_plus k_l_plus
  have D_l_plus : DefK K mg "_law_plus" st_l_plus ["_law_factor", "_law_one", "_law_other"] f_l_plus _ := ⟨PySem.W.mg_of X G a_l_plus, F_l_plus, F_l_plus.binds (ps := ["_law_factor", "_law_one", "_law_other"]) fun _ _ _ _ _ _ us hl => match us, hl with | [_, _, _], _ => rfl⟩
  have F_l_basis := fun_mk (st := st_l_basis) l_l_basis c_l_basis k_l_basis
  have D_l_basis : DefK K mg "_law_basis" st_l_basis ["_law_stream", "_law_size"] f_l_basis _ := ⟨PySem.W.mg_of X G a_l_basis, F_l_basis, F_l_basis.binds (ps := ["_law_stream", "_law_size"]) fun _ _ _ _ _ _ us hl => match us, hl with | [_, _], _ => rfl⟩
  have F_l_any := fun_mk (st := st_l_any) l_l_any c_l_any k_l_any
  have D_l_any : DefK K mg "_law_any" st_l_any ["_law_stream"] f_l_any _ := ⟨PySem.W.mg_of X G a_l_any, F_l_any, F_l_any.binds (ps := ["_law_stream"]) fun _ _ _ _ _ _ us hl => match us, hl with | [_], _ => rfl⟩
  have F_l_changed := fun_mk (st := st_l_changed) l_l_changed c_l_changed k_l_changed
  have D_l_changed : DefK K mg "_law_changed" st_l_changed ["_law_stream", "_law_basis_here", "_law_size"] f_l_changed _ := ⟨PySem.W.mg_of X G a_l_changed, F_l_changed, F_l_changed.binds (ps := ["_law_stream", "_law_basis_here", "_law_size"]) fun _ _ _ _ _ _ us hl => match us, hl with | [_, _, _], _ => rfl⟩
  have F_l_is_basis := fun_mk (st := st_l_is_basis) l_l_is_basis c_l_is_basis k_l_is_basis
  have D_l_is_basis : DefK K mg "_law_is_basis" st_l_is_basis ["_law_thing", "_law_size"] f_l_is_basis _ := ⟨PySem.W.mg_of X G a_l_is_basis, F_l_is_basis, F_l_is_basis.binds (ps := ["_law_thing", "_law_size"]) fun _ _ _ _ _ _ us hl => match us, hl with | [_, _], _ => rfl⟩
  have F_law := fun_mk (st := st_law) l_law c_law k_law
  have D_law : DefK K mg "law" st_law ["_law_script"] fa _ := ⟨PySem.W.mg_of X G a_law, F_law, F_law.binds (ps := ["_law_script"]) fun _ _ _ _ _ _ us hl => match us, hl with | [_], _ => rfl⟩

  refine ⟨PySem.W.fnOf "law" "law" (defArgs st_law) (defBody st_law) (defScope st_law) .none kV_law dc_law pm_law an_law cd_law ct_law, fun s v => .of_eq rfl, fun base _ _ => ?_⟩

  have G_is_integer : FnOk P w K mg base CX0 1 f_is_integer _ ["thing"] (sp_is_integer K) := ok_is_integer (P := P) (w := w) (base := base) D_is_integer Z  
  have G_is_form : FnOk P w K mg base CX0 2 f_is_form _ ["thing", "size"] (sp_is_form K) := ok_is_form (P := P) (w := w) (base := base) D_is_form Z D_is_integer G_is_integer 
  have G_pivot_column : FnOk P w K mg base CX0 1 f_pivot_column _ ["row"] (sp_pivot_column K) := ok_pivot_column (P := P) (w := w) (base := base) D_pivot_column Z  
  have G_is_basis : FnOk P w K mg base CX0 3 f_is_basis _ ["thing", "size"] (sp_is_basis K) := ok_is_basis (P := P) (w := w) (base := base) D_is_basis Z D_is_form G_is_form D_pivot_column G_pivot_column 
  have G_l_draw : FnOk P w K mg base CX0 1 f_l_draw _ ["_law_stream", "_law_count"] (sp_l_draw K) := ok_l_draw (P := P) (w := w) (base := base) D_l_draw Z  
  have G_l_plus : FnOk P w K mg base CX0 1 f_l_plus _ ["_law_factor", "_law_one", "_law_other"] (sp_l_plus K) := ok_l_plus (P := P) (w := w) (base := base) D_l_plus Z  
  have G_l_basis : FnOk P w K mg base CX0 2 f_l_basis _ ["_law_stream", "_law_size"] (sp_l_basis K) := ok_l_basis (P := P) (w := w) (base := base) D_l_basis Z D_l_draw G_l_draw D_l_plus G_l_plus 
  have G_l_any : FnOk P w K mg base CX0 2 f_l_any _ ["_law_stream"] (sp_l_any K) := ok_l_any (P := P) (w := w) (base := base) D_l_any Z D_l_draw G_l_draw 
  have G_l_changed : FnOk P w K mg base CX0 3 f_l_changed _ ["_law_stream", "_law_basis_here", "_law_size"] (sp_l_changed K) := ok_l_changed (P := P) (w := w) (base := base) D_l_changed Z D_l_draw G_l_draw D_l_any G_l_any 
  have G_l_integer : FnOk P w K mg base CX0 1 f_l_integer _ ["_law_thing"] (sp_l_integer K) := ok_l_integer (P := P) (w := w) (base := base) D_l_integer Z  
  have G_l_is_basis : FnOk P w K mg base CX0 2 f_l_is_basis _ ["_law_thing", "_law_size"] (sp_l_is_basis K) := ok_l_is_basis (P := P) (w := w) (base := base) D_l_is_basis Z D_l_integer G_l_integer 
  exact ok_law (P := P) (w := w) (base := base) D_law Z D_is_basis G_is_basis D_l_draw G_l_draw D_l_basis G_l_basis D_l_changed G_l_changed D_l_is_basis G_l_is_basis 
theorem walk {l : PySem.W.OpenLaw} {q : Program} {loose : List Str} {XP : (Str → Option Value) → Heap → Prop} {YP : World → Heap → Prop} {d : DefRec} {K : Params → PySem.W.Frag} (hn : l.most = some 63) (hdf : d.params.defaults = [])
    (hY : ∀ (w : World) (h : Heap), YP w h → (K w.params).In h)
    (F : ∀ (w : World) (mg : Str → Option Value) (fa : Addr) (h : Heap), (K w.params).In h → h.Ns mainGlobals mg → mg d.name = some (.ref fa) →
      ∃ fd : FuncData, (∀ (s : Shared) (u : Value), BindsTo s fd ⟨[u], []⟩ [("_law_script", u)]) ∧ ∀ base : Heap, (K w.params).In base → base.Ns mainGlobals mg → FnOk l.prog w (K w.params) mg base CX0 4 fa fd ["_law_script"] (sp_law (K w.params))) :
    PySem.W.WalkO q loose XP YP l.row.toRowW d [] (fun f vs => PySem.call f vs) :=
  L2.walk_of (n := 63) (k := 4) (x := "_law_script") (CX := fun _ => CX0) (sp := fun w => sp_law (K w.params)) hn (by decide) hdf ⟨rfl, by decide, by decide⟩ hY F (fun w H a ns hl _ hS => ⟨a, ns, rfl, hS, fun _ => rfl⟩) fun _ _ _ _ _ z => z
end K05
open PySem PySem.W PyProof.Rows in
set_option maxRecDepth 100000 in
set_option maxHeartbeats 0 in
theorem PySem.Challenge.cw_hushgrain_k05_bases_of_any_object_holds : PySem.Challenge.rw_hushgrain_k05_bases_of_any_object.Holds := by
  w_on; o_law; k_head; (case hw => w_witness2)
  k_fill
  refine K05.walk (l := PySem.Challenge.rw_hushgrain_k05_bases_of_any_object) rfl rfl (fun w h Y => PySem.W.kIn_of Y) ?F
  case F =>
    intro w mg fa h KX G hmg
    refine' K05.all_mk KX G hmg ?a_is_integer ?l_is_integer ?c_is_integer ?k_is_integer ?a_is_form ?l_is_form ?c_is_form ?k_is_form ?a_is_basis ?l_is_basis ?c_is_basis ?k_is_basis ?a_pivot_column ?l_pivot_column ?c_pivot_column ?k_pivot_column ?a_l_draw ?l_l_draw ?c_l_draw ?k_l_draw ?a_l_integer ?l_l_integer ?c_l_integer ?k_l_integer ?a_l_plus ?l_l_plus ?c_l_plus ?k_l_plus ?a_l_basis ?l_l_basis ?c_l_basis ?k_l_basis ?a_l_any ?l_l_any ?c_l_any ?k_l_any ?a_l_changed ?l_l_changed ?c_l_changed ?k_l_changed ?a_l_is_basis ?l_l_is_basis ?c_l_is_basis ?k_l_is_basis ?a_law ?l_law ?c_law ?k_law ?z_all ?z_any ?z_bool ?z_enumerate ?z_int ?z_isinstance ?z_len ?z_list ?z_range ?z_tuple ?z_zip
    (case a_is_integer => k_is)
    (case l_is_integer => k_is)
    (case c_is_integer => k_is)
    (case k_is_integer => k_is)
    (case a_is_form => k_is)
    (case l_is_form => k_is)
    (case c_is_form => k_is)
    (case k_is_form => k_is)
    (case a_is_basis => k_is)
    (case l_is_basis => k_is)
    (case c_is_basis => k_is)
    (case k_is_basis => k_is)
    (case a_pivot_column => k_is)
    (case l_pivot_column => k_is)
    (case c_pivot_column => k_is)
    (case k_pivot_column => k_is)
    (case a_l_draw => k_is)
    (case l_l_draw => k_is)
    (case c_l_draw => k_is)
    (case k_l_draw => k_is)
    (case a_l_integer => k_is)
    (case l_l_integer => k_is)
    (case c_l_integer => k_is)
    (case k_l_integer => k_is)
    (case a_l_plus => k_is)
    (case l_l_plus => k_is)
    (case c_l_plus => k_is)
    (case k_l_plus => k_is)
    (case a_l_basis => k_is)
    (case l_l_basis => k_is)
    (case c_l_basis => k_is)
    (case k_l_basis => k_is)
    (case a_l_any => k_is)
    (case l_l_any => k_is)
    (case c_l_any => k_is)
    (case k_l_any => k_is)
    (case a_l_changed => k_is)
    (case l_l_changed => k_is)
    (case c_l_changed => k_is)
    (case k_l_changed => k_is)
    (case a_l_is_basis => k_is)
    (case l_l_is_basis => k_is)
    (case c_l_is_basis => k_is)
    (case k_l_is_basis => k_is)
    (case a_law => k_is)
    (case l_law => k_is)
    (case c_law => k_is)
    (case k_law => k_is)
    (case z_all => k_is)
    (case z_any => k_is)
    (case z_bool => k_is)
    (case z_enumerate => k_is)
    (case z_int => k_is)
    (case z_isinstance => k_is)
    (case z_len => k_is)
    (case z_list => k_is)
    (case z_range => k_is)
    (case z_tuple => k_is)
    (case z_zip => k_is)
