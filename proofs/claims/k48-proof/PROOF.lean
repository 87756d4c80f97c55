import PyProof.Rows.All
import Wide.All
import OpenK.AllK
import Wide.FinOn
import HandS.ForMost
import HandS.ForExc
import HandS.IsInst
import HandS.Wide
import HandS.Gcd
import HandS.Zip
import HandS.Rev
import HandS.TupAny
import HandS.Strs
import HandS.SortInts
import HandS.ExcInit
import HandS.Nested
import KE.KExcSuper
import HandS.Walk
import KE.GoesEnum
import HandS.SetFor
import HandS.TupMul
import HandS.Style
import HandS.EndBits
import PyProof.ReprRoads
import HandS.StrMore
import HandS.Text
import PyProof.StrBlock2
import PyProof.Rows.StrMul
import PyProof.StrLawsIn
import PySem.Challenge.RW_hushgrain_k48_tokens_of_texts
import PyProof.ReprLen

set_option Elab.async false
set_option linter.all false
set_option maxRecDepth 100000
set_option maxHeartbeats 2000000
namespace Hg
open PySem PySem.Spec PyProof.Rows L2

section
variable {X : Cx}
/-! ### operators of several kinds at once -/
abbrev rAddI : R2 := rI0 fun i j => .int (i + j)
abbrev rAddS : R2 := fun x y H Q => ∃ i j, x = .str i ∧ y = .str j ∧ i.length + j.length ≤ sizeLine ∧ Q (.str (i ++ j)) H
def rPlus (K : PySem.W.Frag) : R2 := fun x y H Q => rAddI x y H Q ∨ (rCat x y H Q ∨ (rCatA K x y H Q ∨ rAddS x y H Q))
theorem oAdd : OpR X (binaryOp .Add) (rPlus X.K) := op_add.or (op_cat.or (op_catA.or op_add_str))
abbrev rMulI : R2 := rI CMulW fun i j => .int (i * j)
theorem oMul : OpR X (binaryOp .Mult) rMulI := op_mulW
/-- // by any divisor but 0 below 2 ^ 9000 in size -/
def CDivA (_ j : Int) : Prop := j ≠ 0 ∧ j.natAbs.log2 < 9000
abbrev rDivI : R2 := rI CDivA fun i j => .int (i.fdiv j)
theorem oDiv : OpR X (binaryOp .FloorDiv) rDivI := opI fun i j _ _ _ _ _ hc q =>
  PyProof.Rows.floordiv_int hc.1 q (.inl (PyProof.noPylong_of_log2 hc.2))
abbrev rModI : R2 := rI (fun _ j => j ≠ 0) fun i j => .int (i.fmod j)
theorem oMod : OpR X (binaryOp .Mod) rModI := op_modN
def rEqA (K : PySem.W.Frag) : R2 := fun x y H Q => rEq x y H Q ∨ rEqD K x y H Q
def rNeA (K : PySem.W.Frag) : R2 := fun x y H Q => rNe x y H Q ∨ rNeD K x y H Q
theorem oEq (hu : X.A.units + 64 < cLine) : OpR X (compareOp .Eq) (rEqA X.K) := op_eq.or (op_eqD hu)
theorem oNe (hu : X.A.units + 64 < cLine) : OpR X (compareOp .NotEq) (rNeA X.K) := op_ne.or (op_neD hu)
def rSlAll (K : PySem.W.Frag) : V → Option Int → Option Int → Hp → VK → Prop := fun x lo hi H Q => rSlL K x lo hi H Q ∨ rSlA K x lo hi H Q
theorem oSl : SlR X (rSlAll X.K) := sl_list.or sl_tupA
/-! ### isqrt -/
def rIsqrt : List V → Hp → VK → Prop := fun vs H Q => ∃ a : Int, vs = [.int a] ∧ 0 ≤ a ∧ a < 2 ^ 64 ∧ Q (.int ((Float64.isqrt a.toNat : Nat) : Int)) H
theorem cr_isqrt : CallR X (.builtin "math.isqrt") rIsqrt := by
  intro pins s σ H vs us Q I r h
  obtain ⟨a, rfl, h0, h1, q⟩ := h
  obtain ⟨u, rfl, t, rfl⟩ := Vals.one r
  exact PySem.W.mg_isqrt h0 h1 ⟨.int _, H, I.tok _, ⟨_, rfl⟩, q⟩
end
end Hg

set_option maxHeartbeats 4000000
namespace Hg
open PySem PySem.Spec PyProof.Rows L2

/-- what the top has left of an error class at C whose __init__ stands at fI, its class cell at cc, its code at cda -/
structure ErrK (P : Program) (K : PySem.W.Frag) (mg : Str → Option Value) (C fI cc cda : Addr) : Prop where
  oex : OexC K C
  code : ∃ (ccl : Value) (cdd : Option Addr) (vs : Array Value) (ccs : Array (Option Value)) (tf : Tok) (fl : Str), K.lookup cda = some ⟨ccl, cdd, .fields vs, ccs⟩ ∧ vs[2]? = some (.str fl tf) ∧ ((P.main.file : Str) == fl) = true
  cell : ∃ (cl : Value) (cld : Option Addr) (csl : Array (Option Value)), K.lookup cc = some ⟨cl, cld, .cell (some (.ref C)), csl⟩
  cls : ∃ cd, PySem.W.clsIn K C = some cd
  own : PySem.W.mroIn K C (.ref C) = some true
  ve : PySem.W.subIn K (.ref C) (.type "ValueError") = some true
  sup : PySem.W.ks_superIn K C C "__init__" = some (some (.builtin "ValueError.__init__"))
  opq : PySem.W.nsIn K cStatics "thirdparty.any" = some none
  zsup : mg "super" = none
  top : (P.main.scope.names.lookup ("super" : Str)).isSome = false

section
variable {P : Program} {w : World} {K : PySem.W.Frag} {mg : Str → Option Value} {base : Heap} {CX : CXT} {C fI cc cda : Addr}
variable {qual : Str} {params : Arguments} {rest : List Stmt} {scope : Scope} {doc pm ct oc : Value} {od : Option Addr} {osl : Array (Option Value)} {N ps : List Str} {k : Nat} {sp : Sp}

def nfOf (qual : Str) (params : Arguments) (body : List Stmt) (scope : Scope) (cc cda : Addr) : NdefX.NF := ⟨"__init__", qual, params, body, scope, [("__class__", cc)], cda⟩

theorem cls_data {h : Heap} {cd : ClassData} (X : K.In h) (e : PySem.W.clsIn K C = some cd) : ∃ o, h.get? C = some o ∧ o.data = .cls cd := by
  unfold PySem.W.clsIn at e
  split at e
  · cases e
    exact ⟨_, X _ _ (by assumption), rfl⟩
  · cases e

theorem exo_inst {h : Heap} {x t1 : Addr} (e : h.get? x = some ({ cls := .ref C, dict := none, data := .fields #[.ref t1, .none, .none, .none, .bool false, .none] } : Obj)) :
    PySem.W.InstAt h x { cls := .ref C, dict := none, data := .fields #[.ref t1, .none, .none, .none, .bool false, .none] } C none := ⟨e, rfl, rfl, trivial⟩

/-- the class cell as the captured name -/
theorem cells_at (T : ErrK P K mg C fI cc cda) {h : Heap} {H : Hp} (X : K.In h) (hn : H cc = none) : NdefX.CellsAt [("__class__", cc)] ["__class__"] [some (.ref C)] h H := by
  obtain ⟨cl, cld, csl, e⟩ := T.cell
  have hc : h.IsCell cc (some (.ref C)) := ⟨_, X _ _ e, rfl⟩
  have key : ∀ y c, List.lookup y [(("__class__" : Str), cc)] = some c → y = "__class__" ∧ c = cc := fun y c q => by
    simp only [List.lookup] at q
    split at q
    · exact ⟨by simpa using (by assumption : (y == ("__class__" : Str)) = true), (Option.some.inj q).symm⟩
    · cases q
  refine ⟨rfl, fun y c q => ?_, fun x y c a b => ((key x c a).1).trans ((key y c b).1).symm, fun i y q => ?_⟩
  · obtain ⟨_, rfl⟩ := key y c q
    exact ⟨hn, _, hc⟩
  · cases i with
    | zero =>
      have e2 : y = "__class__" := (Option.some.inj q).symm
      subst e2
      refine ⟨cc, by simp [List.lookup], fun v hv => ?_⟩
      have e3 : v = .ref C := (Option.some.inj (Option.some.inj hv)).symm
      subst e3
      exact ⟨.ref C, rfl, hc⟩
    | succ n => simp at q
/-- the equation of the tree super().__init__('text'), by rfl where the places are written -/
def SupEq (F : NdefX.NF) (fI L : Addr) (txt : Str) (jj : Nat) (p0 p1 p2 p3 p4 : Pos) (pl : Sem Bool) : Prop :=
  eval (.Call (.Attribute (.Call (.Name "super" p0) [] [] p1) "__init__" p2) [.Constant (.str txt) jj p3] [] p4) (NdefX.envF F fI L) = (do
    let ov ← attributeBase (.Call (.Name "super" p0) [] [] p1) "__init__" (NdefX.envF F fI L) (eval (.Call (.Name "super" p0) [] [] p1) (NdefX.envF F fI L))
    standAt p2.atName
    let (f, first) ← holding [ov] (getMethod ov "__init__" pl)
    callWith p4 f first (backTo p4 (starEach [.Constant (.str txt) jj p3] (NdefX.envF F fI L))) [])
/-- super().__init__('text') as the first row of an error's __init__: behind it all that was tracked stands -/
theorem super_run (T : ErrK P K mg C fI cc cda) {body : List Stmt} {txt : Str} {jj : Nat} {p0 p1 p2 p3 p4 p5 : Pos}
    {A : Around} {outer : List Env} {s : Shared} {H H0 : Hp} {E : XK} {s1 : Shared} {ws : List (Option V)} {a : Addr}
    (S : NdefX.NScope N ps ["__class__"] scope) (lf : K.lookup fI = some ⟨oc, od, .func ((nfOf qual params body scope cc cda).fd doc pm ct), osl⟩)
    (par : ∃ ar, (params.posonlyargs ++ params.args).head? = some ar ∧ ar.arg = "self") (hself : N[0]? = some ("self" : Str)) (hks : scope.names.lookup ("super" : Str) = some .globalImplicit) (hkc : scope.names.lookup ("__class__" : Str) = some .free) (hka : scope.names.lookup ("self" : Str) = some .local)
    (I : Inv (NdefX.ncx CX P w K mg base N (nfOf qual params body scope cc cda) fI A outer s H0 E) [] ws H s1) (hw : ws[0]? = some (some (.ref a))) (ea : H a = some (exo a C none))
    {Q : Flow → Shared → Prop} {E1 : Value → Shared → Prop} {pl : Sem Bool} (he : ∀ L, SupEq (nfOf qual params body scope cc cda) fI L txt jj p0 p1 p2 p3 p4 pl)
    (q : ∀ s2, Inv (NdefX.ncx CX P w K mg base N (nfOf qual params body scope cc cda) fI A outer s H0 E) [] ws H s2 → Q .next s2) :
    PySem.wpAt (model P w) (A.deeper (NdefX.envF (nfOf qual params body scope cc cda) fI s.heap.objs.size)) (.func body (NdefX.envF (nfOf qual params body scope cc cda) fI s.heap.objs.size))
      (exec (.Expr (.Call (.Attribute (.Call (.Name "super" p0) [] [] p1) "__init__" p2) [.Constant (.str txt) jj p3] [] p4) p5) (NdefX.envF (nfOf qual params body scope cc cda) fI s.heap.objs.size)) Q E1 s1 := by
  obtain ⟨ccl, cdd, cvs, ccs, tf, fl, lcode, hv2, hfile⟩ := T.code
  obtain ⟨cl, cld, csl, lcell⟩ := T.cell
  obtain ⟨cd, hcd⟩ := T.cls
  obtain ⟨ar, har, hars⟩ := par
  have X : K.In s1.heap := I.kIn
  obtain ⟨oD, hD1, hD2⟩ := cls_data X hcd
  obtain ⟨m, hns, hloc⟩ := I.loc
  obtain ⟨u, ru, hu⟩ := hloc 0 "self" (.ref a) hself hw (.inl hka)
  cases (show u = Value.ref a from ru)
  have hm : m "self" = some (.ref a) := by
    rcases hu with ⟨_, z⟩ | ⟨z, _⟩
    · exact z
    · rcases z with z | z
      · have z2 := hka.symm.trans z
        cases z2
      · have z2 := hka.symm.trans z
        cases z2
  obtain ⟨t1, ho⟩ := exo_at I.hok ea
  have hloc0 : (NdefX.envF (nfOf qual params body scope cc cda) fI s.heap.objs.size).kindOf "self" = some .local := hka
  refine PySem.ks_wpAt_Expr_any (PySem.ks_wpAt_MethodCall ?_ (he s.heap.objs.size)) I.quiet rfl
  refine PySem.ks_wpAt_super_base (ar := ar) (vs := cvs) (file := fl) (tf := tf) (cc := cda) hks hkc (by decide) rfl (X _ _ lf) rfl har rfl (X _ _ lcode) rfl hv2 hfile T.top ?_
  obtain ⟨mb, hb1, hb2⟩ := I.mod.blt
  have hg : (NdefX.envF (nfOf qual params body scope cc cda) fI s.heap.objs.size).kindOf "super" = some .globalImplicit := hks
  refine PySem.W.ks_loadName_global S.kind hg (Calls.loadGlobal_builtin (I.mod.glob.keeps I.bk) T.zsup (hb1.keeps I.bk) ((hb2 _ (by decide +kernel)).trans PyProof.Rows.Boot.«super») ⟨rfl, ?_⟩)
  refine wpAny_loadName_free S.kind hkc rfl ⟨_, X _ _ lcell, rfl⟩ ?_
  rw [hars]
  refine wpAny_loadName_local S.kind hka hns hm ?_
  obtain ⟨hp, g, d, t, os⟩ := s1
  refine PySem.ks_wpAny_isType_cls hD1 hD2 ⟨rfl, ?_⟩
  refine PySem.ks_wpAny_call_super hD1 hD2 ho rfl (fun c z => by cases z) (PySem.W.looks_mroIn X T.own) (fun h2 e2 k2 => ?_)
  have I2 := I.kept (h' := h2) (t' := t) k2
  have X2 : K.In h2 := I2.kIn
  have ho2 := k2 _ _ ho
  have hin : PySem.W.Looks (model P w) h2 (isInstance (.ref a) (.type "ValueError")) true := (exo_inst ho2).type.andThen (PySem.W.looks_subIn X2 T.ve)
  have hsup := T.sup
  unfold PySem.W.ks_superIn at hsup
  rw [hcd, Option.bind_some] at hsup
  have hac : a ≠ C := PySem.W.ks_ne X2 (exo_inst ho2) hcd
  refine PySem.W.kxs_getMethod PySem.W.kxs_ValueError e2 (PySem.W.looks_opaque X2 T.opq) (l₀ := cd.mro) (fun A Q E s k q => wpAny_bind ((PySem.W.looks_clsIn X2 hcd) A _ E s k (wpAny_pure q))) rfl X2 hsup hin hac (by decide) ?_
  have k3 : ∀ b o, h2.get? b = some o → (h2.push (PySem.W.kxs_mw "ValueError.__init__" a)).get? b = some o := fun b o e => Heap.get?_push_of_some _ e
  have e3 : (h2.push (PySem.W.kxs_mw "ValueError.__init__" a)).get? h2.objs.size = some (PySem.W.kxs_mw "ValueError.__init__" a) := Heap.get?_push_at rfl rfl
  have I3 := I2.kept (h' := h2.push (PySem.W.kxs_mw "ValueError.__init__" a)) (t' := t + 1) k3
  refine PySem.W.kxs_callWith (i := "ValueError.__init__") (x := a) rfl ?_
  have hst : starEach [Expr.Constant (.str txt) jj p3] (NdefX.envF (nfOf qual params body scope cc cda) fI s.heap.objs.size) = (false, eval (Expr.Constant (.str txt) jj p3) (NdefX.envF (nfOf qual params body scope cc cda) fI s.heap.objs.size)) :: starEach [] (NdefX.envF (nfOf qual params body scope cc cda) fI s.heap.objs.size) := rfl
  rw [hst]
  refine PySem.Calls.evalArgs_plain (PyProof.Rows.args_cons (PySem.Calls.Constant_str (PyProof.Rows.args_nil ⟨e3, ?_⟩)) rfl)
  have ho3 := k3 _ _ ho2
  obtain ⟨nm, qn, NN, bs, bm, sn, sub, ab, col, dd, k0, k1, k2', k3', k5, hC, hbm⟩ := T.oex.cls
  have hC3 := k3 _ _ (X2 _ _ hC)
  refine wpAny_call (codeAny_of_tree ?_)
  show PySem.wpAny _ _ (callAny (.ref h2.objs.size) ⟨_, []⟩) _ _ _
  simp only [callAny]
  refine wpAny_bind (wpAny_load e3 ?_)
  have mw1 : (Value.type "method-wrapper" == Value.type "method" || Value.type "method-wrapper" == Value.type "builtin_function_or_method" || Value.type "method-wrapper" == Value.type "method-wrapper") = true := by decide
  simp only [PySem.W.kxs_mw, mw1, if_true]
  refine PySem.W.KFB.if_so (by decide) (wpAny_bind (PySem.W.check_bound_init F.excBase_ValueError.toExcCallFacts hC3 ho3 rfl ?_))
  refine wpAny_bind (wpAny_pure (wpAny_pure ⟨plainId_quiet F.excBase_ValueError.init.plain _, codeAny_builtin F.excBase_ValueError.initEntry ?_⟩))
  refine PySem.W.exc_init_tree (cls := .ref C) (t0 := t1) (dv := none) (c2 := .none) (c3 := .none) (b4 := .bool false) ho3 (by rw [sizeLine_eq]; exact (by decide : 1 ≤ 16777216)) fun h5 k5 e5 _ => ?_
  have I5 := I3.write (t' := t + 1 + 1) (x := a) (e := a) (o := exo a C none) (by rw [ea]; exact True.intro) (.inl rfl) k5 ⟨_, e5⟩ (exo_ok e5)
  have eu : upd H a (exo a C none) = H := by
    funext b
    by_cases hb : b = a
    · rw [hb, upd_same, ea]
    · rw [upd_ne hb]
  rw [eu] at I5
  exact q _ I5
end
end Hg

set_option maxHeartbeats 4000000
namespace Hg
open PySem PySem.Spec PyProof.Rows L2
section
variable {P : Program} {w : World} {K : PySem.W.Frag} {mg : Str → Option Value} {base : Heap} {C fI cc cda : Addr}
variable {qual : Str} {params : Arguments} {rest : List Stmt} {scope : Scope} {doc pm ct oc : Value} {od : Option Addr} {osl : Array (Option Value)} {N ps : List Str} {k : Nat} {sp : Sp}
def supRow (txt : Str) (jj : Nat) (p0 p1 p2 p3 p4 p5 : Pos) : Stmt := .Expr (.Call (.Attribute (.Call (.Name "super" p0) [] [] p1) "__init__" p2) [.Constant (.str txt) jj p3] [] p4) p5
/-- THE RULE for the __init__ of an error class whose first row is super().__init__('text'): sp speaks of .ref a :: .., a the fresh exception -/
theorem fn_err (T : ErrK P K mg C fI cc cda) {txt : Str} {jj : Nat} {p0 p1 p2 p3 p4 p5 : Pos} {pl : Sem Bool}
    (S : NdefX.NScope N ps ["__class__"] scope) (lf : K.lookup fI = some ⟨oc, od, .func ((nfOf qual params (supRow txt jj p0 p1 p2 p3 p4 p5 :: rest) scope cc cda).fd doc pm ct), osl⟩)
    (hcode : PySem.W.codeIn K (.ref cda) qual = true)
    (par : ∃ ar, (params.posonlyargs ++ params.args).head? = some ar ∧ ar.arg = "self") (hps : ps[0]? = some ("self" : Str)) (hks : scope.names.lookup ("super" : Str) = some .globalImplicit)
    (he : ∀ L, SupEq (nfOf qual params (supRow txt jj p0 p1 p2 p3 p4 p5 :: rest) scope cc cda) fI L txt jj p0 p1 p2 p3 p4 pl)
    (len : ∀ vs H Q E, sp vs H Q E → vs.length = ps.length) (hself : ∀ vs H Q E, sp vs H Q E → ∃ a us, vs = .ref a :: us ∧ H a = some (exo a C none))
    (hbody : ∀ (A : Around) (outer : List Env) (s : Shared) (H : Hp) (vs : List V) (Q : VK) (E : XK), Room k (A.deeper (NdefX.envF (nfOf qual params (supRow txt jj p0 p1 p2 p3 p4 p5 :: rest) scope cc cda) fI s.heap.objs.size)) → sp vs H Q E →
      ∃ t, PSs (NdefX.ncx CX0 P w K mg base N (nfOf qual params (supRow txt jj p0 p1 p2 p3 p4 p5 :: rest) scope cc cda) fI A outer s H E) rest t ∧ t { nx := fun _ H' => Q .non H', rt := Q } (NdefX.startF N vs [some (.ref C)]) H) :
    FnOk P w K mg base CX0 (k + 1) fI ((nfOf qual params (supRow txt jj p0 p1 p2 p3 p4 p5 :: rest) scope cc cda).fd doc pm ct) ps sp := by
  refine ⟨len, fun A outer s H args us vs Q E hr e0 hb r hsp => ?_⟩
  have hl := len _ _ _ _ hsp
  have X : K.In s.heap := e0.mod.kin.keeps fun b o e => (e0.bs b o e).1
  have lim : s.heap.NoLimit := e0.mod.nolimit.keeps fun b o e => (e0.bs b o e).1
  have Hcc : H cc = none := by
    obtain ⟨cl, cld, csl, lc⟩ := T.cell
    exact (e0.bs _ _ (e0.mod.kin _ _ lc)).2
  have CA := cells_at T X Hcc
  have hka : ∀ y ∈ ps.zip us, scope.names.lookup y.1 = some .local := fun ⟨n, _⟩ hy => S.par n (List.of_mem_zip hy).1
  refine PySem.ks_codeAny_call_defAt hr.depth (X _ _ lf) rfl lim (PySem.W.codeRec_of X hcode) rfl hb S.nocell hka (fun h₁ hns kp => ?_) S.co S.gen S.kind
  obtain ⟨a, us', rfl, ea⟩ := hself _ _ _ _ hsp
  have I : Inv (NdefX.ncx CX0 P w K mg base N (nfOf qual params (supRow txt jj p0 p1 p2 p3 p4 p5 :: rest) scope cc cda) fI A outer s H E) [] (NdefX.startF N (.ref a :: us') [some (.ref C)]) H { s with heap := h₁, toks := s.toks + (ps.zip us).length } := NdefX.inv_startN S hr.hd e0 hl r CA hns kp
  have hN0 : N[0]? = some ("self" : Str) := by
    have q : (N.take (ps.length + 1))[0]? = (ps ++ [("__class__" : Str)])[0]? := congrArg (fun l : List Str => l[0]?) S.pre
    rw [List.getElem?_take_of_lt (by omega)] at q
    rw [q]
    cases ps with
    | nil => simp at hps
    | cons p r => exact hps
  have hpar : scope.names.lookup ("self" : Str) = some .local := S.par _ (List.mem_of_getElem? hps)
  refine PySem.ks_wpAt_execs_cons (super_run T S lf par hN0 hks (S.frk _ (by simp)) hpar I (by simp [NdefX.startF]) ea he fun s2 I2 => ?_)
  obtain ⟨t, ht, hq⟩ := hbody A outer s H (.ref a :: us') Q E (hr.deeper _) hsp
  refine PySem.wpAt_of_wpAny (PySem.wpAny_mono (ht.run [] _ _ H _ I2 hq) (fun fl s' hs => ?_) fun e s' hs => hs)
  have fin : ∀ {σ' : L2.St} {H' : Hp} {v : V} {u : Value}, Inv (NdefX.ncx CX0 P w K mg base N (nfOf qual params (supRow txt jj p0 p1 p2 p3 p4 p5 :: rest) scope cc cda) fI A outer s H E) [] σ' H' s' → L2.RelV v u → Q v H' → CE outer P w H s Q u s' :=
    fun {σ' H' v u} J rv q => ⟨v, H', J.os, J.bare, J.base, J.hok, rv, q⟩
  cases fl with
  | ret u =>
    obtain ⟨v, σ', H', J, rv, q⟩ := hs
    exact fin J rv q
  | next =>
    obtain ⟨σ', H', J, q⟩ := hs
    exact fin (v := V.non) (u := Value.none) J rfl q
  | brk =>
    obtain ⟨_, _, _, q⟩ := hs
    exact False.elim q
  | cont =>
    obtain ⟨_, _, _, q⟩ := hs
    exact False.elim q
end
end Hg

set_option maxHeartbeats 4000000
namespace Hg
open PySem PySem.Spec PyProof.Rows L2
section
variable {X : Cx}
/-- the end of C(): the exception has no dict and is let go -/
theorem mk_bare {pins : List (Addr × Obj)} {σ : L2.St} {H1 H2 : Hp} {Q : XK} {hp hp2 h2 : Heap} {g1 g2 : Array GenState} {d1 d2 : Drawn} {t1 t2 : Nat} {os1 os2 : OsState} {a C : Addr}
    (T : Raises X (.ref C)) (I1 : Inv X pins σ H1 ⟨hp, g1, d1, t1, os1⟩) (ha : hp.objs.size ≤ a) (k : ∀ b o, hp.get? b = some o → hp2.get? b = some o)
    (un : Un (frs X.stack) [] (upd H1 a (exo a C none)) H2 hp2 h2) (hok : HOk X.prog X.w H2 h2) (ho : os2 = os1) (hb : AllBare g2) (ea : H2 a = some (exo a C none)) (q : Q (.ref C) none (del H2 a)) :
    MkP X pins σ Q (.ref a) ⟨h2, g2, d2, t2, os2⟩ := by
  obtain ⟨t0, hoe⟩ := exo_at hok ea
  have hn : H1 a = none := I1.hok.fresh ha
  obtain ⟨G, g1', g2'⟩ := restrict h2 fun b => decide (b ≠ a)
  have gk : ∀ b, b ≠ a → G.get? b = h2.get? b := fun b hb => g1' b (decide_eq_true hb)
  have ge : G.get? a = none := g2' a (by simp)
  have old : ∀ {b : Addr} {o : Obj}, hp.get? b = some o → b ≠ a := fun {b o} z e => by
    have l := Heap.lt_size z
    rw [e] at l
    exact absurd (Nat.lt_of_lt_of_le l ha) (Nat.lt_irrefl _)
  have up : ∀ {b : Addr}, b ≠ a → H1 b = none → upd H1 a (exo a C none) b = none := fun {b} hb n => (upd_ne hb).trans n
  have U : Un (frs X.stack) [] H1 (del H2 a) hp G :=
    ⟨fun b o z n hf hx => (gk b (old z)).trans (un.keep b o (k b o z) (up (old z) n) hf hx),
     fun b o z n hf hx => by
       obtain ⟨sl, e⟩ := un.slot b o (k b o z) (up (old z) n) hf hx
       exact ⟨sl, (gk b (old z)).trans e⟩,
     fun b o z n hx => (del_ne (old z)).trans (un.free b o (k b o z) (up (old z) n) hx),
     fun b o z hx => by
       obtain ⟨o', e⟩ := un.there b o (k b o z) hx
       exact ⟨o', (gk b (old z)).trans e⟩,
     fun b xs z => (del_ne (ne_of_none z hn)).trans (un.tups b xs ((upd_ne (ne_of_none z hn)).trans z)),
     fun b o v z => (del_ne (ne_of_none z hn)).trans (un.frzs b o v ((upd_ne (ne_of_none z hn)).trans z)),
     fun b ps z => by
       obtain ⟨more, e⟩ := un.tbls b ps ((upd_ne (ne_of_none z hn)).trans z)
       exact ⟨more, (del_ne (ne_of_none z hn)).trans e⟩⟩
  have hok3 : HOk X.prog X.w (del H2 a) G := fun b o z => by
    have hba : b ≠ a := fun e => by
      rw [e, del_same] at z
      cases z
    rw [del_ne hba] at z
    have noa : ∀ {c : Addr}, H2 c = some (.own b) → c ≠ a := fun {c} hc => at_ne ea hc exo_own
    refine (hok b o z).stay (fun c v hc y => ?_) (fun c hc => (del_ne (noa hc)).trans hc) (fun c xs hc => (del_ne (at_ne ea hc exo_tup)).trans hc)
    have hca : c ≠ a := hc.elim (fun e => e ▸ hba) noa
    exact (gk c hca).trans y
  have J : Inv X pins σ (del H2 a) ⟨G, g2, d2, t2, os2⟩ := I1.call' (ch := []) ho U hok3 hb (fun b z => absurd z (by simp))
  have kG : ∀ b o, G.get? b = some o → h2.get? b = some o := fun b o z => by
    by_cases hba : b = a
    · rw [hba, ge] at z
      cases z
    · exact (gk b hba).symm.trans z
  exact ⟨a, _, _, ⟨G, g2, d2, t2, os2⟩, _, .ref C, none, rfl, J, kG, ge, hoe, ⟨rfl, rfl⟩, rfl, rfl, del_same, rfl, hb, T, q⟩
/-- C(), C an error class whose own __init__ takes nothing but itself and stores nothing -/
def tMk0 (C : Addr) (sp : Sp) : L2.St → Hp → XK → Prop := fun _ H Q => ∀ a, H a = none → sp [.ref a] (upd H a (exo a C none)) (fun v H2 => v = .non ∧ H2 a = some (exo a C none) ∧ Q (.ref C) none (del H2 a)) (fun _ _ _ => False)
theorem pmk_err0 {x : Str} {C fI : Addr} {k : Nat} {fd : FuncData} {ps : List Str} {sp : Sp} {p pos : Pos} (T : OexC X.K C) (iC : PySem.W.findIn X.K (.ref C) "__init__" = some (some (.ref fI)))
    (tI : PySem.W.typeIn X.K (.ref fI) = some (.type "function")) (F1 : FnOk X.prog X.w X.K X.mg X.base CX0 k fI fd ps sp) (hr : Room (k + 1) X.A) (hb : Binds X.K fd ps [])
    (hg : Gl X x) (hm : X.mg x = some (.ref C)) (hdb : (x == ("__debug__" : Str)) = false := by decide) : PMk X (.Call (.Name x p) [] [] pos) (tMk0 C sp) := by
  intro pins s σ H Q I h
  obtain ⟨nm, q, N, bs, bm, sn, sub, ab, col, dd, k0, k1, k2, k3, k5, hC, hbm⟩ := T.cls
  refine wpAny_Call_Name_kw (ld_glob I hg hm ?_ hdb)
  refine PySem.W.callWith_K0 I.kIn T.kC ?_
  obtain ⟨hp, g, dr, tk, os⟩ := s
  have fr : H (hp.objs.size + 1) = none := I.hok.fresh (Nat.le_succ _)
  have hq := h _ fr
  have kk : ∀ b o, hp.get? b = some o → ((hp.push (PySem.W.kdv_tup [])).push (PySem.HandSPX.excO C hp.objs.size)).get? b = some o :=
    fun b o e => Heap.get?_push_of_some _ (Heap.get?_push_of_some _ e)
  have hget : ((hp.push (PySem.W.kdv_tup [])).push (PySem.HandSPX.excO C hp.objs.size)).get? (hp.objs.size + 1) = some (PySem.HandSPX.excO C hp.objs.size) := by heap_get
  have I2 := I.laid (t' := tk) (a := hp.objs.size + 1) (o := exo (hp.objs.size + 1) C none) kk (Nat.le_succ _) (exo_ok hget)
  have hl : ([Value.ref (hp.objs.size + 1)] ++ ([] : List Value)).length = ps.length := (F1.len _ _ _ _ hq)
  have r1 : Vals [V.ref (hp.objs.size + 1)] ([Value.ref (hp.objs.size + 1)] ++ []) := .cons (show L2.RelV (V.ref (hp.objs.size + 1)) (Value.ref (hp.objs.size + 1)) from rfl) .nil
  have run := F1.run _ X.stack _ _ ⟨[Value.ref (hp.objs.size + 1)], []⟩ _ _ _ (fun _ _ _ => False) (hr.make C [] []) (I2.env0.make C [] []) (hb _ [Value.ref (hp.objs.size + 1)] I2.kIn hl) r1 hq
  refine wpAny_call (PySem.HandSPX.call_own F.excBase_ValueError (fun Y => PySem.HandSPX.refsVE_contains Y bm hbm) (I.kIn _ _ hC) (PySem.W.looks_findIn I.kIn iC) (fun self => PySem.W.bind_fn I.kIn self tI) (by simp) (codeAny_mono run fun r s' z => ?_))
  match r, z with
  | .error er, z => exact False.elim z
  | .ok (.ret u), z =>
    obtain ⟨v, H2, os2, bare2, un2, hok2, rv, ev, ea, q2⟩ := z
    subst ev
    obtain ⟨h2, g2, d2, t2, os'⟩ := s'
    exact ⟨rv, mk_bare (raises_own T.exC T.tyC) I (Nat.le_succ _) kk un2 hok2 os2 bare2 ea q2⟩
  | .ok .next, z => exact False.elim z
  | .ok .brk, z => exact False.elim z
  | .ok .cont, z => exact False.elim z
end
end Hg

set_option maxHeartbeats 4000000
namespace Hg
open PySem PySem.Spec PyProof.Rows L2
/-! ### a list or a tuple, by a flag -/
def SqK (K : PySem.W.Frag) : Bool → Hp → Addr → List V → Prop
  | true => SqT K
  | false => SqL K
def ItK (K : PySem.W.Frag) : Bool → Addr → It
  | true => Itt K
  | false => Itl K
theorem SqK.inj {X : Cx} {pins : List (Addr × Obj)} {σ : L2.St} {H : Hp} {s : Shared} {k : Bool} {a : Addr} {xs ys : List V} (I : Inv X pins σ H s) (h : SqK X.K k H a xs) (h' : SqK X.K k H a ys) : xs = ys := by
  cases k with
  | true => exact I.tuple_inj h h'
  | false => exact I.list_inj h h'
theorem walk_k {K : PySem.W.Frag} {k : Bool} {a : Addr} {xs : List V} : Walk (ItK K k a) xs.length (fun H => SqK K k H a xs) (YAt xs) := by
  cases k with
  | true => exact ⟨fun i _ hi q => ⟨xs, xs[i], q, by simp [hi]⟩, fun _ q => ⟨xs, q, Nat.le_refl _⟩, fun i H v H' _ q y => ⟨y.1, y.2 xs q⟩⟩
  | false => exact ⟨fun i _ hi q => ⟨xs, xs[i], q, by simp [hi]⟩, fun _ q => ⟨xs, q, Nat.le_refl _⟩, fun i H v H' _ q y => ⟨y.1, y.2 xs q⟩⟩
def iSeq (K : PySem.W.Frag) (te : TE) : TI := fun σ H R => te σ H fun x H1 => ∃ (k : Bool) (a : Addr) (xs : List V), x = .ref a ∧ SqK K k H1 a xs ∧ R (ItK K k a) H1
section
variable {X : Cx} {tg : Expr}
theorem pi_seq {e : Expr} {te : TE} (he : PE X e te) : PI X tg e (iSeq X.K te) := by
  refine ⟨fun pins s σ H R I h => thn (he.run pins s σ H _ I h) ?_⟩
  rintro v s1 ⟨x, H1, I1, r1, k, a, xs, rfl, hq, q⟩
  cases (show v = Value.ref a from r1)
  have one : ∀ b ∈ [s1.heap.objs.size], FpOk X pins H1 b := fun b hb => by
    rw [List.mem_singleton.mp hb]
    exact I1.fpOk (Nat.le_refl _) I1.fresh
  have up : ∀ o, Inv X pins σ H1 { s1 with heap := s1.heap.push o, toks := s1.toks } := fun o => I1.kept (t' := s1.toks) fun b u e => Heap.get?_push_of_some _ e
  cases k with
  | true =>
    obtain ⟨its, rv, p, hz⟩ := I1.tuple hq
    exact wpAny_pyIter_tuple (show s1.heap.IsTuple a its.toArray from p) ⟨_, [s1.heap.objs.size], _, _, H1, rfl, up _, turn_tuple a _, ⟨_, Heap.get?_push_size _ rfl, rfl, rfl⟩, one, q⟩
  | false =>
    obtain ⟨its, rv, p, hz⟩ := I1.list hq
    exact wpAny_pyIter_list p.isList ⟨_, [s1.heap.objs.size], _, _, H1, rfl, up _, turn_list a _, ⟨_, Heap.get?_push_size _ rfl, rfl, rfl⟩, one, q⟩
end
/-! ### zip of two of them -/
def ItzK (K : PySem.W.Frag) (k l : Bool) (a b : Addr) : It :=
  ⟨fun i H => ∃ (xs ys : List V) (x y : V), SqK K k H a xs ∧ SqK K l H b ys ∧ xs[i]? = some x ∧ ys[i]? = some y,
    fun i H v H' => ∃ T x y, v = .ref T ∧ H T = none ∧ H' = upd H T (.tup [x, y]) ∧ (∀ xs, SqK K k H a xs → xs[i]? = some x) ∧ ∀ ys, SqK K l H b ys → ys[i]? = some y,
    fun i H => ∃ xs ys : List V, SqK K k H a xs ∧ SqK K l H b ys ∧ i ≤ xs.length ∧ i ≤ ys.length ∧ (i = xs.length ∨ i = ys.length)⟩
theorem walk_zk {K : PySem.W.Frag} {k l : Bool} {a b : Addr} {xs ys : List V} {n : Nat} (hn : n = min xs.length ys.length) : Walk (ItzK K k l a b) n (fun H => SqK K k H a xs ∧ SqK K l H b ys) (YPair (fun i => xs[i]?) (fun i => ys[i]?)) := by
  subst hn
  refine ⟨fun i _ hi q => ?_, fun _ q => ⟨xs, ys, q.1, q.2, by omega, by omega, by omega⟩, fun i H v H' _ q y => ?_⟩
  · exact ⟨xs, ys, xs[i]'(by omega), ys[i]'(by omega), q.1, q.2, by simp, by simp⟩
  · obtain ⟨T, x, z, h1, h2, h3, h4, h5⟩ := y
    exact ⟨T, x, z, h1, h2, h3, h4 xs q.1, h5 ys q.2⟩
/-- the iterator at i over the sequence at a -/
def IterK : Bool → Heap → Addr → Addr → Nat → Prop
  | true => fun h i a n => h.IsTupleIter i a n
  | false => fun h i a n => h.IsListIter i a n
def AtK : Bool → Heap → Addr → Array Value → Prop
  | true => fun h a its => h.IsTuple a its
  | false => fun h a its => h.IsList a its
theorem IterK.ob {k : Bool} {h : Heap} {i a : Addr} {n : Nat} (x : IterK k h i a n) : ∃ o, h.get? i = some o ∧ ∀ v, o.data ≠ .cell v := by
  cases k with
  | true =>
    obtain ⟨o, e, _, d⟩ := x
    exact ⟨o, e, fun v q => by rw [d] at q; cases q⟩
  | false =>
    obtain ⟨o, e, _, d⟩ := x
    exact ⟨o, e, fun v q => by rw [d] at q; cases q⟩
theorem IterK.at {k : Bool} {h h' : Heap} {i a : Addr} {n : Nat} (x : IterK k h i a n) (q : ∀ o, h.get? i = some o → h'.get? i = some o) : IterK k h' i a n := by
  cases k with
  | true => exact PySem.Heap.IsTupleIter.at x q
  | false => exact PySem.Heap.IsListIter.at x q
def beginObj : Bool → Addr → Obj
  | true, a => { cls := .type "tuple_iterator", data := .fields #[.ref a, .int 0 0] }
  | false, a => { cls := .type "list_iterator", data := .fields #[.ref a, .int 0 0] }
theorem begin_k (k : Bool) (a : Addr) (its : Array Value) : Begins (.ref a) (beginObj k a) fun h => AtK k h a its := by
  cases k with
  | true => exact begins_tuple a its
  | false => exact begins_list a its
theorem draw_k {P : Program} {w : World} {A : Around} (k : Bool) (hh : A.handled = none) (i a : Addr) (hne : a ≠ i) (its : Array Value) :
    Draws P w A i [i, a] its.size (fun n v => its[n]? = some v) (fun n h => IterK k h i a n ∧ AtK k h a its) := by
  cases k with
  | true => exact Draws.tuple hh i a hne its
  | false => exact Draws.list hh i a hne its
theorem at_k {X : Cx} {pins : List (Addr × Obj)} {σ : L2.St} {H : Hp} {s : Shared} {k : Bool} {a : Addr} {xs : List V} (I : Inv X pins σ H s) (h : SqK X.K k H a xs) : ∃ its, Vals xs its ∧ AtK k s.heap a its.toArray ∧ a < s.heap.objs.size := by
  cases k with
  | true =>
    obtain ⟨its, rv, p, _⟩ := I.tuple h
    exact ⟨its, rv, p, p.lt⟩
  | false =>
    obtain ⟨its, rv, p, _⟩ := I.list h
    exact ⟨its, rv, p.isList, p.lt⟩
abbrev ZipTn (k l : Bool) (z TI TO i1 i2 a b : Addr) (n : Nat) (h : Heap) : Prop :=
  IsZip h z TI TO .none ∧ IsTupOf2 h TI (.ref i1) (.ref i2) ∧ (∃ x y, IsTupOf2 h TO x y) ∧ IterK k h i1 a n ∧ IterK l h i2 b n
theorem turn_zk {P : Program} {w : World} {K : PySem.W.Frag} {elts : List Expr} {kk : Nat} {tpos : Pos} {k l : Bool} {a b z TI TO i1 i2 : Addr} (D : ZipSep2 z TI TO i1 i2 [i1, a] [i2, b]) (na : a ≠ i1) (nb : b ≠ i2) :
    Turn P w K (.Tuple elts kk tpos) (ItzK K k l a b) [z, TI, TO, i1, i2] z (ZipTn k l z TI TO i1 i2 a b) := by
  have five : ∀ {c : Addr}, c ∈ [z, TI, TO, i1, i2] → c = z ∨ c = TI ∨ c = TO ∨ c = i1 ∨ c = i2 := fun {c} hc => by simpa using hc
  refine ⟨by simp, fun n h st c hc => ?_, fun n h h' st q => ?_, ?_, ?_, fun A n s Q E st h => wpAny_pyIter_zip st.1 h⟩
  · obtain ⟨hz, hTI, ⟨x, y, hTO⟩, h1, h2⟩ := st
    rcases five hc with e | e | e | e | e <;> subst e
    · exact ⟨_, hz, fun v q => nomatch q⟩
    · exact ⟨_, hTI, fun v q => nomatch q⟩
    · exact ⟨_, hTO, fun v q => nomatch q⟩
    · exact h1.ob
    · exact h2.ob
  · obtain ⟨hz, hTI, ⟨x, y, hTO⟩, h1, h2⟩ := st
    exact ⟨q z (by simp) _ hz, q TI (by simp) _ hTI, ⟨x, y, q TO (by simp) _ hTO⟩, h1.at fun o e => q i1 (by simp) o e, h2.at fun o e => q i2 (by simp) o e⟩
  · intro X hP hw hK hc n pins s σ H E I hf st hg
    subst hP hw hK
    obtain ⟨hz, hTI, ⟨x0, y0, hTO⟩, h1, h2⟩ := st
    obtain ⟨xs, ys, x, y, hqx, hqy, hx, hy⟩ := hg
    obtain ⟨its, rv, p1, _⟩ := at_k I hqx
    obtain ⟨its2, rv2, p2, _⟩ := at_k I hqy
    obtain ⟨u, hu, ru⟩ := rv.get hx
    obtain ⟨u2, hu2, ru2⟩ := rv2.get hy
    have hh : X.A.in1.handled = none := by simpa using I.ok.hd hc
    have b1 : n < its.toArray.size := by simpa using (List.getElem?_eq_some_iff.mp hu).1
    have b2 : n < its2.toArray.size := by simpa using (List.getElem?_eq_some_iff.mp hu2).1
    refine wpAny_pyNext_zipD2_item D (draw_k k hh i1 a na its.toArray) (draw_k l hh i2 b nb its2.toArray) hz hTI hTO ⟨h1, p1⟩ ⟨h2, p2⟩ b1 b2 fun x1 x2 h' tk hx1 hx2 z' TO' st1 st2 hT hsz hk => ?_
    have ex1 : x1 = u := by
      rw [show its.toArray[n]? = some u by simpa using hu] at hx1
      exact (Option.some.inj hx1).symm
    have ex2 : x2 = u2 := by
      rw [show its2.toArray[n]? = some u2 by simpa using hu2] at hx2
      exact (Option.some.inj hx2).symm
    subst ex1 ex2
    have lz : z < s.heap.objs.size := Heap.lt_size hz
    refine ⟨_, rfl, wpAny_letOwnedTupleGo_zip (s := { s with heap := h', toks := tk }) z' fun h'' z'' sb => ?_⟩
    have hT2 : h''.get? s.heap.objs.size = some { cls := .type "tuple", data := .seq #[x1, x2] } := (sb.2 _ (Nat.ne_of_gt lz)).trans hT
    have new : ObjOk X.prog X.w (upd H s.heap.objs.size (.tup [x, y])) h'' s.heap.objs.size (.tup [x, y]) :=
      ⟨by show 2 ≤ sizeLine; decide, [x1, x2], .cons ru (.cons ru2 .nil), ⟨_, hT2, rfl, _, rfl⟩⟩
    have I1 : Inv X pins σ (upd H s.heap.objs.size (.tup [x, y])) { s with heap := h'', toks := tk } := by
      refine I.turnedNew (t' := tk) (ch := [z, TI, TO, i1, i2]) (fun c o hb q => (sb.2 c fun e => hb (by simp [e])).trans ?_) hf (Nat.le_refl _) new
      exact hk c o (fun e => hb (by simp [e])) (fun e => hb (by simp [e])) (fun e => hb (by simp [e])) (fun e => hb (by simp [e])) q
    refine ⟨.ref s.heap.objs.size, _, I1, rfl, ⟨_, x, y, rfl, I.fresh, rfl, fun l hl => by rw [SqK.inj I hl hqx]; exact hx, fun l hl => by rw [SqK.inj I hl hqy]; exact hy⟩, ⟨z'', ?_, ⟨x1, x2, (sb.2 _ D.TOz).trans TO'⟩, ?_, ?_⟩, fun c hcm => ?_⟩
    · exact (sb.2 _ D.TIz).trans (hk _ _ D.TIz D.TITO D.TIi1 D.TIi2 hTI)
    · exact st1.1.at fun o q => (sb.2 _ (Ne.symm D.zi1)).trans q
    · exact st2.1.at fun o q => (sb.2 _ (Ne.symm D.zi2)).trans q
    · have hlt : c < s.heap.objs.size := by
        rcases five hcm with e | e | e | e | e <;> subst e
        · exact lz
        · exact Heap.lt_size hTI
        · exact Heap.lt_size hTO
        · obtain ⟨o, e, _⟩ := h1.ob
          exact Heap.lt_size e
        · obtain ⟨o, e, _⟩ := h2.ob
          exact Heap.lt_size e
      exact (upd_ne (Nat.ne_of_lt hlt)).trans (hf c hcm).1
  · intro X hP hw hK hc n pins s σ H E I hf st hg
    subst hP hw hK
    obtain ⟨hz, hTI, ⟨x0, y0, hTO⟩, h1, h2⟩ := st
    obtain ⟨xs, ys, hqx, hqy, l1, l2, le⟩ := hg
    obtain ⟨its, rv, p1, _⟩ := at_k I hqx
    obtain ⟨its2, rv2, p2, _⟩ := at_k I hqy
    have e1 : its.toArray.size = xs.length := by rw [List.size_toArray, rv.length]
    have e2 : its2.toArray.size = ys.length := by rw [List.size_toArray, rv2.length]
    have hh : X.A.in1.handled = none := by simpa using I.ok.hd hc
    refine wpAny_pyNext_zipD2_end D (draw_k k hh i1 a na its.toArray) (draw_k l hh i2 b nb its2.toArray) hz hTI hTO ⟨h1, p1⟩ ⟨h2, p2⟩ (by omega) (by omega) (by omega) fun h' tk hk => ⟨rfl, ?_⟩
    refine I.turnedL (t' := tk) (ch := [z, TI, TO, i1, i2]) (fun c o hb q => ?_) hf
    exact hk c o (fun e => hb (by simp [e])) (fun e => hb (by simp [e])) (fun e => hb (by simp [e])) (fun e => hb (by simp [e])) q
def iZipK (K : PySem.W.Frag) (ta : TA) : TI := fun σ H R => ta σ H fun vs H1 => ∃ (k l : Bool) (a b : Addr) (xs ys : List V), vs = [.ref a, .ref b] ∧ SqK K k H1 a xs ∧ SqK K l H1 b ys ∧ R (ItzK K k l a b) H1
theorem pi_zipK {X : Cx} {e e2 : Expr} {ta : TA} {p pos tpos : Pos} {elts : List Expr} {kk : Nat} (hg : Gl X "zip") (hm : X.mg "zip" = none) (ha : PA X [e, e2] ta)
    (hs : starEach [e, e2] X.env = (false, eval e X.env) :: starEach [e2] X.env := by rfl) (hpl : (backTo pos (starEach [e2] X.env)).any (·.1) = false := by rfl) :
    PI X (.Tuple elts kk tpos) (.Call (.Name "zip" p) [e, e2] [] pos) (iZipK X.K ta) := by
  refine ⟨fun pins s σ H R I h => ?_⟩
  refine Call_ (ld_blt I hg hm PyProof.Rows.boot_zip (PyProof.Rows.callWith_type1 (thn (ha.run pos pins s σ H _ I h) ?_) hs hpl))
  rintro us s1 ⟨vs, H1, I1, r1, k, l, a, b, xs, ys, rfl, hqx, hqy, q⟩
  obtain ⟨u1, u2, rfl, r1, r2⟩ := Vals.two r1
  cases (show u1 = Value.ref a from r1)
  cases (show u2 = Value.ref b from r2)
  obtain ⟨its, rv, p1, la⟩ := at_k I1 hqx
  obtain ⟨its2, rv2, p2, lb⟩ := at_k I1 hqy
  refine zip_begins2 (begin_k k a its.toArray) (begin_k l b its2.toArray) p1 p2 fun h' hz hTI hTO e1 e2 hsz hk => wpAny_pyIter_zip hz ?_
  have i1 : IterK k h' s1.heap.objs.size a 0 := by
    cases k with
    | true => exact ⟨_, e1, rfl, rfl⟩
    | false => exact ⟨_, e1, rfl, rfl⟩
  have i2 : IterK l h' (s1.heap.objs.size + 1) b 0 := by
    cases l with
    | true => exact ⟨_, e2, rfl, rfl⟩
    | false => exact ⟨_, e2, rfl, rfl⟩
  have ne1 : a ≠ s1.heap.objs.size := Nat.ne_of_lt la
  have ne2 : b ≠ s1.heap.objs.size + 1 := Nat.ne_of_lt (Nat.lt_succ_of_lt lb)
  refine ⟨_, [s1.heap.objs.size + 4, s1.heap.objs.size + 2, s1.heap.objs.size + 3, s1.heap.objs.size, s1.heap.objs.size + 1], _, _, H1, rfl, I1.kept (t' := s1.toks) hk,
    turn_zk (zip_sep2 (N := s1.heap.objs.size) (fp1 := [a]) (fp2 := [b]) (fun c hc => by rw [List.mem_singleton.mp hc]; exact la) (fun c hc => by rw [List.mem_singleton.mp hc]; exact lb)) ne1 ne2, ⟨hz, hTI, ⟨_, _, hTO⟩, i1, i2⟩, fun c hcm => ?_, q⟩
  have hle : s1.heap.objs.size ≤ c := by
    simp only [List.mem_cons, List.not_mem_nil, or_false] at hcm
    rcases hcm with e | e | e | e | e <;> rw [e]
    · exact Nat.le_add_right _ _
    · exact Nat.le_add_right _ _
    · exact Nat.le_add_right _ _
    · exact Nat.le_refl _
    · exact Nat.le_add_right _ _
  exact I1.fpOk hle (I1.hok.fresh hle)
end Hg

set_option maxHeartbeats 8000000
namespace Hg
open PySem PySem.Spec PyProof.Rows L2
abbrev set0 (w : World) : Obj := { cls := .type "set", dict := none, data := .set #[] 0 (.fresh 0 0 (!w.params.followText "set-order")) }
section
variable {P : Program} {w : World} {A : Around} {E : Value → Shared → Prop} {s : Shared}
/-- set(xs), xs a list of ints -/
theorem call_setL {l : Addr} {items : Array Value} (ns : List Int) {Q : Value → Shared → Prop} (hh : A.handled = none) (hl : s.heap.IsList l items) (hit : IntsAre items.toList ns) (hb : ns.length + 1 < scanBound)
    (h : ∀ (h' : Heap) (tk c : Nat), SetR w h' s.heap.objs.size (fun j => decide (j ∈ ns)) c → c ≤ ns.length → (∀ b o, s.heap.get? b = some o → h'.get? b = some o) → Q (.ref s.heap.objs.size) { s with heap := h', toks := tk }) :
    wpAny (model P w) A (call (.type "set") [.ref l]) Q E s := by
  have len : items.size = ns.length := by simpa using IntsAre.length hit
  have ⟨c0, tl, e1⟩ := F.called_set.mro
  have e2 := F.called_set.made
  have e3 := F.called_set.sub
  have e4 := F.called_set.notType
  have e5 := F.called_set.canCreate
  have e6 := F.typeCall_set_1 (.ref l)
  apply wpAny_call
  apply codeAny_of_tree
  show PySem.wpAny _ _ (callAny (.type "set") _) _ _ _
  apply wpAny_pure
  refine ⟨Code.quiet_builtin _ (by decide +kernel), ?_⟩
  apply codeAny_builtin F.entry_type_call
  rw [Around.under_plain (weight_type_call_type "set" [.ref l] []) rfl]
  repeat (any_goals (first | assumption | wp_step))
  refine codeAny_mono (code_set_led1 (.ref l) (E := E) (Q₁ := fun ob s1 => ob = .ref s.heap.objs.size ∧ s1 = { s with heap := s.heap.push (set0 w) }) ⟨rfl, rfl⟩) ?_
  rintro (er | fl) s1 z
  · exact z
  rcases fl with _ | _ | _ | ob
  any_goals exact z
  obtain ⟨rfl, rfl⟩ := z
  have g0 : (s.heap.push (set0 w)).get? s.heap.objs.size = some (set0 w) := Heap.get?_push_size _ rfl
  have ty : Shared.TypeIs { s with heap := s.heap.push (set0 w) } (.ref s.heap.objs.size) "set" := ⟨_, g0, rfl⟩
  have e7 := F.called_set.init.lookup
  have e8 := F.called_set.init.bind (.ref s.heap.objs.size)
  repeat (any_goals (first | assumption | wp_step))
  have fin : codeAny (model P w) A.in1 (.call (.builtin "set.__init__") ⟨[.ref s.heap.objs.size, .ref l], []⟩)
      (wants (fun r s2 => r = .none ∧ ∃ h' tk c, s2 = { s with heap := h', toks := tk } ∧ SetR w h' s.heap.objs.size (fun j => decide (j ∈ ns)) c ∧ c ≤ ns.length ∧ ∀ b o, s.heap.get? b = some o → h'.get? b = some o) E) { s with heap := s.heap.push (set0 w) } := by
    refine codeAny_call_builtin F.called_set.init.plain F.entry_set_init (check_set_init_1 ty ?_)
    obtain ⟨ol, hol, hcl, nl, hdl⟩ := hl
    obtain ⟨ocls, odict, odata, oslots⟩ := ol
    dsimp only at hcl hdl
    subst hcl hdl
    have lt : l < s.heap.objs.size := Heap.lt_size hol
    have hol1 := Heap.get?_push_of_some (set0 w) hol
    have isl : (s.heap.push (set0 w)).IsList l items := ⟨_, hol1, rfl, nl, rfl⟩
    have f1 := F.sub_list_set
    have f2 := F.sub_list_frozenset
    have f3 : (Value.type "list" == Value.type "dict") = false := by decide
    unfold Builtin.«set.__init__» noKeywords Builtin.Frozenset.updateFrom
    generalize hPI : pyIter = PI
    wp_walk
    subst hPI
    apply wpAny_pyIter_list isl
    refine wpAny_bind (wpAny_runValue ?_)
    have h3 : A.in1.in1.in1.handled = none := by simp [hh]
    have sz : (s.heap.push (set0 w)).objs.size = s.heap.objs.size + 1 := Heap.size_push ..
    have nI : l ≠ (s.heap.push (set0 w)).objs.size := by
      rw [sz]
      exact Nat.ne_of_lt (Nat.lt_succ_of_lt lt)
    have nS : s.heap.objs.size ∉ [(s.heap.push (set0 w)).objs.size, l] := by
      rw [sz]
      simp only [List.mem_cons, List.not_mem_nil, or_false, not_or]
      exact ⟨Nat.ne_of_lt (Nat.lt_succ_self _), Nat.ne_of_gt lt⟩
    have val : ∀ (i : Nat) (v : Value), items[i]? = some v → ∃ k t, ns[i]? = some k ∧ v = .int k t := fun i v hv => by
      obtain ⟨t, e⟩ := IntsAre.int_at hit i v ((Array.getElem?_toList ..).trans hv)
      have hi : i < ns.length := len ▸ (Array.getElem?_eq_some_iff.mp hv).1
      exact ⟨ns[i], t, by simp [hi], by rw [e]; simp [hi]⟩
    refine set_update_ints (Walks.list h3 _ l nI items).toS s.heap.objs.size nS ns len hb val (items.size - 0) 0 _ (Nat.sub_zero _ ▸ rfl) (Nat.zero_le _) ⟨⟨_, Heap.get?_push_size _ rfl, rfl, rfl⟩, isl.push _⟩ ⟨0, Nat.le_refl 0, setR_new_at (Heap.get?_push_of_some _ g0)⟩ ?_
    rintro ⟨h', g2, d', tk', os'⟩ c' hm hc' hS'
    obtain rfl : g2 = s.gens := hm.gens
    obtain rfl : d' = s.drawn := hm.drawn
    obtain rfl : os' = s.os := hm.os
    apply wpAny_pure
    show PySem.wpAny _ _ (ret Value.none) _ _ _
    refine wpAny_pure ⟨rfl, h', tk', c', rfl, hS', len ▸ hc', fun b o e => ?_⟩
    have b0 : b < s.heap.objs.size := Heap.lt_size e
    refine hm.heap b o ?_ (Heap.get?_push_of_some _ (Heap.get?_push_of_some _ e))
    rw [sz]
    simp only [List.mem_cons, List.not_mem_nil, or_false, not_or]
    exact ⟨Nat.ne_of_lt b0, Nat.ne_of_lt (Nat.lt_succ_of_lt b0)⟩
  refine codeAny_mono fin ?_
  rintro (er | fl) s2 z
  · exact z
  rcases fl with _ | _ | _ | r2
  any_goals exact z
  obtain ⟨rfl, h', tk, c, rfl, hS, hc, hk⟩ := z
  repeat (any_goals (first | assumption | wp_step))
  exact h _ _ _ hS hc hk
end
end Hg

set_option maxHeartbeats 4000000
namespace Hg
open PySem PySem.Spec PyProof.Rows L2
/-! ### a def of the text, its global name, its arguments -/
structure DefK (K : PySem.W.Frag) (mg : Str → Option Value) (x : Str) (st : Stmt) (ps : List Str) (f : Addr) (fd : FuncData) : Prop where
  mg : mg x = some (.ref f)
  fn : Fun K x x st f fd
  bd : Binds K fd ps []
/-! ### heaps -/
def Ex (H H' : Hp) : Prop := ∀ a o, H a = some o → H' a = some o
theorem Ex.refl (H : Hp) : Ex H H := fun _ _ h => h
theorem Ex.trans {A B C : Hp} (x : Ex A B) (y : Ex B C) : Ex A C := fun a o h => y a o (x a o h)
theorem Ex.new {H : Hp} {p : Addr} {o : HO} (h : H p = none) : Ex H (upd H p o) := fun a u e => (upd_ne (ne_of_none e h)).trans e
theorem Ex.up {G H : Hp} {p : Addr} {o : HO} (x : Ex G H) (h : G p = none) : Ex G (upd H p o) := fun a u e => (upd_ne (ne_of_none e h)).trans (x _ _ e)
theorem Ex.free {H H' : Hp} (x : Ex H H') {p : Addr} (h : H' p = none) : H p = none := by
  cases e : H p with
  | none => rfl
  | some o =>
    rw [x p o e] at h
    cases h
theorem Ex.seq {K : PySem.W.Frag} {k : Bool} {H H' : Hp} {a : Addr} {xs : List V} (e : Ex H H') (h : SqK K k H a xs) : SqK K k H' a xs := by
  have rd : ∀ {u : HO}, Rd H a u → Rd H' a u := fun {u} z => z.elim (fun z => .inl (e _ _ z)) fun ⟨o, z⟩ => .inr ⟨o, e _ _ z⟩
  cases k with
  | true => exact Or.imp rd id h
  | false => exact Or.imp rd id h
theorem SqK.lst {K : PySem.W.Frag} {H : Hp} {a : Addr} {xs : List V} (h : H a = some (.lst xs)) : SqK K false H a xs := .inl (.inl h)
theorem SqK.tup {K : PySem.W.Frag} {H : Hp} {a : Addr} {xs : List V} (h : H a = some (.tup xs)) : SqK K true H a xs := .inl (.inl h)
theorem SqK.or {K : PySem.W.Frag} {k : Bool} {H : Hp} {a : Addr} {xs : List V} (h : SqK K k H a xs) : SqL K H a xs ∨ SqT K H a xs := by
  cases k with
  | true => exact .inr h
  | false => exact .inl h
/-! ### the drawing stream of a law: at s the list [at q the script's rest, n, c, k] -/
structure Strm (s q : Addr) (B : Nat) (H : Hp) : Prop where
  ne : s ≠ q
  st : ∃ (n c k : Int) (ns : List Int), H s = some (.lst [.ref q, .int n, .int c, .int k]) ∧ H q = some (.lst (ns.map V.int)) ∧ 0 ≤ n ∧ 0 ≤ c ∧ c ≤ (B : Int) ∧ 0 ≤ k ∧ k < 2147483647
/-- G: what lies beside the stream -/
structure Ov (s q : Addr) (B : Nat) (G H : Hp) : Prop where
  sub : Ex G H
  gs : G s = none
  gq : G q = none
  str : Strm s q B H
section
variable {s q : Addr} {B : Nat} {G H : Hp}
theorem Ov.weak (x : Ov s q B G H) {G' : Hp} (e : Ex G' G) : Ov s q B G' H := ⟨e.trans x.sub, e.free x.gs, e.free x.gq, x.str⟩
theorem Ov.more (x : Ov s q B G H) {B' : Nat} (h : B ≤ B') : Ov s q B' G H := by
  obtain ⟨a, b, c, d, n, k, l, ns, e1, e2, e3, e4, e5, e6⟩ := x
  exact ⟨a, b, c, d, n, k, l, ns, e1, e2, e3, e4, by omega, e6⟩
theorem Ov.hs (x : Ov s q B G H) : ∃ o, H s = some o := let ⟨_, _, _, _, e, _⟩ := x.str.st; ⟨_, e⟩
theorem Ov.hq (x : Ov s q B G H) : ∃ o, H q = some o := let ⟨_, _, _, _, _, e, _⟩ := x.str.st; ⟨_, e⟩
/-- a new object beside the stream -/
theorem Ov.new (x : Ov s q B G H) {p : Addr} {o : HO} (hp : H p = none) : Ov s q B (upd G p o) (upd H p o) := by
  have gp : G p = none := x.sub.free hp
  obtain ⟨os, hs⟩ := x.hs
  obtain ⟨oq, hq⟩ := x.hq
  have ns : s ≠ p := ne_of_none hs hp
  have nq : q ≠ p := ne_of_none hq hp
  obtain ⟨ne, n, k, l, ms, e1, e2, e3⟩ := x.str
  refine ⟨fun a u e => ?_, (upd_ne ns).trans x.gs, (upd_ne nq).trans x.gq, ne, n, k, l, ms, (upd_ne ns).trans e1, (upd_ne nq).trans e2, e3⟩
  by_cases h : a = p
  · subst h
    rw [upd_same] at e ⊢
    exact e
  · rw [upd_ne h] at e ⊢
    exact x.sub _ _ e
/-- a new object that nobody keeps -/
theorem Ov.drop (x : Ov s q B G H) {p : Addr} {o : HO} (hp : H p = none) : Ov s q B G (upd H p o) := (x.new hp).weak (Ex.new (x.sub.free hp))
/-- an object of G is changed -/
theorem Ov.put (x : Ov s q B G H) {p : Addr} {o u : HO} (hp : G p = some u) : Ov s q B (upd G p o) (upd H p o) := by
  have ns : s ≠ p := fun e => by rw [← e, x.gs] at hp; cases hp
  have nq : q ≠ p := fun e => by rw [← e, x.gq] at hp; cases hp
  obtain ⟨ne, n, k, l, ms, e1, e2, e3⟩ := x.str
  refine ⟨fun a u e => ?_, (upd_ne ns).trans x.gs, (upd_ne nq).trans x.gq, ne, n, k, l, ms, (upd_ne ns).trans e1, (upd_ne nq).trans e2, e3⟩
  by_cases h : a = p
  · subst h
    rw [upd_same] at e ⊢
    exact e
  · rw [upd_ne h] at e ⊢
    exact x.sub _ _ e
end
/-! ### data of ints -/
theorem dpAll_ints {K : PySem.W.Frag} {H : Hp} : ∀ ns : List Int, DpAll K H (ns.map V.int) (ns.map PyData.int)
  | [] => .nil
  | n :: ns => .cons (.int n) (dpAll_ints ns)
theorem dp_l {K : PySem.W.Frag} {H : Hp} {a : Addr} {ns : List Int} (h : SqL K H a (ns.map V.int)) : Dp K H (.ref a) (.list (ns.map PyData.int)) := .lst h (dpAll_ints ns)
theorem dp_t {K : PySem.W.Frag} {H : Hp} {a : Addr} {ns : List Int} (h : SqT K H a (ns.map V.int)) : Dp K H (.ref a) (.tuple (ns.map PyData.int)) := .tup h (dpAll_ints ns)
theorem lay_ints : ∀ ns : List Int, PyData.canLayAll0 (ns.map PyData.int) = true
  | [] => rfl
  | n :: ns => by simp [PyData.canLayAll0, PyData.canLay0, lay_ints ns]
end Hg

set_option maxHeartbeats 4000000
namespace Hg
open PySem PySem.Spec PyProof.Rows L2
theorem depth_ints : ∀ ns : List Int, PyData.depthAll (ns.map PyData.int) ≤ 1
  | [] => by simp [PyData.depthAll]
  | n :: ns => by
    have := depth_ints ns
    simp [PyData.depthAll, PyData.depth]
    omega
theorem shaped_l (ns : List Int) : SeqAt.shaped (.list (ns.map PyData.int)) = true := by
  have := depth_ints ns
  simp [SeqAt.shaped, PyData.canLay0, PyData.depth, lay_ints]
  omega
theorem shaped_t (ns : List Int) : SeqAt.shaped (.tuple (ns.map PyData.int)) = true := by
  have := depth_ints ns
  simp [SeqAt.shaped, PyData.canLay0, PyData.depth, lay_ints]
  omega
theorem eqv_ints : ∀ xs ys : List Int, PyData.eqvAll (xs.map PyData.int) (ys.map PyData.int) = decide (xs = ys)
  | [], [] => by simp [PyData.eqvAll]
  | [], y :: ys => by simp [PyData.eqvAll]
  | x :: xs, [] => by simp [PyData.eqvAll]
  | x :: xs, y :: ys => by
    have := eqv_ints xs ys
    by_cases h : x = y
    · simp [PyData.eqvAll, PyData.eqv, this, h]
    · simp [PyData.eqvAll, PyData.eqv, this, h]
theorem eqv_l (xs ys : List Int) : PyData.eqv (.list (xs.map PyData.int)) (.list (ys.map PyData.int)) = decide (xs = ys) := by
  rw [PyData.eqv]
  exact eqv_ints xs ys
theorem eqv_t (xs ys : List Int) : PyData.eqv (.tuple (xs.map PyData.int)) (.tuple (ys.map PyData.int)) = decide (xs = ys) := by
  rw [PyData.eqv]
  exact eqv_ints xs ys
/-! ### items at a place -/
theorem at_lt {α : Type} {xs : List α} {i : Int} (h0 : 0 ≤ i) (h1 : i < xs.length) : ∃ v, atI xs i = some v ∧ v ∈ xs := by
  obtain ⟨j, rfl⟩ := Int.eq_ofNat_of_zero_le h0
  have hj : j < xs.length := by omega
  exact ⟨xs[j], atI_nat (by simp [hj]), List.getElem_mem ..⟩
/-! ### sets of ints -/
def rSetL (K : PySem.W.Frag) (w : World) : List V → Hp → VK → Prop := fun vs H Q => ∃ (a : Addr) (ns : List Int), vs = [.ref a] ∧ SqL K H a (ns.map V.int) ∧ ns.length ≤ 4000 ∧
  ∀ (p : Addr) (ms : List Int), H p = none → ms.Nodup → (∀ k, k ∈ ms ↔ k ∈ ns) → Q (.ref p) (upd H p (SetO w p (fun j => decide (j ∈ ns)) ms.length))
theorem cr_setL {X : Cx} (hc : X.calm = true) : CallR X (.type "set") (rSetL X.K X.w) := by
  intro pins s σ H vs us Q I r h
  obtain ⟨a, ns, rfl, hq, hl, q⟩ := h
  obtain ⟨u, rfl, ru⟩ := Vals.one r
  cases (show u = Value.ref a from ru)
  obtain ⟨its, rv, p, hz⟩ := I.list hq
  refine call_setL ns (I.ok.hd hc) p.isList (by simpa using intsAre_of rv) (by unfold scanBound; omega) fun h' tk c hS hcn hk => ?_
  have I2 : Inv X pins σ (upd H s.heap.objs.size (SetO X.w s.heap.objs.size (fun j => decide (j ∈ ns)) c)) { s with heap := h', toks := tk } := I.laid hk (Nat.le_refl _) (setO_new hS)
  obtain ⟨o, es, ep, t, e1, e2, e3, e4, e5, e6, e7, e8, e9, e10⟩ := id hS
  have hlen : (es.toList.map keyOf).length = c := by
    rw [List.length_map, Array.length_toList, e9]
  refine ⟨.ref _, _, I2, rfl, ?_⟩
  rw [← hlen]
  refine q _ _ I.fresh e5 fun k => ?_
  have := e6 k
  rw [← this]
  simp
end Hg

set_option maxHeartbeats 4000000
namespace Hg
open PySem PySem.Spec PyProof.Rows L2
def picked {α : Type} (keep : Nat → Bool) (val : Nat → α) (n : Nat) : List α := ((List.range n).filter keep).map val
theorem picked_succ {α : Type} (keep : Nat → Bool) (val : Nat → α) (n : Nat) : picked keep val (n + 1) = if keep n = true then picked keep val n ++ [val n] else picked keep val n := by
  unfold picked
  rw [List.range_succ, List.filter_append]
  by_cases h : keep n = true
  · simp [h]
  · simp [h]
theorem picked_len {α : Type} (keep : Nat → Bool) (val : Nat → α) (n : Nat) : (picked keep val n).length ≤ n := by
  unfold picked
  rw [List.length_map]
  exact Nat.le_trans (List.length_filter_le _ _) (by simp)
theorem picked_all {α : Type} (val : Nat → α) (n : Nat) : picked (fun _ => true) val n = (List.range n).map val := by
  unfold picked
  rw [List.filter_eq_self.mpr fun _ _ => rfl]
theorem map_range {α β : Type} (xs : List α) (f : α → β) (val : Nat → β) (h : ∀ i x, xs[i]? = some x → val i = f x) : (List.range xs.length).map val = xs.map f := by
  apply List.ext_getElem?
  intro i
  rw [List.getElem?_map, List.getElem?_map]
  by_cases hi : i < xs.length
  · rw [List.getElem?_range hi]
    simp [hi]
    exact h i _ (by simp [hi])
  · simp [hi]
theorem picked_map {α β : Type} (keep : Nat → Bool) (val : Nat → α) (f : α → β) (n : Nat) : (picked keep val n).map f = picked keep (fun i => f (val i)) n := by
  unfold picked
  rw [List.map_map]
  rfl
section
variable {J : It} {n : Nat} {G : Hp → Prop} {Y : Nat → Hp → V → Hp → Prop}
/-- a list comprehension whose element changes nothing that stands -/
theorem lc_pure (w : Walk J n G Y) {g : TG} {tt : TT} {te : TE} {vs : List Nat} {σ : L2.St} {H1 : Hp} {D : Addr} {Qd : Hp → Prop} (hD : H1 D = none) (keep : Nat → Bool) (val : Nat → V) (hn : n ≤ 1000000) (hG : ∀ H, Ex H1 H → G H)
    (hs : ∀ i x Hc Hy, i < n → Ex H1 Hc → Y i Hc x Hy → ∀ (Qe : VK) (Qn : Hp → Prop), (keep i = true → ∀ H4, Ex Hc H4 → Qe (val i) H4) → (keep i = false → ∀ H3, Ex Hc H3 → Qn H3) →
      g x (wipe σ vs) Hy fun σ2 H2 => wipe σ2 vs = wipe σ vs ∧ tt σ2 H2 fun b H3 => if b = true then te σ2 H3 Qe else Qn H3)
    (hd : ∀ H, Ex H1 H → H D = some (.lst (picked keep val n)) → Qd H) :
    ∃ W : Nat → Nat → Hp → Prop, (∃ m, W 0 m (upd H1 D (.lst []))) ∧ ∀ i m H, W i m H →
      (J.stop i H ∧ Qd H) ∨ (J.go i H ∧ ∃ Nx : Hp → Prop, (∀ H', Nx H' → ∃ m', m' < m ∧ W (i + 1) m' H') ∧ ∀ x H', J.yld i H x H' → g x (wipe σ vs) H' fun σ2 H2 => wipe σ2 vs = wipe σ vs ∧ tt σ2 H2 fun b H3 =>
        if b = true then te σ2 H3 fun y H4 => ∃ acc, H4 D = some (.lst acc) ∧ acc.length < sizeLine ∧ Nx (upd H4 D (.lst (acc ++ [y]))) else Nx H3) := by
  refine lc_it w (fun i H => Ex H1 H ∧ H D = some (.lst (picked keep val i))) ⟨Ex.new hD, upd_same⟩ (fun i H _ p => hG H p.1) (fun i x Hc Hy hi p y => ?_) (fun H p => hd H p.1 p.2)
  refine hs i x Hc Hy hi p.1 y _ _ (fun hk H4 e => ?_) (fun hk H3 e => ?_)
  · refine ⟨_, e _ _ p.2, Nat.lt_of_le_of_lt (picked_len _ _ _) ?_, (p.1.trans e).up hD, ?_⟩
    · rw [sizeLine_eq]
      omega
    · rw [upd_same, picked_succ, if_pos hk]
  · refine ⟨p.1.trans e, ?_⟩
    rw [picked_succ, if_neg (by rw [hk]; decide)]
    exact e _ _ p.2
/-- a list comprehension whose element draws from the stream: at most c draws a turn -/
theorem lc_strm (w : Walk J n G Y) {g : TG} {tt : TT} {te : TE} {vs : List Nat} {σ : L2.St} {G1 H1 : Hp} {D s q : Addr} {B c : Nat} {Qd : Hp → Prop} (hO : Ov s q B G1 H1) (hD : H1 D = none) (P : Nat → List V → Prop) (hP : P 0 [])
    (hl : ∀ i acc, i ≤ n → P i acc → acc.length ≤ i) (hn : n ≤ 1000000) (hG : ∀ i H acc, i ≤ n → Ov s q (B + c * i) (upd G1 D (.lst acc)) H → G H)
    (hs : ∀ i x Hc Hy acc, i < n → P i acc → Ov s q (B + c * i) (upd G1 D (.lst acc)) Hc → Y i Hc x Hy → ∀ (Qe : VK) (Qn : Hp → Prop), (∀ y H4, P (i + 1) (acc ++ [y]) → Ov s q (B + c * (i + 1)) (upd G1 D (.lst acc)) H4 → Qe y H4) →
      (∀ H3, P (i + 1) acc → Ov s q (B + c * (i + 1)) (upd G1 D (.lst acc)) H3 → Qn H3) →
      g x (wipe σ vs) Hy fun σ2 H2 => wipe σ2 vs = wipe σ vs ∧ tt σ2 H2 fun b H3 => if b = true then te σ2 H3 Qe else Qn H3)
    (hd : ∀ H acc, P n acc → Ov s q (B + c * n) (upd G1 D (.lst acc)) H → Qd H) :
    ∃ W : Nat → Nat → Hp → Prop, (∃ m, W 0 m (upd H1 D (.lst []))) ∧ ∀ i m H, W i m H →
      (J.stop i H ∧ Qd H) ∨ (J.go i H ∧ ∃ Nx : Hp → Prop, (∀ H', Nx H' → ∃ m', m' < m ∧ W (i + 1) m' H') ∧ ∀ x H', J.yld i H x H' → g x (wipe σ vs) H' fun σ2 H2 => wipe σ2 vs = wipe σ vs ∧ tt σ2 H2 fun b H3 =>
        if b = true then te σ2 H3 fun y H4 => ∃ acc, H4 D = some (.lst acc) ∧ acc.length < sizeLine ∧ Nx (upd H4 D (.lst (acc ++ [y]))) else Nx H3) := by
  refine lc_it w (fun i H => ∃ acc, P i acc ∧ Ov s q (B + c * i) (upd G1 D (.lst acc)) H) ⟨[], hP, hO.new hD⟩ (fun i H hi p => ?_) (fun i x Hc Hy hi p y => ?_) (fun H p => ?_)
  · obtain ⟨acc, _, o⟩ := p
    exact hG i H acc hi o
  · obtain ⟨acc, pa, o⟩ := p
    refine hs i x Hc Hy acc hi pa o y _ _ (fun y H4 pa' o' => ?_) (fun H3 pa' o' => ⟨acc, pa', o'⟩)
    have hA : H4 D = some (.lst acc) := o'.sub _ _ upd_same
    refine ⟨acc, hA, ?_, acc ++ [y], pa', ?_⟩
    · have := hl i acc (Nat.le_of_lt hi) pa
      rw [sizeLine_eq]
      omega
    · have z := o'.put (o := .lst (acc ++ [y])) upd_same
      rw [upd_upd] at z
      exact z
  · obtain ⟨acc, pa, o⟩ := p
    exact hd H acc pa o
end
end Hg

set_option maxHeartbeats 4000000
namespace Hg
open PySem PySem.Spec PyProof.Rows L2
/-! ### the rules with the written part said (within a comprehension's block it must not hang on the block) -/
section
variable {X : Cx} {K : PySem.W.Frag}
theorem kAdd (hK : X.K = K := by rfl) : OpR X (binaryOp .Add) (rPlus K) := hK ▸ oAdd
theorem kEq (hu : X.A.units + 64 < cLine) (hK : X.K = K := by rfl) : OpR X (compareOp .Eq) (rEqA K) := hK ▸ oEq hu
theorem kNe (hu : X.A.units + 64 < cLine) (hK : X.K = K := by rfl) : OpR X (compareOp .NotEq) (rNeA K) := hK ▸ oNe hu
theorem kSl (hK : X.K = K := by rfl) : SlR X (rSlAll K) := hK ▸ oSl
theorem kIx (hK : X.K = K := by rfl) : IxR X (rIx K) := hK ▸ ix_seq
theorem kIn (hK : X.K = K := by rfl) : OpR X (compareOp .In) (rIn K false) := hK ▸ op_in_seq
theorem kNotIn (hK : X.K = K := by rfl) : OpR X (compareOp .NotIn) (rIn K true) := hK ▸ op_notIn_seq
theorem kIsi (hK : X.K = K := by rfl) : CallR X (.builtin "isinstance") (rIsi K) := hK ▸ call_isi
def rLenK (K : PySem.W.Frag) : List V → Hp → VK → Prop := fun xs H Q => ∃ p ys, xs = [.ref p] ∧ (SqL K H p ys ∨ SqT K H p ys) ∧ Q (.int ys.length) H
theorem kLen (hK : X.K = K := by rfl) : CallR X (.builtin "len") (rLenK K) := hK ▸ call_len_seq
theorem kSum (hc : X.calm = true) (hK : X.K = K := by rfl) : CallR X (.builtin "sum") (rSum K) := hK ▸ cr_sum hc
theorem kAll (hc : X.calm = true) (hK : X.K = K := by rfl) : CallR X (.builtin "all") (rAll K) := hK ▸ cr_all hc
theorem kAny (hc : X.calm = true) (hK : X.K = K := by rfl) : CallR X (.builtin "any") (rAny K) := hK ▸ cr_any hc
def rTupK (K : PySem.W.Frag) : List V → Hp → VK → Prop := fun xs H Q => ∃ p ys, xs = [.ref p] ∧ ((SqL K H p ys ∧ ∀ l, H l = none → Q (.ref l) (upd H l (.tup ys))) ∨ (SqT K H p ys ∧ Q (.ref p) H))
theorem kTup (hK : X.K = K := by rfl) : CallR X (.type "tuple") (rTupK K) := hK ▸ call_tuple_of
def rLstK (K : PySem.W.Frag) : List V → Hp → VK → Prop := fun xs H Q => ∃ p ys, xs = [.ref p] ∧ (SqL K H p ys ∨ SqT K H p ys) ∧ ∀ l, H l = none → Q (.ref l) (upd H l (.lst ys))
theorem kLst (hK : X.K = K := by rfl) : CallR X (.type "list") (rLstK K) := hK ▸ call_list_of
theorem kSet (hc : X.calm = true) (hK : X.K = K := by rfl) : CallR X (.type "set") (rSetL K X.w) := hK ▸ cr_setL hc
theorem kSeq {tg e : Expr} {te : TE} (he : PE X e te) (hK : X.K = K := by rfl) : PI X tg e (iSeq K te) := hK ▸ pi_seq he
theorem kZip {e e2 : Expr} {ta : TA} {p pos tpos : Pos} {elts : List Expr} {kk : Nat} (hg : Gl X "zip") (hm : X.mg "zip" = none) (ha : PA X [e, e2] ta) (hK : X.K = K := by rfl)
    (hs : starEach [e, e2] X.env = (false, eval e X.env) :: starEach [e2] X.env := by rfl) (hpl : (backTo pos (starEach [e2] X.env)).any (·.1) = false := by rfl) :
    PI X (.Tuple elts kk tpos) (.Call (.Name "zip" p) [e, e2] [] pos) (iZipK K ta) := hK ▸ pi_zipK hg hm ha hs hpl
theorem kPgT {es : List Expr} {k : Nat} {pos : Pos} {t : TGs} {n : Nat} (hc : X.calm = true) (h : PGs X es t) (hK : X.K = K := by rfl)
    (hn : (assignEach es X.env).length = n := by rfl) (hst : (assignEach es X.env).findIdx? (·.1) = none := by rfl) : PG X (.Tuple es k pos) (gTup K n t) := hK ▸ pg_tup hc h hn hst
theorem kPgL {es : List Expr} {k : Nat} {pos : Pos} {t : TGs} {n : Nat} (hc : X.calm = true) (h : PGs X es t) (hK : X.K = K := by rfl)
    (hn : (assignEach es X.env).length = n := by rfl) (hst : (assignEach es X.env).findIdx? (·.1) = none := by rfl) : PG X (.Tuple es k pos) (gLst K n t) := hK ▸ pg_lst hc h hn hst
/-- an error of a callee that can't come -/
theorem passX {P : Program} {w : World} : Passes (L2.CX P w) X E0 := fun _ _ _ _ _ _ _ h => by
  obtain ⟨a, B, H', cls, d, _, _, _, _, _, _, _, z⟩ := h
  exact z.elim
end
end Hg

set_option maxHeartbeats 4000000
namespace Hg
open PySem PySem.Spec PyProof.Rows L2
/-- a block cut behind its first row -/
theorem cut {t u : TS} {D : Ends} {σ : L2.St} {H : Hp} (R : L2.St → Hp → Prop) (h2 : ∀ σ' H', R σ' H' → u D σ' H') (h1 : ∀ N : L2.St → Hp → Prop, (∀ σ' H', R σ' H' → N σ' H') → t { D with nx := N } σ H) : tSeq t u D σ H := h1 _ h2
theorem ixk {K : PySem.W.Frag} {k : Bool} {H : Hp} {p : Addr} {xs : List V} {i : Int} {v : V} {Q : VK} (h : SqK K k H p xs) (e : atI xs i = some v) (q : Q v H) : rIx K (.ref p) (.int i) H Q := by
  cases k with
  | true => exact .inr (.inl ⟨p, xs, i, v, rfl, rfl, h, e, q⟩)
  | false => exact .inl ⟨p, xs, i, v, rfl, rfl, h, e, q⟩
theorem ixl {K : PySem.W.Frag} {H : Hp} {p : Addr} {xs : List V} {i : Int} {v : V} {Q : VK} (h : H p = some (.lst xs)) (e : atI xs i = some v) (q : Q v H) : rIx K (.ref p) (.int i) H Q := ixk (k := false) (SqK.lst h) e q
theorem ixt {K : PySem.W.Frag} {H : Hp} {p : Addr} {xs : List V} {i : Int} {v : V} {Q : VK} (h : H p = some (.tup xs)) (e : atI xs i = some v) (q : Q v H) : rIx K (.ref p) (.int i) H Q := ixk (k := true) (SqK.tup h) e q
section
variable {s q : Addr} {B B' : Nat} {G H : Hp}
theorem Ov.setS (x : Ov s q B G H) {ns : List Int} (hq : H q = some (.lst (ns.map V.int))) {n c k : Int} (h0 : 0 ≤ n) (h1 : 0 ≤ c) (h2 : c ≤ (B' : Int)) (h3 : 0 ≤ k) (h4 : k < 2147483647) : Ov s q B' G (upd H s (.lst [.ref q, .int n, .int c, .int k])) := by
  refine ⟨fun a o e => ?_, x.gs, x.gq, x.str.ne, n, c, k, ns, upd_same, (upd_ne (Ne.symm x.str.ne)).trans hq, h0, h1, h2, h3, h4⟩
  have ns : a ≠ s := fun z => by rw [z, x.gs] at e; cases e
  exact (upd_ne ns).trans (x.sub _ _ e)
theorem Ov.setQ (x : Ov s q B G H) (ns : List Int) : Ov s q B G (upd H q (.lst (ns.map V.int))) := by
  obtain ⟨ne, n, c, k, ms, e1, e2, e3⟩ := x.str
  refine ⟨fun a o e => ?_, x.gs, x.gq, ne, n, c, k, ns, (upd_ne ne).trans e1, upd_same, e3⟩
  have nq : a ≠ q := fun z => by rw [z, x.gq] at e; cases e
  exact (upd_ne nq).trans (x.sub _ _ e)
theorem upd_swap {G : Hp} {p L : Addr} {a b t : HO} (h : p ≠ L) : upd (upd (upd G L a) p t) L b = upd (upd G p t) L b := by
  funext x
  by_cases e1 : x = L
  · subst e1
    rw [upd_same, upd_same]
  · rw [upd_ne e1, upd_ne e1]
    by_cases e2 : x = p
    · subst e2
      rw [upd_same, upd_same]
    · rw [upd_ne e2, upd_ne e2, upd_ne e1]
/-- nothing that stands is changed -/
theorem Ov.ex (x : Ov s q B G H) {H' : Hp} (e : Ex H H') : Ov s q B G H' := by
  obtain ⟨a, b, c, d, n, k, l, ns, e1, e2, e3⟩ := x
  exact ⟨a.trans e, b, c, d, n, k, l, ns, e _ _ e1, e _ _ e2, e3⟩
/-- draw(stream, m): what a law's draw keeps -/
def spDraw : Sp := fun vs H Q _ => ∃ (s q : Addr) (B : Nat) (G : Hp) (m : Int), vs = [.ref s, .int m] ∧ Ov s q B G H ∧ B < 1000000 ∧ 0 < m ∧ m.natAbs < 2 ^ 8000 ∧ ∀ (r : Int) (H' : Hp), 0 ≤ r → r < m → Ov s q (B + 1) G H' → Q (.int r) H'
end
end Hg

set_option maxHeartbeats 4000000
namespace Hg
open PySem PySem.Spec PyProof.Rows L2
open AutoSeq1 (wpAny_loadPart')
/-! ### enumerate over a list or a tuple -/
def IteK (K : PySem.W.Frag) (k : Bool) (a : Addr) : It :=
  ⟨fun i H => ∃ (xs : List V) (x : V), SqK K k H a xs ∧ xs[i]? = some x,
    fun i H v H' => ∃ T x, v = .ref T ∧ H T = none ∧ H' = upd H T (.tup [.int (i : Nat), x]) ∧ ∀ xs, SqK K k H a xs → xs[i]? = some x,
    fun i H => ∃ xs : List V, SqK K k H a xs ∧ i = xs.length⟩
theorem walk_ek {K : PySem.W.Frag} {k : Bool} {a : Addr} {xs : List V} : Walk (IteK K k a) xs.length (fun H => SqK K k H a xs) (YPair (fun i => some (.int (i : Nat))) (fun i => xs[i]?)) := by
  refine ⟨fun i _ hi q => ⟨xs, xs[i], q, by simp [hi]⟩, fun _ q => ⟨xs, q, rfl⟩, fun i H v H' _ q y => ?_⟩
  obtain ⟨T, x, h1, h2, h3, h4⟩ := y
  exact ⟨T, _, x, h1, h2, h3, rfl, h4 xs q⟩
theorem turn_ek {P : Program} {w : World} {K : PySem.W.Frag} {elts : List Expr} {kk : Nat} {tpos : Pos} {k : Bool} {a e it : Addr} (na : a ≠ it) (ne : e ≠ it) (nea : e ≠ a) :
    Turn P w K (.Tuple elts kk tpos) (IteK K k a) [e, it] e (fun i h => (∃ old, IsEnum h e it ((i : Nat) : Int) old) ∧ IterK k h it a i) := by
  have two : ∀ {c : Addr}, c ∈ [e, it] → c = e ∨ c = it := fun {c} hc => by simpa using hc
  refine ⟨by simp, fun n h st c hc => ?_, fun n h h' st q => ?_, ?_, ?_, fun A n s Q E st h => let ⟨⟨_, he⟩, _⟩ := st; wpAny_pyIter_enum he h⟩
  · obtain ⟨⟨old, he⟩, h1⟩ := st
    rcases two hc with z | z <;> subst z
    · exact ⟨_, he, fun v q => nomatch q⟩
    · exact h1.ob
  · obtain ⟨⟨old, he⟩, h1⟩ := st
    exact ⟨⟨old, q e (by simp) _ he⟩, h1.at fun o z => q it (by simp) o z⟩
  · intro X hP hw hK hc n pins s σ H E I hf st hg
    subst hP hw hK
    obtain ⟨⟨old, he⟩, h1⟩ := st
    obtain ⟨xs, x, hqx, hx⟩ := hg
    obtain ⟨its, rv, p1, _⟩ := at_k I hqx
    obtain ⟨u, hu, ru⟩ := rv.get hx
    have hh : X.A.in1.handled = none := by simpa using I.ok.hd hc
    have b1 : n < its.toArray.size := by simpa using (List.getElem?_eq_some_iff.mp hu).1
    have hel : e < s.heap.objs.size := Heap.lt_size he
    have hil : it < s.heap.objs.size := by obtain ⟨o, q, _⟩ := h1.ob; exact Heap.lt_size q
    have hef : e ∉ [it, a] := by simp [ne, nea]
    refine wpAny_pyNext_enum_itemD (draw_k k hh it a na its.toArray) he ⟨h1, p1⟩ b1 ne hef fun x1 h' tk hx1 ho st1 hT hsz hk => ?_
    have ex1 : x1 = u := by
      rw [show its.toArray[n]? = some u by simpa using hu] at hx1
      exact (Option.some.inj hx1).symm
    subst ex1
    refine ⟨_, rfl, wpAny_letOwnedTupleGo_enum (s := { s with heap := h', toks := tk + 1 }) ho fun h'' he' sb => ?_⟩
    have hT2 : h''.get? s.heap.objs.size = some { cls := .type "tuple", data := .seq #[.int n tk, x1] } := (sb.2 _ (Nat.ne_of_gt hel)).trans hT
    have new : ObjOk X.prog X.w (upd H s.heap.objs.size (.tup [.int (n : Nat), x])) h'' s.heap.objs.size (.tup [.int (n : Nat), x]) :=
      ⟨by show 2 ≤ sizeLine; decide, [.int n tk, x1], .cons ⟨_, rfl⟩ (.cons ru .nil), ⟨_, hT2, rfl, _, rfl⟩⟩
    have I1 : Inv X pins σ (upd H s.heap.objs.size (.tup [.int (n : Nat), x])) { s with heap := h'', toks := tk + 1 } :=
      I.turnedNew (t' := tk + 1) (ch := [e, it]) (fun b ob hb q => (sb.2 b (fun z => hb (by simp [z]))).trans (hk b ob (fun z => hb (by simp [z])) (fun z => hb (by simp [z])) q)) hf (Nat.le_refl _) new
    refine ⟨.ref s.heap.objs.size, _, I1, rfl, ⟨_, x, rfl, I.fresh, rfl, fun ys hy => by rw [SqK.inj I hy hqx]; exact hx⟩, ⟨⟨x1, ?_⟩, st1.1.at fun o q => (sb.2 it (Ne.symm ne)).trans q⟩, fun b hb => ?_⟩
    · have e1 : ((n + 1 : Nat) : Int) = (n : Int) + 1 := by omega
      rw [e1]; exact he'
    · have hb' : b < s.heap.objs.size := by
        rcases two hb with z | z
        · rw [z]; exact hel
        · rw [z]; exact hil
      rw [upd_ne (Nat.ne_of_lt hb')]
      exact (hf b hb).1
  · intro X hP hw hK hc n pins s σ H E I hf st hg
    subst hP hw hK
    obtain ⟨⟨old, he⟩, h1⟩ := st
    obtain ⟨xs, hqx, hn⟩ := hg
    obtain ⟨its, rv, p1, _⟩ := at_k I hqx
    have hl := rv.length
    have hh : X.A.in1.handled = none := by simpa using I.ok.hd hc
    obtain ⟨f0, f1, f2, f3, f4, f5⟩ := hf it (by simp)
    have e1 : n = its.toArray.size := by rw [List.size_toArray]; omega
    subst e1
    exact wpAny_pyNext_enum_endD (draw_k k hh it a na its.toArray) he ⟨h1, p1⟩ fun h' eb => ⟨rfl, I.turned (t' := s.toks) (fun b o hb q => eb b o hb q) f0 f1 f3 f4 f5⟩
def iEnumK (K : PySem.W.Frag) (ta : TA) : TI := fun σ H R => ta σ H fun vs H1 => ∃ (k : Bool) (a : Addr) (xs : List V), vs = [.ref a] ∧ SqK K k H1 a xs ∧ R (IteK K k a) H1
theorem meets_enumerate_newB1 {v : Value} {o : Obj} {H : Heap → Prop} (B : Begins v o H) :
    Meets (Builtin.«enumerate.__new__» ⟨[.type "enumerate", v], []⟩) (fun _ R s => H s.heap ∧
      R (.ok (.ret (.ref (s.heap.push o).objs.size))) { s with heap := (s.heap.push o).push { cls := .type "enumerate", data := .fields #[.none, .bool false, .ref s.heap.objs.size, rawInt 0, .none, .none] } }) :=
  .of_wp fun prog w A R s h => by
    obtain ⟨hp, g, d, tk, os⟩ := s; obtain ⟨h1, h⟩ := h
    have hsub := sub_enumerate
    have q1 : ∀ {A' : Around} {E : Value → Shared → Prop} {Q : Value → Shared → Prop}, Q (.ref hp.objs.size) ⟨hp.push o, g, d, tk, os⟩ → wpAny (model prog w) A' (pyIter v) Q E ⟨hp, g, d, tk, os⟩ :=
      fun q => B.iter prog w _ _ ⟨hp, g, d, tk, os⟩ _ h1 q
    wp_walk using q1
    refine wpAny_stack_any fun st => wpAny_pure ?_
    split
    · rename_i c _ _ _ _ _
      cases (c == Value.type "enumerate")
      · wp_walk using q1
        exact ⟨_, rfl, h⟩
      · wp_walk using q1
        exact ⟨_, rfl, h⟩
    · wp_walk using q1
      exact ⟨_, rfl, h⟩
theorem enum_begins1 {prog : Program} {w : World} {A : Around} {E : Value → Shared → Prop} {s : Shared} {v : Value} {o : Obj} {H : Heap → Prop} {Q : Value → Shared → Prop} (B : Begins v o H) (h1 : H s.heap)
    (h : ∀ h', IsEnum h' (s.heap.objs.size + 1) s.heap.objs.size 0 .none → h'.get? s.heap.objs.size = some o → h'.objs.size = s.heap.objs.size + 2 →
      (∀ b o, s.heap.get? b = some o → h'.get? b = some o) → Q (.ref (s.heap.objs.size + 1)) { s with heap := h' }) :
    wpAny (model prog w) A (call (.type "enumerate") [v]) Q E s := by
  refine callType_new F.called_enumerate (by decide) (F.typeCall_enumerate_1 _) (F.newCall_enumerate_1 _) (fun obj => F.args_object_init_2 obj _) F.entry_enumerate_new
    (meets_enumerate_newB1 B) ⟨h1, ?_⟩
  have hz : (s.heap.push o).objs.size = s.heap.objs.size + 1 := Heap.size_push ..
  show _ ∧ _
  rw [hz]
  have he : IsEnum ((s.heap.push o).push { cls := .type "enumerate", data := .fields #[.none, .bool false, .ref s.heap.objs.size, rawInt 0, .none, .none] }) (s.heap.objs.size + 1) s.heap.objs.size 0 .none := by
    have := Heap.get?_push_size (s.heap.push o) (o := { cls := .type "enumerate", data := .fields #[.none, .bool false, .ref s.heap.objs.size, rawInt 0, .none, .none] }) rfl
    rw [hz] at this; exact this
  refine ⟨⟨_, he, rfl⟩, h _ he (Heap.get?_push_of_some _ (Heap.get?_push_size _ B.free)) (by rw [Heap.size_push, hz]) fun b o x => Heap.get?_push_of_some _ (Heap.get?_push_of_some _ x)⟩
theorem pi_enumK {X : Cx} {e : Expr} {ta : TA} {p pos tpos : Pos} {elts : List Expr} {kk : Nat} (hg : Gl X "enumerate") (hm : X.mg "enumerate" = none) (ha : PA X [e] ta) (hs : starEach [e] X.env = [(false, eval e X.env)] := by rfl) :
    PI X (.Tuple elts kk tpos) (.Call (.Name "enumerate" p) [e] [] pos) (iEnumK X.K ta) := by
  refine ⟨fun pins s σ H R I h => ?_⟩
  refine Call_ (ld_blt I hg hm boot_enumerate (PyProof.Rows.callWith_type1 (thn (ha.run pos pins s σ H _ I h) ?_) hs rfl))
  rintro us s1 ⟨vs, H1, I1, r1, k, a, xs, rfl, hq, q⟩
  obtain ⟨u1, rfl, ru1⟩ := Vals.one r1
  cases (show u1 = Value.ref a from ru1)
  obtain ⟨its, rv, p1, la⟩ := at_k I1 hq
  refine enum_begins1 (begin_k k a its.toArray) p1 fun h' he e1 hsz hk => wpAny_pyIter_enum he ?_
  have i1 : IterK k h' s1.heap.objs.size a 0 := by
    cases k with
    | true => exact ⟨_, e1, rfl, rfl⟩
    | false => exact ⟨_, e1, rfl, rfl⟩
  refine ⟨s1.heap.objs.size + 1, [s1.heap.objs.size + 1, s1.heap.objs.size], _, _, H1, rfl, I1.kept (t' := s1.toks) hk,
    turn_ek (Nat.ne_of_lt la) (Nat.succ_ne_self _) (Nat.ne_of_gt (Nat.lt_succ_of_lt la)), ⟨⟨.none, he⟩, i1⟩, fun b hb => ?_, q⟩
  have e' : b = s1.heap.objs.size + 1 ∨ b = s1.heap.objs.size := by simpa using hb
  have hle : s1.heap.objs.size ≤ b := by
    rcases e' with z | z
    · rw [z]; exact Nat.le_add_right _ _
    · rw [z]; exact Nat.le_refl _
  exact I1.fpOk hle (I1.hok.fresh hle)
theorem kEnum {X : Cx} {K : PySem.W.Frag} {e : Expr} {ta : TA} {p pos tpos : Pos} {elts : List Expr} {kk : Nat} (hg : Gl X "enumerate") (hm : X.mg "enumerate" = none) (ha : PA X [e] ta) (hK : X.K = K := by rfl) (hs : starEach [e] X.env = [(false, eval e X.env)] := by rfl) :
    PI X (.Tuple elts kk tpos) (.Call (.Name "enumerate" p) [e] [] pos) (iEnumK K ta) := hK ▸ pi_enumK hg hm ha hs
end Hg

set_option maxHeartbeats 4000000
namespace Hg
open PySem PySem.Spec PyProof.Rows L2
open AutoSeq1 (wpAny_loadPart')
theorem tuple_mulW1 (l : Addr) (items : Array Value) (n : Nat) (dd : Option Addr) (sl : Array (Option Value)) (x : Int) (u : Tok) (c0 : (decide (x < -(2 ^ 63)) || decide (x ≥ 2 ^ 63)) = false) (c1 : (items.isEmpty || x == 1) = true) :
    Meets (Builtin.«tuple.__mul__» ⟨[.ref l, .int x u], []⟩) (fun _ R s => s.heap.get? l = some { cls := .type "tuple", dict := dd, data := .seq items n, slots := sl } ∧
      R (.ok (.ret (Value.ref l))) s) :=
  .of_wp fun prog w A R s h => by
    obtain ⟨hp, g, d, tk, os⟩ := s
    obtain ⟨hl, h⟩ := h
    have f1 := AutoSeq1.idx_int
    wp_walk using wpAny_loadPart' hl
    repeat (first
      | (refine wpAny_ite_false (decide_eq_false (by rw [c0]; exact Bool.false_ne_true)) ?_; wp_walk using wpAny_loadPart' hl)
      | (refine wpAny_ite_true (decide_eq_true c1) ?_; wp_walk using wpAny_loadPart' hl))
    exact ⟨_, rfl, h⟩
/-- (x, ..) * k, k from 1 on -/
def rRepU (K : PySem.W.Frag) : R2 := fun x y H Q => ∃ l k xs, x = .ref l ∧ y = .int k ∧ SqT K H l xs ∧ xs ≠ [] ∧ 1 ≤ k ∧ k ≤ 1000 ∧ xs.length ≤ 1000 ∧ (k = 1 → Q (.ref l) H) ∧ (2 ≤ k → ∀ p, H p = none → Q (.ref p) (upd H p (.tup (List.replicate k.toNat xs).flatten)))
theorem op_repU {X : Cx} : OpR X (binaryOp .Mult) (rRepU X.K) := by
  intro pins s σ H x y v u Q I rx ry h
  obtain ⟨l, k, xs, rfl, rfl, hT, hne, h1, h2, hz, q1, q⟩ := h
  by_cases hk : k = 1
  · subst hk
    cases rx
    obtain ⟨t, rfl⟩ := ry
    obtain ⟨its, r, ⟨⟨cls, dd, data, sl⟩, ho, hc, n, hd⟩, hs⟩ := I.tuple hT
    simp only at hc hd
    subst hc hd
    refine wpAny_binaryOp_repeat_ref (T := "tuple") (U := "int") (by decide) ⟨_, ho, rfl⟩ (fun s' => typeIs_int s' 1 t) noFill_tuple_mul F.fills_int_mul F.slot_int_rmul repeat_tuple F.slot_int_index.lookup
      (call_meets F.slot_int_rmul (typeIs_int s 1 t) F.entry_int_rmul (F.args_int_rmul_2 _ _) (int_rmul_tuple 1 t l its.toArray n dd sl)
        ⟨ho, rfl, ⟨_, ho, rfl⟩, call_meets F.slot_tuple_mul ⟨_, ho, rfl⟩ F.entry_tuple_mul (F.args_tuple_mul_2 _ _) (tuple_mulW1 l its.toArray n dd sl 1 t (by decide) (by simp)) ⟨ho, ?_⟩⟩)
    exact ⟨.ref l, H, I, rfl, q1 rfl⟩
  · exact op_repT pins s σ H _ _ v u Q I rx ry ⟨l, k, xs, rfl, rfl, hT, hne, by omega, h2, hz, q (by omega)⟩
def rMulA (K : PySem.W.Frag) : R2 := fun x y H Q => rMulI x y H Q ∨ (rRep x y H Q ∨ rRepU K x y H Q)
theorem kMul {X : Cx} {K : PySem.W.Frag} (hK : X.K = K := by rfl) : OpR X (binaryOp .Mult) (rMulA K) := hK ▸ oMul.or (op_rep.or op_repU)
end Hg

set_option maxHeartbeats 4000000
set_option exponentiation.threshold 10000
namespace Hg
open PySem PySem.Spec PyProof.Rows L2
/-! ### kinds -/
def kinds : List String := ["NoneType", "bool", "int", "str", "tuple", "list"]
inductive Kd (H : Hp) : V → String → Prop
  | non : Kd H .non "NoneType"
  | bl (b : Bool) : Kd H (.bl b) "bool"
  | int (i : Int) : Kd H (.int i) "int"
  | str (x : Str) : Kd H (.str x) "str"
  | tup {a : Addr} {xs : List V} : H a = some (.tup xs) → Kd H (.ref a) "tuple"
  | lst {a : Addr} {xs : List V} : H a = some (.lst xs) → Kd H (.ref a) "list"
theorem Kd.mem {H : Hp} {v : V} {n : String} (h : Kd H v n) : n ∈ kinds := by cases h <;> simp [kinds]
theorem Kd.ty {K : PySem.W.Frag} {H : Hp} {v : V} {n : String} (h : Kd H v n) : TyX K H v (.type n) := by
  cases h with
  | non => exact .base .non
  | bl b => exact .base (.bl b)
  | int i => exact .base (.int i)
  | str x => exact .base (.str x)
  | tup e => exact .base (.tup e)
  | lst e => exact .base (.lst e)
theorem Kd.ex {H H' : Hp} {v : V} {n : String} (e : Ex H H') (h : Kd H v n) : Kd H' v n := by
  cases h with
  | non => exact .non
  | bl b => exact .bl b
  | int i => exact .int i
  | str x => exact .str x
  | tup q => exact .tup (e _ _ q)
  | lst q => exact .lst (e _ _ q)
def isI : V → Bool
  | .int _ => true
  | _ => false
theorem Kd.isI {H : Hp} {v : V} {n : String} (h : Kd H v n) : (n == "int") = Hg.isI v := by cases h <;> rfl
theorem kit_int : ∀ n ∈ kinds, kitB n "int" = some (n == "int" || n == "bool") := by
  intro n h
  simp only [kinds, List.mem_cons, List.not_mem_nil, or_false] at h
  rcases h with h | h | h | h | h | h <;> subst h <;> decide +kernel
theorem kit_bool : ∀ n ∈ kinds, kitB n "bool" = some (n == "bool") := by
  intro n h
  simp only [kinds, List.mem_cons, List.not_mem_nil, or_false] at h
  rcases h with h | h | h | h | h | h <;> subst h <;> decide +kernel
theorem kit_tup : ∀ n ∈ kinds, kitB n "tuple" = some (n == "tuple") := by
  intro n h
  simp only [kinds, List.mem_cons, List.not_mem_nil, or_false] at h
  rcases h with h | h | h | h | h | h <;> subst h <;> decide +kernel
def sp_isInt (K : PySem.W.Frag) : Sp := fun vs H Q _ => ∃ (v : V) (n : String), vs = [v] ∧ Kd H v n ∧ Q (.bl (isI v)) H
theorem int_case (n : String) (h : n ∈ kinds) : (if (n == "int" || n == "bool") = true then !(n == "bool") else false) = (n == "int") := by
  simp only [kinds, List.mem_cons, List.not_mem_nil, or_false] at h
  rcases h with h | h | h | h | h | h <;> subst h <;> decide
/-! ### gcd -/
def gcdI (a b : Int) : Int := ((Nat.gcd a.natAbs b.natAbs : Nat) : Int)
def gfold (ns : List Int) : Int := ns.foldl gcdI 0
theorem gfold_more {ns : List Int} {i : Nat} {z : Int} (h : ns[i]? = some z) : gfold (ns.take (i + 1)) = gcdI (gfold (ns.take i)) z := by
  unfold gfold
  have hi : i < ns.length := (List.getElem?_eq_some_iff.mp h).1
  rw [List.take_succ, h, Option.toList_some, List.foldl_append]
  rfl
theorem ints_at {ns : List Int} {i : Nat} {x : V} (h : (ns.map V.int)[i]? = some x) : ∃ z, ns[i]? = some z ∧ x = .int z := by
  rw [List.getElem?_map] at h
  cases e : ns[i]? with
  | none =>
    rw [e] at h
    cases h
  | some z =>
    rw [e] at h
    exact ⟨z, rfl, (Option.some.inj h).symm⟩
/-- what is_form is asked: no tuple, or a tuple of known kinds -/
def Frm (H : Hp) (v : V) (size : Int) (b : Bool) : Prop :=
  (∃ n, Kd H v n ∧ n ≠ "tuple" ∧ b = false) ∨ ∃ (a : Addr) (xs : List V), v = .ref a ∧ H a = some (.tup xs) ∧ xs.length ≤ 1000 ∧ (∀ x ∈ xs, ∃ n, Kd H x n) ∧ b = (decide ((xs.length : Int) = size) && xs.all isI)
def sp_is_form (K : PySem.W.Frag) : Sp := fun vs H Q _ => ∃ (v : V) (size : Int) (b : Bool), vs = [v, .int size] ∧ Frm H v size b ∧ ∀ H', Ex H H' → Q (.bl b) H'
def big (x : Int) : Prop := x.natAbs < 2 ^ 3000
theorem big_mul {x y : Int} (hx : big x) (hy : big y) : CMulW x y := wide_mul hx hy (by decide) (by decide) (by decide)
def dotI (fs vs : List Int) : Int := (List.zipWith (· * ·) fs vs).sum
def sp_dot (K : PySem.W.Frag) : Sp := fun vs H Q _ => ∃ (k l : Bool) (a b : Addr) (xs ys : List Int), vs = [.ref a, .ref b] ∧ SqK K k H a (xs.map V.int) ∧ SqK K l H b (ys.map V.int) ∧ xs.length = ys.length ∧ xs.length ≤ 1000 ∧
  (∀ x ∈ xs, big x) ∧ (∀ y ∈ ys, big y) ∧ ∀ H', Ex H H' → Q (.int (dotI xs ys)) H'
def sp_add_forms (K : PySem.W.Frag) : Sp := fun vs H Q _ => ∃ (k l : Bool) (a b : Addr) (xs ys : List Int), vs = [.ref a, .ref b] ∧ SqK K k H a (xs.map V.int) ∧ SqK K l H b (ys.map V.int) ∧ xs.length = ys.length ∧ xs.length ≤ 1000 ∧
  ∀ H' p, Ex H H' → H p = none → H' p = some (.tup ((List.zipWith (· + ·) xs ys).map V.int)) → Q (.ref p) H'
def sp_scale_form (K : PySem.W.Frag) : Sp := fun vs H Q _ => ∃ (k : Bool) (a : Addr) (c : Int) (xs : List Int), vs = [.int c, .ref a] ∧ SqK K k H a (xs.map V.int) ∧ xs.length ≤ 1000 ∧ big c ∧ (∀ x ∈ xs, big x) ∧
  ∀ H' p, Ex H H' → H p = none → H' p = some (.tup ((xs.map (c * ·)).map V.int)) → Q (.ref p) H'
theorem range_zip {xs ys : List Int} (h : xs.length = ys.length) (f : Int → Int → Int) (val : Nat → V) (hv : ∀ i x y, xs[i]? = some x → ys[i]? = some y → val i = .int (f x y)) :
    (List.range (min xs.length ys.length)).map val = (List.zipWith f xs ys).map V.int := by
  apply List.ext_getElem?
  intro i
  rw [List.getElem?_map, List.getElem?_map]
  by_cases hi : i < xs.length
  · have hj : i < ys.length := by omega
    rw [List.getElem?_range (by omega)]
    simp only [List.getElem?_zipWith, List.getElem?_eq_getElem hi, List.getElem?_eq_getElem hj, Option.map_some]
    rw [hv i _ _ (List.getElem?_eq_getElem hi) (List.getElem?_eq_getElem hj)]
  · have e1 : (List.range (min xs.length ys.length))[i]? = none := by simp; omega
    have e2 : (List.zipWith f xs ys)[i]? = none := by
      rw [List.getElem?_eq_none_iff]
      simp
      omega
    rw [e1, e2]
    rfl
theorem eqv_nil (ns : List Int) : (!PyData.eqv (.list (ns.map PyData.int)) (.list [])) = !decide (ns = []) := by
  rw [show ([] : List PyData) = ([] : List Int).map PyData.int from rfl, eqv_l]
theorem seq0 (n : Nat) : seqIndex? 0 (n + 1) = some 0 := by
  unfold seqIndex?
  simp
theorem menu {vs : List V} {r : Int} (h0 : 0 ≤ r) {n : Nat} (h1 : r < n) (hn : vs.length = n) : ∃ v, atI vs r = some v ∧ v ∈ vs := at_lt h0 (by omega)
/-! ### what lies beside the stream -/
def beside (s q : Addr) (H : Hp) : Hp := fun a => if a = s ∨ a = q then none else H a
theorem beside_of {s q a : Addr} {H : Hp} (h1 : a ≠ s) (h2 : a ≠ q) : beside s q H a = H a := by
  unfold beside
  rw [if_neg (by rintro (h | h) <;> contradiction)]
section
variable {s q : Addr} {B : Nat} {G H : Hp}
/-- all that lies beside the stream is kept -/
theorem Ov.all (x : Ov s q B G H) : Ov s q B (beside s q H) H ∧ Ex G (beside s q H) := by
  refine ⟨⟨fun a o e => ?_, by simp [beside], by simp [beside], x.str⟩, fun a o e => ?_⟩
  · unfold beside at e
    split at e
    · cases e
    · exact e
  · rw [beside_of (fun z => by rw [z, x.gs] at e; cases e) (fun z => by rw [z, x.gq] at e; cases e)]
    exact x.sub _ _ e
theorem Ov.tup (x : Ov s q B G H) {a : Addr} {xs : List V} (h : H a = some (.tup xs)) : beside s q H a = some (.tup xs) := by
  obtain ⟨ne, n, k, l, ms, e1, e2, e3⟩ := x.str
  rw [beside_of (fun z => by rw [z, e1] at h; cases h) (fun z => by rw [z, e2] at h; cases h)]
  exact h
/-- a new object is known -/
theorem Ov.fresh (x : Ov s q B G H) {H' : Hp} (e : Ex H H') {a : Addr} (hn : H a = none) {o : HO} (h : H' a = some o) : beside s q H' a = some o := by
  obtain ⟨ne, n, k, l, ms, e1, e2, e3⟩ := x.str
  rw [beside_of (fun z => by rw [z, e1] at hn; cases hn) (fun z => by rw [z, e2] at hn; cases hn)]
  exact h
end
section
variable {s q : Addr} {B B1 : Nat} {G H H1 : Hp}
theorem Ov.t (O : Ov s q B G H) (O1 : Ov s q B1 (beside s q H) H1) {a : Addr} {xs : List V} (h : H a = some (.tup xs)) : H1 a = some (.tup xs) := O1.sub _ _ (O.tup h)
theorem Ov.l (O1 : Ov s q B1 (beside s q H) H1) {a : Addr} {o : HO} (n1 : a ≠ s) (n2 : a ≠ q) (h : H a = some o) : H1 a = some o := O1.sub _ _ ((beside_of n1 n2).trans h)
theorem Ov.g (O : Ov s q B G H) (O1 : Ov s q B1 (beside s q H) H1) : Ov s q B1 G H1 := O1.weak O.all.2
/-- an object that G does not know is changed -/
theorem Ov.mut (x : Ov s q B G H) {p : Addr} {o : HO} (hp : G p = none) (n1 : p ≠ s) (n2 : p ≠ q) : Ov s q B G (upd H p o) := by
  obtain ⟨ne, n, k, l, ms, e1, e2, e3⟩ := x.str
  exact ⟨fun a u e => (upd_ne (fun z => by rw [z, hp] at e; cases e)).trans (x.sub _ _ e), x.gs, x.gq, ne, n, k, l, ms, (upd_ne (Ne.symm n1)).trans e1, (upd_ne (Ne.symm n2)).trans e2, e3⟩
theorem Ov.ns (x : Ov s q B G H) {p : Addr} (hp : H p = none) : p ≠ s ∧ p ≠ q := by
  obtain ⟨os, hs⟩ := x.hs
  obtain ⟨oq, hq⟩ := x.hq
  exact ⟨fun e => (ne_of_none hs hp) e.symm, fun e => (ne_of_none hq hp) e.symm⟩
end
/-- rows: tuples of ints -/
def RowsIn (H : Hp) (as : List Addr) (R : List (List Int)) : Prop := as.length = R.length ∧ ∀ (i : Nat) (a : Addr) (r : List Int), as[i]? = some a → R[i]? = some r → H a = some (.tup (r.map V.int))
theorem RowsIn.mono {H H' : Hp} {as : List Addr} {R : List (List Int)} (h : RowsIn H as R) (k : ∀ a xs, H a = some (.tup xs) → H' a = some (.tup xs)) : RowsIn H' as R := ⟨h.1, fun i a r h1 h2 => k _ _ (h.2 i a r h1 h2)⟩
theorem RowsIn.nil {H : Hp} : RowsIn H [] [] := ⟨rfl, fun i a r h => by simp at h⟩
theorem RowsIn.snoc {H : Hp} {as : List Addr} {R : List (List Int)} (h : RowsIn H as R) {a : Addr} {r : List Int} (ha : H a = some (.tup (r.map V.int))) : RowsIn H (as ++ [a]) (R ++ [r]) := by
  refine ⟨by simp [h.1], fun i b x h1 h2 => ?_⟩
  by_cases hi : i < as.length
  · rw [List.getElem?_append_left hi] at h1
    rw [List.getElem?_append_left (by rw [← h.1]; exact hi)] at h2
    exact h.2 i b x h1 h2
  · rw [List.getElem?_append_right (by omega)] at h1
    rw [List.getElem?_append_right (by rw [← h.1]; omega)] at h2
    have e : i - as.length = 0 := by
      have := (List.getElem?_eq_some_iff.mp h1).1
      simp at this; omega
    rw [← h.1, e] at h2
    rw [e] at h1
    cases h1
    cases h2
    exact ha
theorem RowsIn.set {H : Hp} {as : List Addr} {R : List (List Int)} (h : RowsIn H as R) {k : Nat} {a : Addr} {r : List Int} (ha : H a = some (.tup (r.map V.int))) : RowsIn H (as.set k a) (R.set k r) := by
  refine ⟨by simp [h.1], fun i b x h1 h2 => ?_⟩
  by_cases hi : k = i
  · subst hi
    by_cases hk : k < as.length
    · rw [List.getElem?_set_self hk] at h1
      rw [List.getElem?_set_self (by rw [← h.1]; exact hk)] at h2
      cases h1
      cases h2
      exact ha
    · rw [List.getElem?_eq_none (by simp; omega)] at h1
      cases h1
  · rw [List.getElem?_set_ne hi] at h1 h2
    exact h.2 i b x h1 h2
theorem RowsIn.get {H : Hp} {as : List Addr} {R : List (List Int)} (h : RowsIn H as R) {i : Nat} (hi : i < R.length) : ∃ a, as[i]? = some a ∧ R[i]? = some R[i] ∧ H a = some (.tup (R[i].map V.int)) := by
  have hi' : i < as.length := by rw [h.1]; exact hi
  exact ⟨as[i], by simp [hi'], by simp [hi], h.2 i _ _ (by simp [hi']) (by simp [hi])⟩
theorem tk_put {H : Hp} {L : Addr} {ys : List V} {o : HO} (hL : H L = some (.lst ys)) (a : Addr) (xs : List V) (h : H a = some (.tup xs)) : upd H L o a = some (.tup xs) := (upd_ne (fun e => by rw [e, hL] at h; cases h)).trans h
theorem natAbs_lt {x : Int} {n m : Nat} (h : x.natAbs ≤ n) (hm : n < m) : x.natAbs < m := Nat.lt_of_le_of_lt h hm
theorem ixN_nat {n j : Nat} (h : j < n) : ixN n (j : Int) = some j := by
  unfold ixN
  rw [if_pos (by omega), if_pos (by omega)]
  simp
/-! ### tuples put together and cut -/
theorem cat_t {K : PySem.W.Frag} {H : Hp} {a b : Addr} {xs ys : List V} {Q : VK} (ha : H a = some (.tup xs)) (hb : H b = some (.tup ys)) (hl : xs.length + ys.length ≤ 100000) (q : ∀ p H', Ex H H' → H' p = some (.tup (xs ++ ys)) → Q (.ref p) H') : rPlus K (.ref a) (.ref b) H Q := by
  refine .inr (.inr (.inl ⟨a, b, xs, ys, rfl, rfl, SqT.of ha, SqT.of hb, by rw [sizeLine_eq]; omega, fun h => ?_, fun _ h => ?_, fun _ _ p hp => ?_⟩))
  · subst h
    exact q b H (Ex.refl H) hb
  · subst h
    refine q a H (Ex.refl H) ?_
    rw [List.append_nil]
    exact ha
  · exact q p _ (Ex.new hp) upd_same
theorem cat_l {K : PySem.W.Frag} {H : Hp} {a b : Addr} {xs ys : List V} {Q : VK} (ha : H a = some (.lst xs)) (hb : H b = some (.lst ys)) (hl : xs.length + ys.length ≤ 100000) (q : ∀ p H', Ex H H' → H p = none → H' p = some (.lst (xs ++ ys)) → Q (.ref p) H') : rPlus K (.ref a) (.ref b) H Q :=
  .inr (.inl ⟨a, b, xs, ys, rfl, rfl, ha, hb, by rw [sizeLine_eq]; omega, fun p hp => q p _ (Ex.new hp) hp upd_same⟩)
theorem sl_t {K : PySem.W.Frag} {H : Hp} {a : Addr} {xs : List V} {lo hi : Option Int} {Q : VK} (ha : H a = some (.tup xs)) (q : ∀ p H', Ex H H' → H' p = some (.tup (cutV xs lo hi)) → Q (.ref p) H') : rSlAll K (.ref a) lo hi H Q := by
  refine .inr ⟨a, xs, rfl, SqT.of ha, fun h => ?_, fun _ p hp => q p _ (Ex.new hp) upd_same⟩
  refine q a H (Ex.refl H) ?_
  unfold cutV
  rw [h.1, h.2, List.drop_zero, Nat.sub_zero, List.take_length]
  exact ha
theorem cut_to {xs : List V} {n : Nat} (h : n ≤ xs.length) : cutV xs none (some (n : Int)) = xs.take n := by
  unfold cutV
  rw [HT.sIx_none, HT.sIx_nat, List.drop_zero, Nat.sub_zero, Nat.min_eq_left h]
theorem cut_from {xs : List V} {n : Nat} (h : n ≤ xs.length) : cutV xs (some (n : Int)) none = xs.drop n := by
  unfold cutV
  rw [HT.sIx_none, HT.sIx_nat, Nat.min_eq_left h]
  apply List.take_of_length_le
  simp
/-! ### the law -/
def spLaw (K : PySem.W.Frag) : Sp := fun vs H Q _ => ∃ (a : Addr) (ns : List Int), vs = [.ref a] ∧ SqL K H a (ns.map V.int) ∧ ∀ H', Q (.bl true) H'
theorem strm_new {H : Hp} {q0 s0 : Addr} {ns : List Int} (hq : H q0 = none) (hs : upd H q0 (.lst (ns.map V.int)) s0 = none) : Ov s0 q0 0 H (upd (upd H q0 (.lst (ns.map V.int))) s0 (.lst [.ref q0, .int 0, .int 0, .int 0])) := by
  have nq : q0 ≠ s0 := fun e => by rw [← e, upd_same] at hs; cases hs
  have hs' : H s0 = none := by rw [upd_ne (Ne.symm nq)] at hs; exact hs
  exact ⟨(Ex.new hq).trans (Ex.new hs), hs', hq, Ne.symm nq, 0, 0, 0, ns, upd_same, (upd_ne nq).trans upd_same, by decide, by decide, by decide, by decide, by decide⟩
theorem picked_first {α : Type} {keep : Nat → Bool} {val : Nat → α} {p : Nat} (h0 : ∀ i, i < p → keep i = false) : ∀ n, (n ≤ p → picked keep val n = []) ∧ (p < n → keep p = true → ∃ t, picked keep val n = val p :: t)
  | 0 => ⟨fun _ => rfl, fun h => absurd h (by omega)⟩
  | n + 1 => by
    obtain ⟨i1, i2⟩ := picked_first (val := val) h0 n
    refine ⟨fun h => ?_, fun h hk => ?_⟩
    · rw [picked_succ, h0 n (by omega), i1 (by omega)]
      rfl
    · rw [picked_succ]
      by_cases e : n = p
      · subst e
        rw [if_pos hk, i1 (Nat.le_refl _)]
        exact ⟨[], rfl⟩
      · obtain ⟨t, ht⟩ := i2 (by omega) hk
        rw [ht]
        split
        · exact ⟨_, rfl⟩
        · exact ⟨_, rfl⟩
theorem atI_0 {α : Type} {x : α} {xs : List α} : atI (x :: xs) 0 = some x := atI_nat (j := 0) rfl
/-! ### tests -/
section
variable {A B : Prop}
theorem iteD {p : Prop} [Decidable p] (h1 : p → A) (h2 : ¬ p → B) : if decide p = true then A else B := by
  by_cases h : p
  · rw [decide_eq_true h]; exact iteT (h1 h)
  · rw [decide_eq_false h]; exact iteF (h2 h)
theorem iteDT {p : Prop} [Decidable p] (h : p) (a : A) : if decide p = true then A else B := iteD (fun _ => a) fun n => absurd h n
theorem iteDF {p : Prop} [Decidable p] (h : ¬ p) (b : B) : if decide p = true then A else B := iteD (fun y => absurd y h) fun _ => b
theorem iteN {p : Prop} [Decidable p] (h1 : ¬ p → A) (h2 : p → B) : if (!decide p) = true then A else B := by
  by_cases h : p
  · rw [decide_eq_true h]; exact iteF (h2 h)
  · rw [decide_eq_false h]; exact iteT (h1 h)
theorem iteNT {p : Prop} [Decidable p] (h : ¬ p) (a : A) : if (!decide p) = true then A else B := iteN (fun _ => a) fun n => absurd n h
theorem iteNF {p : Prop} [Decidable p] (h : p) (b : B) : if (!decide p) = true then A else B := iteN (fun y => absurd h y) fun _ => b
theorem iteV {x y : Int} (h1 : x = y → A) (h2 : x ≠ y → B) : if decide (V.int x = V.int y) = true then A else B := iteD (fun h => h1 (by simpa using h)) fun h => h2 (by simpa using h)
theorem iteVT {x y : Int} (h : x = y) (a : A) : if decide (V.int x = V.int y) = true then A else B := iteV (fun _ => a) fun n => absurd h n
theorem iteVF {x y : Int} (h : x ≠ y) (b : B) : if decide (V.int x = V.int y) = true then A else B := iteV (fun y => absurd y h) fun _ => b
theorem iteW {x y : Int} (h1 : x ≠ y → A) (h2 : x = y → B) : if (!decide (V.int x = V.int y)) = true then A else B := iteN (fun h => h1 (by simpa using h)) fun h => h2 (by simpa using h)
theorem iteWT {x y : Int} (h : x ≠ y) (a : A) : if (!decide (V.int x = V.int y)) = true then A else B := iteW (fun _ => a) fun n => absurd n h
theorem iteWF {x y : Int} (h : x = y) (b : B) : if (!decide (V.int x = V.int y)) = true then A else B := iteW (fun y => absurd h y) fun _ => b
theorem iteB {b : Bool} (h1 : b = true → A) (h2 : b = false → B) : if b = true then A else B := by
  cases b with
  | true => exact iteT (h1 rfl)
  | false => exact iteF (h2 rfl)
theorem iteBN {b : Bool} (h1 : b = false → A) (h2 : b = true → B) : if (!b) = true then A else B := by
  cases b with
  | true => exact iteF (h2 rfl)
  | false => exact iteT (h1 rfl)
end
/-! ### rules with K said -/
section
variable {X : Cx} {K : PySem.W.Frag}
theorem kRepU (hK : X.K = K := by rfl) : OpR X (binaryOp .Mult) (rRepU K) := hK ▸ op_repU
end
end Hg

set_option maxHeartbeats 4000000
namespace Hg
open PySem PySem.Spec PyProof.Rows L2
theorem Ov.sync {s q : Addr} {B : Nat} {G H H' : Hp} (O : Ov s q B G H) (e : Ex H H') {p : Addr} {xs : List V} (hp : H' p = some (.tup xs)) : ∃ G', Ex G G' ∧ Ov s q B G' H' ∧ G' p = some (.tup xs) := by
  obtain ⟨a, b⟩ := (O.ex e).all
  exact ⟨_, b, a, (O.ex e).tup hp⟩
theorem Ov.syncL {s q : Addr} {B : Nat} {G H H' : Hp} (O : Ov s q B G H) (e : Ex H H') {p : Addr} {o : HO} (hn : H p = none) (hp : H' p = some o) : ∃ G', Ex G G' ∧ Ov s q B G' H' ∧ G' p = some o := by
  obtain ⟨a, b⟩ := (O.ex e).all
  exact ⟨_, b, a, O.fresh e hn hp⟩
theorem mem_cutV {xs : List V} {lo hi : Option Int} {x : V} (h : x ∈ cutV xs lo hi) : x ∈ xs := by
  unfold cutV at h
  exact List.mem_of_mem_drop (List.mem_of_mem_take h)
theorem rep_flat {α : Type} (x : α) : ∀ k : Nat, (List.replicate k [x]).flatten = List.replicate k x
  | 0 => rfl
  | k + 1 => by rw [List.replicate_succ, List.replicate_succ, List.flatten_cons, rep_flat x k]; rfl
theorem rep_t {K : PySem.W.Frag} {H : Hp} {l : Addr} {x : V} {k : Nat} {Q : VK} (hl : H l = some (.tup [x])) (h1 : 1 ≤ k) (h2 : k ≤ 1000) (q : ∀ p H', Ex H H' → H' p = some (.tup (List.replicate k x)) → Q (.ref p) H') : rRepU K (.ref l) (.int k) H Q := by
  refine ⟨l, k, [x], rfl, rfl, SqT.of hl, by simp, by omega, by omega, by simp, fun e => ?_, fun e p hp => ?_⟩
  · have : k = 1 := by omega
    subst this
    exact q l H (Ex.refl H) hl
  · refine q p _ (Ex.new hp) ?_
    rw [upd_same, Int.toNat_natCast, rep_flat]
/-- rows as data -/
theorem dp_rows {K : PySem.W.Frag} {H : Hp} : ∀ (as : List Addr) (R : List (List Int)), RowsIn H as R → DpAll K H (as.map V.ref) (R.map fun r => .tuple (r.map PyData.int))
  | [], [], _ => .nil
  | [], r :: R, h => absurd h.1 (by simp)
  | a :: as, [], h => absurd h.1 (by simp)
  | a :: as, r :: R, h => .cons (dp_t (SqT.of (h.2 0 a r rfl rfl))) (dp_rows as R ⟨by simpa using h.1, fun i b x h1 h2 => h.2 (i + 1) b x (by simpa using h1) (by simpa using h2)⟩)
theorem lay_rows : ∀ R : List (List Int), PyData.canLayAll0 (R.map fun r => PyData.tuple (r.map PyData.int)) = true
  | [] => rfl
  | r :: R => by simp [PyData.canLayAll0, PyData.canLay0, lay_ints, lay_rows R]
theorem depth_rows : ∀ R : List (List Int), PyData.depthAll (R.map fun r => PyData.tuple (r.map PyData.int)) ≤ 2
  | [] => by simp [PyData.depthAll]
  | r :: R => by
    have := depth_rows R
    have := depth_ints r
    simp [PyData.depthAll, PyData.depth]
    omega
theorem shaped_rows (R : List (List Int)) : SeqAt.shaped (.tuple (R.map fun r => PyData.tuple (r.map PyData.int))) = true := by
  have := depth_rows R
  simp [SeqAt.shaped, PyData.canLay0, PyData.depth, lay_rows]
  omega
theorem eqv_rows_nil (R : List (List Int)) : PyData.eqv (.tuple (R.map fun r => PyData.tuple (r.map PyData.int))) (.tuple []) = decide (R = []) := by
  rw [PyData.eqv]
  cases R <;> simp [PyData.eqvAll]
theorem Kd.putL {G : Hp} {l : Addr} {xs ys : List V} {v : V} {n : String} (hl : G l = some (.lst xs)) (h : Kd G v n) : Kd (upd G l (.lst ys)) v n := by
  cases h with
  | non => exact .non
  | bl b => exact .bl b
  | int i => exact .int i
  | str x => exact .str x
  | tup q => exact .tup (tk_put hl _ _ q)
  | lst q =>
    rename_i a zs
    by_cases e : a = l
    · subst e
      exact .lst upd_same
    · exact .lst ((upd_ne e).trans q)
end Hg

set_option maxHeartbeats 4000000
namespace Hg
open PySem PySem.Spec PyProof.Rows L2
/-! ### the law at the top: what is under way there is known (nothing), so that repr and str of data can be told -/
abbrev topEnv (st : Stmt) (x : Str) (s : Shared) (fa : Addr) (cd : Value) : Env := envOfC x (defScope st) s.heap.objs.size fa cd
abbrev topCx (P : Program) (w : World) (K : PySem.W.Frag) (mg : Str → Option Value) (base : Heap) (N : List Str) (x : Str) (st : Stmt) (fa : Addr) (cd : Value) (s : Shared) (H : Hp) : Cx :=
  cxOf CX0 P w K mg base N x (defScope st) fa cd callerA [] s H E0
/-- the law's body, read where it is called -/
def TopOk (P : Program) (w : World) (K : PySem.W.Frag) (mg : Str → Option Value) (k : Nat) (N : List Str) (x : Str) (st : Stmt) (fa : Addr) (ok : Addr → List Int → Hp → Prop) : Prop :=
  ∀ (cd : Value) (base : Heap) (s : Shared) (H : Hp) (a : Addr) (ns : List Int), K.In base → base.Ns mainGlobals mg → Room k (callerA.deeper (topEnv st x s fa cd)) → ok a ns H →
    ∃ t, PSs (topCx P w K mg base N x st fa cd s H).nox (defBody st) t ∧ t { nx := fun _ _ => False, rt := fun v _ => v = .bl true } (start N [.ref a]) H
/-- one run of it -/
theorem TopOk.run {P : Program} {w : World} {K : PySem.W.Frag} {mg : Str → Option Value} {k : Nat} {N : List Str} {x p : Str} {st : Stmt} {fa : Addr} {ok : Addr → List Int → Hp → Prop} (T : TopOk P w K mg k N x st fa ok)
    {fd : FuncData} (F : Fun K x x st fa fd) (S : FnScope N [p] (defScope st)) (R : Room (k + 1) callerA) {base : Heap} {s : Shared} {H : Hp} {a : Addr} {ns : List Int} (e0 : Env0 P w K mg base callerA [] s H)
    (hb : BindsTo s fd ⟨[.ref a], []⟩ [(p, .ref a)]) (q : ok a ns H) :
    codeAny (model P w) callerA (.call (.ref fa) ⟨[.ref a], []⟩) (fun r s' => ∃ H', r = .ok (.ret (.bool true)) ∧ s'.os = s.os ∧ AllBare s'.gens ∧ Un [] [] H H' s.heap s'.heap ∧ HOk P w H' s'.heap) s := by
  obtain ⟨oc, od, kV, doc, pm, an, cd, ct, osl, efd, look, code⟩ := F.ex
  subst efd
  have stays : ∀ b o, base.get? b = some o → s.heap.get? b = some o := fun b o e => (e0.bs b o e).1
  have inS : K.In s.heap := e0.mod.kin.keeps stays
  have kinds : ∀ y ∈ [p].zip [Value.ref a], (defScope st).names.lookup y.1 = some .local ∨ ((defScope st).names.lookup y.1 = some .cell ∧ ((cellsFrom (s.heap.objs.size + 1) (defScope st).names []).lookup y.1).isSome = true) := by
    intro y hy
    have ey : y = (p, Value.ref a) := by simpa using hy
    subst ey
    exact (S.par p (by simp)).imp id fun c => ⟨c, PySem.W.cellsFrom_some _ _ _ (.inl c)⟩
  refine codeAny_call_function R.depth (inS _ _ look) rfl S.co S.gen rfl (PySem.W.codeRec_of inS code) (hb _ _ _ _ (wpAny_newFunctionEnv_cells S.kind kinds ?_))
  rintro _ rfl s2 entered
  refine ⟨(e0.mod.nolimit.keeps stays).keeps entered.toInCall.keep, codeAny_func ?_⟩
  obtain ⟨t, ht, hq⟩ := T cd base s H a ns e0.mod.kin e0.mod.glob (R.deeper _) q
  have start1 := inv_start (CX := CX0) (E := E0) (us := [.ref a]) (vs := [.ref a]) S R.hd e0 rfl (.cons rfl .nil) entered
  refine wpAny_mono (ht.nox.run [] s2 _ H _ start1 hq) (fun fl s' z => ?_) fun e s' z => ?_
  · rcases fl with _ | _ | _ | u
    · obtain ⟨_, _, _, z⟩ := z
      exact z.elim
    · obtain ⟨_, _, _, z⟩ := z
      exact z.elim
    · obtain ⟨_, _, _, z⟩ := z
      exact z.elim
    · obtain ⟨v, σ', H', J, rv, ev⟩ := z
      subst ev
      cases (show u = Value.bool true from rv)
      exact ⟨H', rfl, J.os, J.bare, J.base, J.hok⟩
  · exact wpAny_mono z (fun _ _ n => (n : False).elim) fun _ _ n => (n : False).elim
/-- at the heap behind the top -/
theorem TopOk.call {P : Program} {w : World} {K : PySem.W.Frag} {mg mb : Str → Option Value} {k : Nat} {N : List Str} {x p : Str} {st : Stmt} {fa a : Addr} {fd : FuncData} {s : Shared} {vs : List Value} {ns : List Int} {ok : Addr → List Int → Hp → Prop}
    (T : TopOk P w K mg k N x st fa ok) (F : Fun K x x st fa fd) (S : FnScope N [p] (defScope st)) (R : Room (k + 1) callerA)
    (inS : K.In s.heap) (gl : s.heap.Ns mainGlobals mg) (bl : s.heap.Ns builtinsNs mb) (boot : ∀ y : Str, y ≠ "__name__" → mb y = bootBuiltins y) (nl : s.heap.NoLimit) (gens : s.gens = #[])
    (ha : s.heap.get? a = some { cls := .type "list", data := .seq vs.toArray }) (iv : IntsAre vs ns) (len : ns.length ≤ sizeLine) (bind : ∀ (s : Shared) (u : Value), BindsTo s fd ⟨[u], []⟩ [(p, u)])
    (good : ∀ H : Hp, SqL K H a (ns.map V.int) → ok a ns H) :
    codeAny (model P w) callerA (.call (.ref fa) ⟨[.ref a], []⟩) (fun r s' => r = .ok (.ret (.bool true)) ∧ OldK s.heap s'.heap ∧ s'.os = s.os ∧ AllBare s'.gens) s := by
  have rel := vals_ints iv
  have go : ∀ H : Hp, (∀ b u, H b = some u → b = a ∧ u = .frz { cls := .type "list", data := .seq vs.toArray } (.lst (ns.map V.int)) ∧ K.lookup a = none) → SqL K H a (ns.map V.int) →
      codeAny (model P w) callerA (.call (.ref fa) ⟨[.ref a], []⟩) (fun r s' => r = .ok (.ret (.bool true)) ∧ OldK s.heap s'.heap ∧ s'.os = s.os ∧ AllBare s'.gens) s := by
    intro H only seq
    have hok : HOk P w H s.heap := by
      intro b u z
      obtain ⟨rfl, rfl, _⟩ := only b u z
      exact ⟨ha, by rw [List.length_map]; exact len, vs, _, rel, ha⟩
    have noDict : ∀ {b : Addr} {o : Obj} {es : Array DictEntry} {n : Nat}, s.heap.get? b = some o → o.data = .dict es n → H b = none := by
      intro b o es n e d
      cases z : H b with
      | none => rfl
      | some u =>
        obtain ⟨rfl, _, _⟩ := only b u z
        rw [ha] at e
        cases e
        cases d
    have names : ∀ {b : Addr} {m : Str → Option Value}, s.heap.Ns b m → (hidT s.heap H).Ns b m := by
      rintro b m ⟨o, es, n, e, d, rest⟩
      exact ⟨o, es, n, hidT_get e (noDict e d), d, rest⟩
    have inB : K.In (hidT s.heap H) := by
      intro b o e
      refine hidT_get (inS b o e) ?_
      cases z : H b with
      | none => rfl
      | some u =>
        obtain ⟨rfl, _, z'⟩ := only b u z
        rw [z'] at e
        cases e
    obtain ⟨ml, l1, l2⟩ := nl
    have e0 : Env0 P w K mg (hidT s.heap H) callerA [] s H :=
      { frames := rfl, mod := ⟨inB, names gl, ⟨mb, names bl, boot⟩, ml, names l1, l2⟩, bs := fun b o e => of_hidT e, bsz := by rw [hidT_size]; exact Nat.le_refl _, funs := trivial,
        frf := fun b z => absurd (show b ∈ ([] : List Addr) from z) (by simp), hok := hok, bare := .of_eq gens }
    refine codeAny_mono (T.run F S R e0 (bind s (.ref a)) (good H seq)) ?_
    rintro r s' ⟨H', rfl, eos, bare, un, hok'⟩
    refine ⟨rfl, OldK.of_keep ?_, eos, bare⟩
    intro b o e
    cases z : H b with
    | none => exact un.keep b o e z (by simp) (by simp)
    | some u =>
      obtain ⟨rfl, rfl, _⟩ := only b u z
      obtain ⟨g, _⟩ := hok' b _ (un.frzs b _ _ z)
      rw [ha] at e
      cases e
      exact g
  cases look : K.lookup a with
  | some o =>
    have e := inS a o look
    rw [ha] at e
    cases e
    exact go (fun _ => none) (fun b u z => by cases z) (.inr ⟨_, vs.toArray, _, look, rfl, rfl, rfl, by rw [List.size_toArray, iv.length]; exact len, by simpa using rel⟩)
  | none =>
    refine go (fun b => if b = a then some (.frz { cls := .type "list", data := .seq vs.toArray } (.lst (ns.map V.int))) else none) (fun b u z => ?_) (.inl (.inr ⟨_, if_pos rfl⟩))
    by_cases e : b = a
    · rw [if_pos e] at z
      cases z
      exact ⟨e, rfl, look⟩
    · rw [if_neg e] at z
      cases z
/-- the row's walk -/
theorem top_walk {l : PySem.W.OpenLaw} {n k : Nat} {q : Program} {loose : List Str} {XP : (Str → Option Value) → Heap → Prop} {YP : World → Heap → Prop} {d : DefRec} {K : Params → PySem.W.Frag} {N : List Str} {p : Str} {st : Stmt} {ok : PySem.W.Frag → Addr → List Int → Hp → Prop}
    (hn : l.most = some n) (hn2 : n ≤ sizeLine) (hdf : d.params.defaults = []) (S : FnScope N [p] (defScope st)) (R : Room (k + 1) callerA) (hY : ∀ (w : World) (h : Heap), YP w h → (K w.params).In h)
    (F : ∀ (w : World) (mg : Str → Option Value) (fa : Addr) (h : Heap), (K w.params).In h → h.Ns mainGlobals mg → mg d.name = some (.ref fa) →
      ∃ fd : FuncData, (∀ (s : Shared) (u : Value), BindsTo s fd ⟨[u], []⟩ [(p, u)]) ∧ Fun (K w.params) d.name d.name st fa fd ∧ TopOk l.prog w (K w.params) mg k N d.name st fa (ok (K w.params)))
    (good : ∀ (K : PySem.W.Frag) (H : Hp) (a : Addr) (ns : List Int), ns.length ≤ n → SqL K H a (ns.map V.int) → ok K a ns H) :
    PySem.W.WalkO q loose XP YP l.row.toRowW d [] (fun f vs => PySem.call f vs) := by
  refine Att.attach_call hn hdf ?_
  intro w s₀ s mg mb fa o pm cd doc a vs ns G Y _ _ _ name obj iv len gens
  have inS := hY w _ Y
  obtain ⟨fd, bind, fn, T⟩ := F w mg fa _ inS G.T.g name
  exact T.call fn S R inS G.T.g G.T.b G.T.builtins G.T.nolimit gens obj iv (Nat.le_trans len hn2) bind fun H q => good _ H a ns len q
/-! ### repr and str of data -/
def rReprD (K : PySem.W.Frag) : List V → Hp → VK → Prop := fun vs H Q => ∃ (a : Addr) (d : PyData), vs = [.ref a] ∧ Dp K H (.ref a) d ∧ d.showable = true ∧ d.hasDict = false ∧ d.depth ≤ 20 ∧ d.shown.length ≤ sizeLine ∧ Q (.str d.shown) H
theorem cr_reprD {X : Cx} (hg : X.A.guards = some []) (hu : X.A.units + 64 < cLine) : CallR X (.builtin "repr") (rReprD X.K) := by
  intro pins s σ H vs us Q I r h
  obtain ⟨a, d, rfl, dp, h1, h2, h3, h4, q⟩ := h
  obtain ⟨u, rfl, ru⟩ := Vals.one r
  cases (show u = Value.ref a from ru)
  obtain ⟨as, rd⟩ := Dp.reads I d _ _ dp ru
  refine repr_of_reads' rd h1 (fun z => by rw [h2] at z; cases z) hg (by omega) (fun _ _ e => e) (fun h' u tk hk => ?_) h4
  exact ⟨.str d.shown, H, I.kept (t' := tk) hk, ⟨u, rfl⟩, q⟩
theorem cr_strD {X : Cx} (hg : X.A.guards = some []) (hu : X.A.units + 64 < cLine) : CallR X (.type "str") (rReprD X.K) := by
  intro pins s σ H vs us Q I r h
  obtain ⟨a, d, rfl, dp, h1, h2, h3, h4, q⟩ := h
  obtain ⟨u, rfl, ru⟩ := Vals.one r
  cases (show u = Value.ref a from ru)
  obtain ⟨as, rd⟩ := Dp.reads I d _ _ dp ru
  refine str_of_reads rd h1 (fun z => by rw [h2] at z; cases z) hg (by omega) (fun _ _ e => e) (fun h' u tk hk => ?_) h4
  exact ⟨.str d.shown, H, I.kept (t' := tk) hk, ⟨u, rfl⟩, q⟩
theorem kRepr {X : Cx} {K : PySem.W.Frag} (hg : X.A.guards = some []) (hu : X.A.units + 64 < cLine) (hK : X.K = K := by rfl) : CallR X (.builtin "repr") (rReprD K) := hK ▸ cr_reprD hg hu
theorem kStr {X : Cx} {K : PySem.W.Frag} (hg : X.A.guards = some []) (hu : X.A.units + 64 < cLine) (hK : X.K = K := by rfl) : CallR X (.type "str") (rReprD K) := hK ▸ cr_strD hg hu
end Hg

set_option maxHeartbeats 4000000
namespace Hg
open PySem PySem.Spec PyProof.Rows L2
/-! ### texts: by their codes -/
abbrev tx (l : List Nat) : Str := ⟨l.toArray⟩
theorem tx_len (l : List Nat) : (tx l).length = l.length := List.size_toArray ..
theorem tx_inj {l m : List Nat} (h : tx l = tx m) : l = m := by
  have := congrArg (fun s : Str => s.cps.toList) h
  simpa using this
theorem tx_eq {l m : List Nat} : decide (V.str (tx l) = V.str (tx m)) = decide (l = m) := by
  by_cases h : l = m
  · subst h; simp
  · have : V.str (tx l) ≠ V.str (tx m) := fun e => h (tx_inj (V.str.inj e))
    rw [decide_eq_false h, decide_eq_false this]
theorem tx_app (l m : List Nat) : tx l ++ tx m = tx (l ++ m) := by
  show (⟨l.toArray ++ m.toArray⟩ : Str) = _
  rw [List.append_toArray]
/-! ### text * int -/
def rMulS : R2 := fun x y H Q => ∃ (l : List Nat) (k : Nat), x = .str (tx l) ∧ y = .int k ∧ l.length ≤ 1000 ∧ k ≤ 1000 ∧ Q (.str (tx (List.replicate k l).flatten)) H
theorem foldl_app (its : List Nat) : ∀ (m : Nat) (acc : List Nat), (List.foldl (fun x1 x2 => x1 ++ x2) acc.toArray (List.replicate m its.toArray)) = (acc ++ (List.replicate m its).flatten).toArray
  | 0, acc => by simp
  | m + 1, acc => by
    rw [List.replicate_succ, List.foldl_cons, List.append_toArray, foldl_app its m, List.replicate_succ, List.flatten_cons, List.append_assoc]
theorem txMul (l : List Nat) (k : Nat) : Txt.mul (tx l) (k : Int) = tx (List.replicate k l).flatten := by
  unfold Txt.mul
  by_cases h : k = 0
  · subst h; rfl
  · rw [if_neg (by omega)]
    split
    · rename_i c
      rw [Bool.or_eq_true, beq_iff_eq, beq_iff_eq] at c
      rcases c with c | c
      · have : k = 1 := by omega
        subst this
        simp
      · rw [tx_len] at c
        have : l = [] := List.eq_nil_of_length_eq_zero c
        subst this
        simp
    · rw [Int.toNat_natCast]
      have := foldl_app l k []
      rw [List.nil_append] at this
      exact congrArg Str.mk this
theorem op_mulS {X : Cx} : OpR X (binaryOp .Mult) rMulS := by
  intro pins s σ H x y v u Q I rx ry h
  obtain ⟨l, k, rfl, rfl, hl, hk, q⟩ := h
  obtain ⟨t, rfl⟩ := rx
  obtain ⟨t2, rfl⟩ := ry
  refine PySem.SB.mul (mulOk_of 1000 1000 (by rw [tx_len]; exact hl) (by omega) (by omega) (by decide) (by decide)) fun t' tk => ?_
  rw [txMul]
  exact ⟨.str _, H, I.tok _, ⟨_, rfl⟩, q⟩
theorem kMulS {X : Cx} : OpR X (binaryOp .Mult) rMulS := op_mulS
theorem rep1 (c : Nat) (k : Nat) : (List.replicate k [c]).flatten = List.replicate k c := rep_flat c k
/-! ### index, slice, sum, in -/
theorem ixs {K : PySem.W.Frag} {H : Hp} {l : List Nat} {i c : Nat} {Q : VK} (h : l[i]? = some c) (hl : l.length ≤ 100000) (q : Q (.str (tx [c])) H) : rIx K (.str (tx l)) (.int i) H Q :=
  .inr (.inr ⟨tx l, i, c, rfl, rfl, by rw [tx_len, sizeLine_eq]; omega, atI_nat (by simpa using h), q⟩)
theorem kSlS {X : Cx} : SlR X rSlS := sl_str
theorem cutS_tx {l : List Nat} {a b : Nat} : cutS (tx l) (some (a : Int)) (some (b : Int)) = tx ((l.drop a).take (b - a)) := by
  unfold cutS
  rw [HT.sIx_nat, HT.sIx_nat, tx_len]
  show (⟨((l.drop (min a l.length)).take (min b l.length - min a l.length)).toArray⟩ : Str) = _
  congr 2
  by_cases ha : a ≤ l.length
  · rw [Nat.min_eq_left ha]
    by_cases hb : b ≤ l.length
    · rw [Nat.min_eq_left hb]
    · have e : min b l.length = l.length := by omega
      rw [e, List.take_of_length_le (by simp), List.take_of_length_le (by simp; omega)]
  · have e : min a l.length = l.length := by omega
    rw [e, List.drop_length, List.drop_of_length_le (by omega)]
    simp
theorem sl_s {H : Hp} {l : List Nat} {a b : Nat} {Q : VK} (hl : l.length ≤ 100000) (q : Q (.str (tx ((l.drop a).take (b - a)))) H) : rSlS (.str (tx l)) (some (a : Int)) (some (b : Int)) H Q :=
  ⟨tx l, rfl, by rw [tx_len, sizeLine_eq]; omega, by rw [cutS_tx]; exact q⟩
theorem cat_s {K : PySem.W.Frag} {H : Hp} {l m : List Nat} {Q : VK} (hl : l.length + m.length ≤ 100000) (q : Q (.str (tx (l ++ m))) H) : rPlus K (.str (tx l)) (.str (tx m)) H Q :=
  .inr (.inr (.inr ⟨tx l, tx m, rfl, rfl, by rw [tx_len, tx_len, sizeLine_eq]; omega, by rw [tx_app]; exact q⟩))
abbrev sV (ls : List (List Nat)) : List V := ls.map fun l => V.str (tx l)
theorem inV_sV (a : List Nat) : ∀ ls : List (List Nat), inV (.str (tx a)) (sV ls) = decide (a ∈ ls)
  | [] => by simp [inV]
  | l :: ls => by
    have ih := inV_sV a ls
    unfold inV at ih ⊢
    show ((V.str (tx l) :: sV ls).any fun y => eqV y (V.str (tx a))) = _
    rw [List.any_cons, ih]
    have e : eqV (.str (tx l)) (.str (tx a)) = decide (l = a) := by
      show (tx l == tx a) = _
      by_cases h : l = a
      · subst h; simp
      · have : tx l ≠ tx a := fun e => h (tx_inj e)
        rw [decide_eq_false h]
        exact beq_eq_false_iff_ne.mpr this
    rw [e]
    by_cases h1 : l = a
    · subst h1; simp
    · have h2 : ¬ a = l := fun e => h1 e.symm
      simp [h1, h2]
theorem flat_sV (ls : List (List Nat)) : (sV ls).all flatV = true := by
  rw [List.all_eq_true]
  intro x hx
  obtain ⟨l, _, rfl⟩ := List.mem_map.mp hx
  rfl
theorem in_l {K : PySem.W.Frag} {H : Hp} {p : Addr} {a : List Nat} {ls : List (List Nat)} {Q : VK} (h : SqL K H p (sV ls) ∨ SqT K H p (sV ls)) (q : Q (.bl (decide (a ∈ ls))) H) : rIn K false (.str (tx a)) (.ref p) H Q :=
  ⟨p, _, rfl, h, rfl, flat_sV ls, by rw [if_neg Bool.false_ne_true, inV_sV]; exact q⟩
/-! ### find of one sign from a place -/
theorem occ_none_at (s sub : Str) (hi : Nat) : ∀ (l : List Nat) (free : Nat), (∀ i ∈ l, ¬ (i + sub.length ≤ hi ∧ Builtin.Str.subAt s sub i = true)) → (forIn l ((#[] : Array Nat), free) (StrLaws.occBody s sub hi 1)).run.fst = #[]
  | [], free, _ => rfl
  | a :: l, free, h => by
    rw [List.forIn_cons]
    unfold StrLaws.occBody
    rw [if_neg (fun c => h a (List.mem_cons_self ..) ⟨c.1.2, c.2⟩)]
    exact occ_none_at s sub hi l free fun i hi' => h i (List.mem_cons_of_mem _ hi')
theorem occ_full (s sub : Str) (hi : Nat) : ∀ (l : List Nat) (x free : Nat), (forIn l ((#[x] : Array Nat), free) (StrLaws.occBody s sub hi 1)).run.fst = #[x]
  | [], x, free => rfl
  | a :: l, x, free => by
    rw [List.forIn_cons]
    unfold StrLaws.occBody
    rw [if_neg (fun c => absurd c.1.1.1 (by simp))]
    exact occ_full s sub hi l x free
theorem occ_first (s sub : Str) (hi : Nat) : ∀ (l : List Nat) (free : Nat) (k : Nat) (r : List Nat) (pre : List Nat), l = pre ++ k :: r → (∀ i ∈ l, free ≤ i) → (∀ i ∈ pre, ¬ (i + sub.length ≤ hi ∧ Builtin.Str.subAt s sub i = true)) → k + sub.length ≤ hi → Builtin.Str.subAt s sub k = true →
    (forIn l ((#[] : Array Nat), free) (StrLaws.occBody s sub hi 1)).run.fst = #[k] := by
  intro l free k r pre
  induction pre generalizing l free with
  | nil =>
    rintro rfl hf _ h1 h2
    rw [List.nil_append, List.forIn_cons]
    unfold StrLaws.occBody
    rw [if_pos ⟨⟨⟨by simp, hf k (by simp)⟩, h1⟩, h2⟩]
    exact occ_full s sub hi r k _
  | cons a pre ih =>
    rintro rfl hf hp h1 h2
    rw [List.cons_append, List.forIn_cons]
    unfold StrLaws.occBody
    rw [if_neg (fun c => hp a (by simp) ⟨c.1.2, c.2⟩)]
    exact ih _ free rfl (fun i hi => hf i (by rw [List.cons_append]; exact List.mem_cons_of_mem _ hi)) (fun i hi => hp i (by simp [hi])) h1 h2
theorem subAt_tx {l : List Nat} {c i : Nat} : Builtin.Str.subAt (tx l) (tx [c]) i = decide (l[i]? = some c) := by
  unfold Builtin.Str.subAt
  show ((l.toArray.extract i (i + 1)) == #[c]) = _
  have e1 : l.toArray.extract i (i + 1) = ((l.drop i).take 1).toArray := by
    rw [List.extract_toArray]
    congr 1
    rw [List.extract_eq_take_drop]
    congr 1
    omega
  rw [e1]
  have e2 : (((l.drop i).take 1).toArray == #[c]) = decide ((l.drop i).take 1 = [c]) := by
    by_cases h : (l.drop i).take 1 = [c]
    · rw [h]; simp
    · rw [decide_eq_false h]
      refine beq_eq_false_iff_ne.mpr fun e => h ?_
      have := congrArg Array.toList e
      simpa using this
  rw [e2]
  congr 1
  apply propext
  by_cases hi : i < l.length
  · rw [List.drop_eq_getElem_cons hi, List.getElem?_eq_getElem hi, List.take_succ_cons, List.take_zero]
    constructor
    · intro h
      injection h with h
      rw [h]
    · intro h
      rw [Option.some.inj h]
  · rw [List.drop_of_length_le (by omega), List.getElem?_eq_none (by omega)]
    simp
theorem find_tx {l pre r : List Nat} {c i : Nat} (hi : i ≤ l.length) (h : l.drop i = pre ++ c :: r) (hp : c ∉ pre) : Txt.find3 (tx l) (tx [c]) (i : Int) = ((i + pre.length : Nat) : Int) := by
  have hl : l.length - i = pre.length + (r.length + 1) := by
    have := congrArg List.length h
    rw [List.length_drop, List.length_append, List.length_cons] at this
    exact this
  have at_ : ∀ j, l[i + j]? = (pre ++ c :: r)[j]? := by
    intro j
    rw [← h, List.getElem?_drop]
  have occ : Builtin.Str.occurrences (tx l) (tx [c]) i (tx l).length 1 = [i + pre.length] := by
    rw [StrLaws.occ_eq, tx_len]
    have e : List.range' i (l.length + 1 - i) = List.range' i pre.length ++ (i + pre.length) :: List.range' (i + pre.length + 1) (r.length + 1) := by
      have a1 := List.range'_append (s := i) (m := pre.length) (n := r.length + 2) (step := 1)
      rw [show l.length + 1 - i = pre.length + (r.length + 2) by omega, ← a1, Nat.one_mul, List.range'_succ]
    have key := occ_first (tx l) (tx [c]) l.length _ i (i + pre.length) _ _ e (fun j hj => by have := List.mem_range'.mp hj; omega) (fun j hj z => ?_) ?_ ?_
    · rw [key]
    · obtain ⟨k, hk, rfl⟩ := List.mem_range'.mp hj
      have z2 := z.2
      rw [subAt_tx, decide_eq_true_eq, Nat.one_mul, at_ k, List.getElem?_append_left hk] at z2
      exact hp (List.mem_of_getElem? z2)
    · rw [tx_len]
      show i + pre.length + 1 ≤ l.length
      omega
    · rw [subAt_tx, decide_eq_true_eq, at_ pre.length, List.getElem?_append_right (Nat.le_refl _), Nat.sub_self]
      rfl
  unfold Txt.find3
  have ef : fromIndex (tx l).length (i : Int) = i := by
    unfold fromIndex
    rw [if_neg (by omega)]
    omega
  rw [ef, occ]
end Hg

set_option maxHeartbeats 4000000
namespace Hg
open PySem PySem.Spec PyProof.Rows L2
/-! ### a comprehension whose elements are new objects, and which may draw -/
section
variable {J : It} {n : Nat} {G : Hp → Prop} {Y : Nat → Hp → V → Hp → Prop}
theorem lc_grow (w : Walk J n G Y) {g : TG} {tt : TT} {te : TE} {vs : List Nat} {σ : L2.St} {G1 H1 : Hp} {D s q : Addr} {B c : Nat} {Qd : Hp → Prop} (hO : Ov s q B G1 H1) (hD : H1 D = none) (P : Nat → List V → Hp → Prop) (hP : P 0 [] G1)
    (hk : ∀ i acc G G', (∀ a ys, G a = some (.tup ys) → G' a = some (.tup ys)) → P i acc G → P i acc G')
    (hl : ∀ i acc G', i ≤ n → P i acc G' → acc.length ≤ i) (hn : n ≤ 1000000) (hG : ∀ i H G', i ≤ n → Ex G1 G' → Ov s q (B + c * i) G' H → G H)
    (hs : ∀ i x Hc Hy acc G', i < n → Ex G1 G' → P i acc G' → Ov s q (B + c * i) G' Hc → Y i Hc x Hy → ∀ (Qe : VK) (Qn : Hp → Prop), (∀ y H4 G2, Ex G' G2 → P (i + 1) (acc ++ [y]) G2 → Ov s q (B + c * (i + 1)) G2 H4 → Qe y H4) →
      (∀ H3 G2, Ex G' G2 → P (i + 1) acc G2 → Ov s q (B + c * (i + 1)) G2 H3 → Qn H3) →
      g x (wipe σ vs) Hy fun σ2 H2 => wipe σ2 vs = wipe σ vs ∧ tt σ2 H2 fun b H3 => if b = true then te σ2 H3 Qe else Qn H3)
    (hd : ∀ H acc G', Ex G1 G' → P n acc G' → G' D = some (.lst acc) → Ov s q (B + c * n) G' H → Qd H) :
    ∃ W : Nat → Nat → Hp → Prop, (∃ m, W 0 m (upd H1 D (.lst []))) ∧ ∀ i m H, W i m H →
      (J.stop i H ∧ Qd H) ∨ (J.go i H ∧ ∃ Nx : Hp → Prop, (∀ H', Nx H' → ∃ m', m' < m ∧ W (i + 1) m' H') ∧ ∀ x H', J.yld i H x H' → g x (wipe σ vs) H' fun σ2 H2 => wipe σ2 vs = wipe σ vs ∧ tt σ2 H2 fun b H3 =>
        if b = true then te σ2 H3 fun y H4 => ∃ acc, H4 D = some (.lst acc) ∧ acc.length < sizeLine ∧ Nx (upd H4 D (.lst (acc ++ [y]))) else Nx H3) := by
  have g1 : G1 D = none := hO.sub.free hD
  have e1 := Ex.new (o := .lst []) g1
  refine lc_it w (fun i H => ∃ acc G', Ex G1 G' ∧ P i acc G' ∧ G' D = some (.lst acc) ∧ Ov s q (B + c * i) G' H) ⟨[], _, e1, hk _ _ _ _ (fun a ys h => e1 _ _ h) hP, upd_same, hO.new hD⟩ (fun i H hi p => ?_) (fun i x Hc Hy hi p y => ?_) (fun H p => ?_)
  · obtain ⟨acc, G', ex, _, _, o⟩ := p
    exact hG i H G' hi ex o
  · obtain ⟨acc, G', ex, pa, hA, o⟩ := p
    refine hs i x Hc Hy acc G' hi ex pa o y _ _ (fun y H4 G2 e2 pa' o' => ?_) (fun H3 G2 e2 pa' o' => ⟨acc, G2, ex.trans e2, pa', e2 _ _ hA, o'⟩)
    have hA2 := e2 _ _ hA
    refine ⟨acc, o'.sub _ _ hA2, ?_, acc ++ [y], _, (ex.trans e2).up g1, hk _ _ _ _ (fun a ys h => tk_put hA2 a ys h) pa', upd_same, o'.put hA2⟩
    have := hl i acc G' (Nat.le_of_lt hi) pa
    rw [sizeLine_eq]
    omega
  · obtain ⟨acc, G', ex, pa, hA, o⟩ := p
    exact hd H acc G' ex pa hA o
end
/-! ### two ways that meet: give P as a metavariable; the first way to be walked must end at fresh names -/
theorem joinA {α : Type} {P : α → Hp → Prop} {A : Prop} (C : α → Hp → Prop) (main : (∀ a H, C a H → P a H) → A) (tail : ∀ a H, C a H → P a H) : A := main tail
theorem joinA3 {α β γ : Type} {P : α → β → γ → Hp → Prop} {A : Prop} (C : α → β → γ → Hp → Prop) (main : (∀ a b c H, C a b c H → P a b c H) → A) (tail : ∀ a b c H, C a b c H → P a b c H) : A := main tail
theorem cut_take {xs : List V} {n : Nat} : cutV xs none (some (n : Int)) = xs.take n := by
  unfold cutV
  rw [HT.sIx_none, HT.sIx_nat, List.drop_zero, Nat.sub_zero]
  by_cases h : n ≤ xs.length
  · rw [Nat.min_eq_left h]
  · rw [Nat.min_eq_right (by omega), List.take_length, List.take_of_length_le (by omega)]
end Hg

set_option maxHeartbeats 4000000
namespace K48
open PySem PySem.Spec PyProof.Rows L2 Hg
abbrev c_MOST_DIGITS : V := .int (6)
abbrev c_SHORT_SYMBOLS : V := .str (tx [40, 41, 44, 46, 43, 45, 42, 61, 60, 62])
abbrev c_LONGEST : V := .int (12)
abbrev c_NAME_CHARACTERS : V := .str (tx [97, 98, 99, 100, 101, 102, 103, 104, 105, 106, 107, 108, 109, 110, 111, 112, 113, 114, 115, 116, 117, 118, 119, 120, 121, 122, 95, 48, 49, 50, 51, 52, 53, 54, 55, 56, 57])
abbrev c_DIGITS : V := .str (tx [48, 49, 50, 51, 52, 53, 54, 55, 56, 57])
abbrev c_LETTERS : V := .str (tx [97, 98, 99, 100, 101, 102, 103, 104, 105, 106, 107, 108, 109, 110, 111, 112, 113, 114, 115, 116, 117, 118, 119, 120, 121, 122])
def top (i : Nat) : Stmt := PySem.Challenge.pw_hushgrain_k48_tokens_of_texts.main.body.getD i (.Pass ⟨0, 0, 0, 0⟩)
abbrev st_frozen : Stmt := top 1
theorem sc_frozen : FnScope ["thing", "stack", "source", "built", "part", "outer"] ["thing"] (defScope st_frozen) := ⟨rfl, rfl, rfl, by decide +kernel, rfl, by decide +kernel, by decide +kernel⟩
abbrev st_is_word : Stmt := top 11
theorem sc_is_word : FnScope ["thing", "char"] ["thing"] (defScope st_is_word) := ⟨rfl, rfl, rfl, by decide +kernel, rfl, by decide +kernel, by decide +kernel⟩
abbrev st_tokens : Stmt := top 16
theorem sc_tokens : FnScope ["text", "found", "position", "kind", "value", "end"] ["text"] (defScope st_tokens) := ⟨rfl, rfl, rfl, by decide +kernel, rfl, by decide +kernel, by decide +kernel⟩
abbrev st__token : Stmt := top 17
theorem sc__token : FnScope ["text", "start", "char"] ["text", "start"] (defScope st__token) := ⟨rfl, rfl, rfl, by decide +kernel, rfl, by decide +kernel, by decide +kernel⟩
abbrev st__letters : Stmt := top 18
theorem sc__letters : FnScope ["text", "start", "end", "value", "kind"] ["text", "start"] (defScope st__letters) := ⟨rfl, rfl, rfl, by decide +kernel, rfl, by decide +kernel, by decide +kernel⟩
abbrev st__digits : Stmt := top 19
theorem sc__digits : FnScope ["text", "start", "end", "count"] ["text", "start"] (defScope st__digits) := ⟨rfl, rfl, rfl, by decide +kernel, rfl, by decide +kernel, by decide +kernel⟩
abbrev st__word : Stmt := top 20
theorem sc__word : FnScope ["text", "start", "end"] ["text", "start"] (defScope st__word) := ⟨rfl, rfl, rfl, by decide +kernel, rfl, by decide +kernel, by decide +kernel⟩
abbrev st__run_end : Stmt := top 21
theorem sc__run_end : FnScope ["text", "start", "characters", "end"] ["text", "start", "characters"] (defScope st__run_end) := ⟨rfl, rfl, rfl, by decide +kernel, rfl, by decide +kernel, by decide +kernel⟩
abbrev st_l_draw : Stmt := top 23
theorem sc_l_draw : FnScope ["_law_stream", "_law_many", "_law_number"] ["_law_stream", "_law_many"] (defScope st_l_draw) := ⟨rfl, rfl, rfl, by decide +kernel, rfl, by decide +kernel, by decide +kernel⟩
abbrev st_l_reserved : Stmt := top 24
theorem sc_l_reserved : FnScope [] [] (defScope st_l_reserved) := ⟨rfl, rfl, rfl, by decide +kernel, rfl, by decide +kernel, by decide +kernel⟩
abbrev st_l_name : Stmt := top 25
theorem sc_l_name : FnScope ["_law_stream", "_law_inner", "_law_more", "_law_name_here", "_law_k"] ["_law_stream"] (defScope st_l_name) := ⟨rfl, rfl, rfl, by decide +kernel, rfl, by decide +kernel, by decide +kernel⟩
abbrev st_l_symbols : Stmt := top 26
theorem sc_l_symbols : FnScope [] [] (defScope st_l_symbols) := ⟨rfl, rfl, rfl, by decide +kernel, rfl, by decide +kernel, by decide +kernel⟩
abbrev st_l_token : Stmt := top 27
theorem sc_l_token : FnScope ["_law_stream", "_law_way", "_law_number", "_law_some", "_law_word", "_law_symbol", "_law_near", "_law_name_here"] ["_law_stream"] (defScope st_l_token) := ⟨rfl, rfl, rfl, by decide +kernel, rfl, by decide +kernel, by decide +kernel⟩
abbrev st_l_need_space : Stmt := top 28
theorem sc_l_need_space : FnScope ["_law_one", "_law_other"] ["_law_one", "_law_other"] (defScope st_l_need_space) := ⟨rfl, rfl, rfl, by decide +kernel, rfl, by decide +kernel, by decide +kernel⟩
abbrev st_l_text : Stmt := top 29
theorem sc_l_text : FnScope ["_law_stream", "_law_some", "_law_text_here", "_law_positions", "_law_k", "_law_spaces"] ["_law_stream", "_law_some"] (defScope st_l_text) := ⟨rfl, rfl, rfl, by decide +kernel, rfl, by decide +kernel, by decide +kernel⟩
abbrev st_law : Stmt := top 30
theorem sc_law : FnScope ["_law_script", "_law_stream", "_law_turn", "_law_some", "_law_text_here", "_law_positions", "_law_due", "_law_again", "_law_found", "_law_k"] ["_law_script"] (defScope st_law) := ⟨rfl, rfl, rfl, by decide +kernel, rfl, by decide +kernel, by decide +kernel⟩
structure Zs (mg : Str → Option Value) : Prop where
  all_ : mg "all" = none
  int_ : mg "int" = none
  isinstance_ : mg "isinstance" = none
  len_ : mg "len" = none
  list_ : mg "list" = none
  max_ : mg "max" = none
  range_ : mg "range" = none
  repr_ : mg "repr" = none
  str_ : mg "str" = none
  tuple_ : mg "tuple" = none
structure CGs (K : PySem.W.Frag) (mg : Str → Option Value) : Type where
  LETTERS_t : Tok
  LETTERS_ : mg "LETTERS" = some (.str (tx [97, 98, 99, 100, 101, 102, 103, 104, 105, 106, 107, 108, 109, 110, 111, 112, 113, 114, 115, 116, 117, 118, 119, 120, 121, 122]) LETTERS_t)
  DIGITS_t : Tok
  DIGITS_ : mg "DIGITS" = some (.str (tx [48, 49, 50, 51, 52, 53, 54, 55, 56, 57]) DIGITS_t)
  NAME_CHARACTERS_t : Tok
  NAME_CHARACTERS_ : mg "NAME_CHARACTERS" = some (.str (tx [97, 98, 99, 100, 101, 102, 103, 104, 105, 106, 107, 108, 109, 110, 111, 112, 113, 114, 115, 116, 117, 118, 119, 120, 121, 122, 95, 48, 49, 50, 51, 52, 53, 54, 55, 56, 57]) NAME_CHARACTERS_t)
  RESERVED_a : Addr
  RESERVED_ : mg "RESERVED" = some (.ref RESERVED_a)
  RESERVED_q : ∀ H : Hp, SqT K H RESERVED_a [.str (tx [115, 101, 108, 101, 99, 116]), .str (tx [115, 117, 109]), .str (tx [99, 111, 117, 110, 116]), .str (tx [102, 114, 111, 109]), .str (tx [97, 116]), .str (tx [100, 97, 121]), .str (tx [97, 115]), .str (tx [119, 104, 101, 114, 101]), .str (tx [98, 121]), .str (tx [97, 110, 100]), .str (tx [111, 114]), .str (tx [110, 111, 116]), .str (tx [105, 110])]
  LONGEST_t : Tok
  LONGEST_ : mg "LONGEST" = some (.int (12) LONGEST_t)
  LONG_SYMBOLS_a : Addr
  LONG_SYMBOLS_ : mg "LONG_SYMBOLS" = some (.ref LONG_SYMBOLS_a)
  LONG_SYMBOLS_q : ∀ H : Hp, SqT K H LONG_SYMBOLS_a [.str (tx [33, 61]), .str (tx [60, 61]), .str (tx [62, 61])]
  SHORT_SYMBOLS_t : Tok
  SHORT_SYMBOLS_ : mg "SHORT_SYMBOLS" = some (.str (tx [40, 41, 44, 46, 43, 45, 42, 61, 60, 62]) SHORT_SYMBOLS_t)
  MOST_DIGITS_t : Tok
  MOST_DIGITS_ : mg "MOST_DIGITS" = some (.int (6) MOST_DIGITS_t)
def sp_l_draw (_ : PySem.W.Frag) : Sp := spDraw
end K48

set_option maxHeartbeats 4000000
namespace K48
open PySem PySem.Spec PyProof.Rows L2 Hg
/-! ### what a token is -/
abbrev LET : List Nat := [97, 98, 99, 100, 101, 102, 103, 104, 105, 106, 107, 108, 109, 110, 111, 112, 113, 114, 115, 116, 117, 118, 119, 120, 121, 122]
abbrev DIG : List Nat := [48, 49, 50, 51, 52, 53, 54, 55, 56, 57]
abbrev NCH : List Nat := [97, 98, 99, 100, 101, 102, 103, 104, 105, 106, 107, 108, 109, 110, 111, 112, 113, 114, 115, 116, 117, 118, 119, 120, 121, 122, 95, 48, 49, 50, 51, 52, 53, 54, 55, 56, 57]
abbrev RES : List (List Nat) := [[115, 101, 108, 101, 99, 116], [115, 117, 109], [99, 111, 117, 110, 116], [102, 114, 111, 109], [97, 116], [100, 97, 121], [97, 115], [119, 104, 101, 114, 101], [98, 121], [97, 110, 100], [111, 114], [110, 111, 116], [105, 110]]
abbrev LSY : List (List Nat) := [[33, 61], [60, 61], [62, 61]]
abbrev SSY : List Nat := [40, 41, 44, 46, 43, 45, 42, 61, 60, 62]
def runN (cs r : List Nat) : Nat := (r.takeWhile fun c => decide (c ∈ cs)).length
def isW (w : List Nat) : Bool := decide (w.length ≤ 12) && w.all fun c => decide (32 ≤ c) && decide (c ≤ 126) && !decide (c = 34)
def tokL (r : List Nat) : Option (Str × V × Nat) := if 12 < runN NCH r then none else some (if r.take (runN NCH r) ∈ RES then "reserved" else "name", .str (tx (r.take (runN NCH r))), runN NCH r)
def tokD (r : List Nat) : Option (Str × V × Nat) := if 6 < runN DIG r ∨ (1 < runN DIG r ∧ r[0]? = some 48) then none else (PySem.intText? (tx (r.take (runN DIG r)))).map fun v => ("integer", .int v, runN DIG r)
def tokW (r : List Nat) : Option (Str × V × Nat) := let w := (r.drop 1).takeWhile fun c => !decide (c = 34); if w.length + 1 < r.length ∧ isW w = true then some ("word", .str (tx w), w.length + 2) else none
def tokR (r : List Nat) : Option (Str × V × Nat) :=
  match r with
  | [] => none
  | c :: cs => if c ∈ LET then tokL (c :: cs) else if c ∈ DIG then tokD (c :: cs) else if c = 34 then tokW (c :: cs) else
    if (c :: cs).take 2 ∈ LSY then some ("symbol", .str (tx ((c :: cs).take 2)), 2) else if c ∈ SSY then some ("symbol", .str (tx [c]), 1) else none
theorem runN_le (cs r : List Nat) : runN cs r ≤ r.length := (List.takeWhile_prefix _).length_le
theorem runN_in {cs : List Nat} : ∀ {r : List Nat} {j c : Nat}, j < runN cs r → r[j]? = some c → c ∈ cs
  | [], j, c, h, _ => by simp [runN] at h
  | x :: r, j, c, h, e => by
    unfold runN at h
    rw [List.takeWhile_cons] at h
    split at h
    · rename_i hx
      cases j with
      | zero => cases e; simpa using hx
      | succ j => exact runN_in (r := r) (by unfold runN; simpa using h) (by simpa using e)
    · simp at h
theorem runN_out {cs : List Nat} : ∀ {r : List Nat} {c : Nat}, r[runN cs r]? = some c → c ∉ cs
  | [], c, e => by simp at e
  | x :: r, c, e => by
    unfold runN at e
    rw [List.takeWhile_cons] at e
    split at e
    · exact runN_out (r := r) (by unfold runN; simpa using e)
    · rename_i hx
      rw [List.length_nil, List.getElem?_cons_zero] at e
      cases e
      simpa using hx
def sp__run_end (_ : PySem.W.Frag) : Sp := fun vs H Q _ => ∃ (T cs : List Nat) (i : Nat), vs = [.str (tx T), .int i, .str (tx cs)] ∧ T.length ≤ 5000 ∧ i ≤ T.length ∧ Q (.int ((i + runN cs (T.drop i) : Nat) : Int)) H
def sp_is_word (_ : PySem.W.Frag) : Sp := fun vs H Q _ => ∃ (w : List Nat), vs = [.str (tx w)] ∧ w.length ≤ 5000 ∧ ∀ H', Ex H H' → Q (.bl (isW w)) H'
section
variable {P : Program} {w : World} {K : PySem.W.Frag} {mg : Str → Option Value} {base : Heap}
theorem ok_l_draw {f : Addr} {fd : FuncData} (F : DefK K mg "_law_draw" st_l_draw ["_law_stream", "_law_many"] f fd) (Z : Zs mg) (CG : CGs K mg)  :
    FnOk P w K mg base CX0 1 f fd ["_law_stream", "_law_many"] (sp_l_draw K) := by
  refine F.fn.ok sc_l_draw (fun vs H Q E h => by first | (obtain ⟨_, rfl, _⟩ := h; rfl) | (obtain ⟨_, _, rfl, _⟩ := h; rfl) | (obtain ⟨_, _, _, rfl, _⟩ := h; rfl) | (obtain ⟨_, _, _, _, rfl, _⟩ := h; rfl) | (obtain ⟨_, _, _, _, _, rfl, _⟩ := h; rfl) | (obtain ⟨_, _, _, _, _, _, rfl, _⟩ := h; rfl) | (obtain ⟨_, _, _, _, _, _, _, rfl, _⟩ := h; rfl) | (obtain ⟨_, _, _, _, _, _, _, _, rfl, _⟩ := h; rfl) | (obtain ⟨_, _, _, _, _, _, _, _, _, rfl, _⟩ := h; rfl) | (obtain ⟨_, _, _, _, _, _, _, _, _, _, rfl, _⟩ := h; rfl) | (obtain ⟨_, _, _, _, _, _, _, _, _, _, _, rfl, _⟩ := h; rfl) | (obtain ⟨_, _, _, _, _, _, _, _, _, _, _, _, rfl, _⟩ := h; rfl) | (obtain ⟨_, _, _, _, _, _, _, _, _, _, _, _, _, rfl, _⟩ := h; rfl)) (fun cdv A outer s H vs Q E hr h => ?_)
  obtain ⟨s0, q, B, G, m, rfl, O, hB, hm0, hm1, kq⟩ := h
  obtain ⟨ne, n, c, k, ns, e1, e2, n0, c0, c1, k0, k1⟩ := O.str
  refine ⟨_, (pss_cons (ps_asg (pe_op (kAdd (K := K)) (pe_ix (kIx (K := K)) (pv 0) pe_int (fun _ _ => rfl)) pe_int) (pg_sub (pv 0) pe_int set_list))
      (pss_cons (ps_if (PW.pt (pw_and (pt_cmpR (kEq (K := K) hr.units) (pe_ix (kIx (K := K)) (pv 0) pe_int (fun _ _ => rfl)) pe_int (nomark _)) (pw_and1 (pt_cmpR (kNe (K := K) hr.units) (pe_ix (kIx (K := K)) (pv 0) pe_int (fun _ _ => rfl)) (pe_lst pa_nil) (nomark _))))) (pss_cons (ps_asg (pe_bm PySem.F.plainAttrs_list PySem.F.slot_list_pop PySem.F.type_list_pop mt_popAt (pe_ix (kIx (K := K)) (pv 0) pe_int (fun _ _ => rfl)) (pa_cons pe_int pa_nil)) (pg_sub (pv 0) pe_int set_list))
      (pss_one (ps_if (pt_cmpR op_lt (pe_ix (kIx (K := K)) (pv 0) pe_int (fun _ _ => rfl)) (pe_op op_pow pe_int pe_int) (nomark _)) (pss_cons (ps_asg (pe_op oMod (pe_op (kAdd (K := K)) (pe_op oMul (pe_ix (kIx (K := K)) (pv 0) pe_int (fun _ _ => rfl)) pe_int) (pe_ix (kIx (K := K)) (pv 0) pe_int (fun _ _ => rfl))) pe_int) (pg_sub (pv 0) pe_int set_list))
      (pss_one (ps_asg pe_int (pg_sub (pv 0) pe_int set_list)))) pss_nil))) pss_nil)
      (pss_cons (ps_if (pt_cmpR op_gt (pe_ix (kIx (K := K)) (pv 0) pe_int (fun _ _ => rfl)) pe_int (nomark _)) (pss_cons (ps_set (i := 2) sc_l_draw.nd rfl (.inl rfl) (pe_op oMod (pe_ix (kIx (K := K)) (pv 0) pe_int (fun _ _ => rfl)) (pv 1)))
      (pss_cons (ps_asg (pe_op oDiv (pe_ix (kIx (K := K)) (pv 0) pe_int (fun _ _ => rfl)) (pv 1)) (pg_sub (pv 0) pe_int set_list))
      (pss_one (ps_ret (pv 2))))) pss_nil)
      (pss_cons (ps_set (i := 2) sc_l_draw.nd rfl (.inl rfl) (pe_op oMod (pe_op op_pow (pe_op (kAdd (K := K)) (pe_op (kAdd (K := K)) (pe_ix (kIx (K := K)) (pv 0) pe_int (fun _ _ => rfl)) (pe_op oMul pe_int (pe_ix (kIx (K := K)) (pv 0) pe_int (fun _ _ => rfl)))) pe_int) pe_int) pe_int))
      (pss_one (ps_ret (pe_op oMod (pe_op oMod (pe_op oMul (pe_op (kAdd (K := K)) (pv 2) (pe_ix (kIx (K := K)) (pv 0) pe_int (fun _ _ => rfl))) pe_int) pe_int) (pv 1)))))))), ?_⟩
  -- stream[2] = stream[2] + 1
  refine ⟨_, rfl, ixl e1 rfl (.inl ⟨c, 1, rfl, rfl, _, rfl, s0, _, 2, 2, rfl, rfl, e1, rfl, ?_⟩)⟩
  have O1 : Ov s0 q (B + 1) G (upd H s0 (.lst [.ref q, .int n, .int (c + 1), .int k])) := O.setS e2 n0 (by omega) (by omega) k0 k1
  dsimp only
  refine cut (fun σ' H' => σ' = [some (.ref s0), some (.int m), none] ∧ Ov s0 q (B + 1) G H') ?_ ?_
  · -- what is left of the def
    rintro σ' H' ⟨rfl, O'⟩
    obtain ⟨_, n', c', k', ns', f1, f2, n0', c0', c1', k0', k1'⟩ := O'.str
    refine ⟨_, rfl, ixl f1 rfl ⟨n', 0, rfl, rfl, _, rfl, ?_⟩⟩
    by_cases hn : 0 < n'
    · rw [decide_eq_true hn]
      refine iteT ⟨_, rfl, ixl f1 rfl ⟨_, rfl, n', m, rfl, rfl, (by omega), ?_⟩⟩
      refine ⟨_, rfl, ixl f1 rfl ⟨_, rfl, n', m, rfl, rfl, ⟨by omega, ?_⟩, _, rfl, s0, _, 1, 1, rfl, rfl, f1, rfl, _, rfl, ?_⟩⟩
      · exact Nat.lt_of_lt_of_le (PySem.Flt.log2_lt_of (k := 8000) (by decide) hm1) (by decide)
      · have fm : n'.fmod m = n' % m := Int.fmod_eq_emod_of_nonneg n' (by omega)
        have fd : n'.fdiv m = n' / m := Int.fdiv_eq_ediv_of_nonneg n' (by omega)
        show Q (.int (n'.fmod m)) (upd H' s0 (.lst [.ref q, .int (n'.fdiv m), .int c', .int k']))
        rw [fm, fd]
        refine kq _ _ (Int.emod_nonneg _ (by omega)) (Int.emod_lt_of_pos _ hm0) ?_
        exact O'.setS f2 (Int.ediv_nonneg n0' (by omega)) c0' c1' k0' k1'
    · rw [decide_eq_false hn]
      refine iteF ⟨_, rfl, ixl f1 rfl ⟨_, rfl, ixl f1 rfl ⟨7919, c', rfl, rfl, ?_, .inl ⟨k', 7919 * c', rfl, rfl, .inl ⟨_, 104729, rfl, rfl, _, 5, rfl, rfl, ⟨by decide, by decide, ?_⟩, _, 2147483647, rfl, rfl, (show (2147483647 : Int) ≠ 0 by decide), ?_⟩⟩⟩⟩⟩
      · exact wide_mul (a := 20) (b := 40) (by decide) (by omega) (by decide) (by decide) (by decide)
      · omega
      · generalize hX : (k' + 7919 * c' + 104729) ^ (5 : Int).toNat = X
        have hx0 : 0 ≤ X.fmod 2147483647 ∧ X.fmod 2147483647 < 2147483647 := by
          rw [Int.fmod_eq_emod_of_nonneg X (by decide)]
          exact ⟨Int.emod_nonneg _ (by decide), Int.emod_lt_of_pos _ (by decide)⟩
        have hmu : CMulW (X.fmod 2147483647 + c') 48271 := by
          generalize X.fmod 2147483647 = Y at hx0
          exact wide_mul (a := 40) (b := 20) (by omega) (by decide) (by decide) (by decide) (by decide)
        refine ⟨_, rfl, _, rfl, ixl f1 rfl (.inl ⟨_, c', rfl, rfl, _, 48271, rfl, rfl, hmu, _, 2147483629, rfl, rfl, (show (2147483629 : Int) ≠ 0 by decide), _, rfl, _, m, rfl, rfl, (show m ≠ 0 by omega), ?_⟩)⟩
        show Q (.int ((((X.fmod 2147483647 + c') * 48271).fmod 2147483629).fmod m)) _
        generalize ((X.fmod 2147483647 + c') * 48271).fmod 2147483629 = W
        have fm : W.fmod m = W % m := Int.fmod_eq_emod_of_nonneg W (by omega)
        rw [fm]
        exact kq _ _ (Int.emod_nonneg _ (by omega)) (Int.emod_lt_of_pos _ hm0) O'
  · intro N hN
    have done : ∀ H', Ov s0 q (B + 1) G H' → N [some (.ref s0), some (.int m), none] H' := fun H' o => hN _ _ ⟨rfl, o⟩
    obtain ⟨ne1, n1, c2, k2, ns1, f1, f2, g0, g1, g2, g3, g4⟩ := O1.str
    refine ⟨_, rfl, ixl f1 rfl (.inl ⟨rfl, _, rfl, ?_⟩)⟩
    by_cases hn : n1 = 0
    · have d1 : decide (V.int n1 = V.int 0) = true := by simp [hn]
      rw [d1]
      refine iteT ⟨_, rfl, ixl f1 rfl ⟨Nat.zero_le _, fun l hl => ?_⟩⟩
      have nl : q ≠ l := ne_of_none f2 hl
      have nsl : s0 ≠ l := ne_of_none f1 hl
      have O2 := O1.drop (o := .lst []) hl
      refine .inr ⟨_, _, dp_l (SqL.of ((upd_ne nl).trans f2)), .lst (SqL.of upd_same) .nil, shaped_l _, shaped_l [], _, rfl, ?_⟩
      rw [eqv_nil]
      cases ns1 with
      | nil => exact iteF (done _ O2)
      | cons z zs =>
        refine iteT ?_
        have f1' : upd (upd H s0 (.lst [.ref q, .int n, .int (c + 1), .int k])) l (.lst []) s0 = some (.lst [.ref q, .int n1, .int c2, .int k2]) := (upd_ne nsl).trans f1
        have f2' : upd (upd H s0 (.lst [.ref q, .int n, .int (c + 1), .int k])) l (.lst []) q = some (.lst ((z :: zs).map V.int)) := (upd_ne nl).trans f2
        -- stream[1] = stream[0].pop(0)
        refine ⟨_, rfl, ixl f1' rfl ⟨.inl ⟨rfl, _, SqL.of f2'⟩, q, _, 0, 0, .int z, rfl, rfl, f2', by decide, by decide, (by show seqIndex? 0 ((zs.map V.int).length + 1) = some 0; exact seq0 _), rfl, ?_⟩⟩
        have O3 := O2.setQ zs
        have g1' := (upd_ne (H := upd (upd H s0 (.lst [.ref q, .int n, .int (c + 1), .int k])) l (.lst [])) (o := .lst (zs.map V.int)) ne).trans f1'
        have g2' : upd (upd (upd H s0 (.lst [.ref q, .int n, .int (c + 1), .int k])) l (.lst [])) q (.lst (zs.map V.int)) q = some (.lst (zs.map V.int)) := upd_same
        refine ⟨_, rfl, s0, _, 1, 1, rfl, rfl, g1', rfl, ?_⟩
        have h1' := upd_same (H := upd (upd (upd H s0 (.lst [.ref q, .int n, .int (c + 1), .int k])) l (.lst [])) q (.lst (zs.map V.int))) (a := s0) (o := .lst [.ref q, .int z, .int c2, .int k2])
        refine ⟨_, rfl, ixl h1' rfl ⟨10, 18, rfl, rfl, ⟨by decide, by decide, by decide⟩, z, _, rfl, rfl, _, rfl, ?_⟩⟩
        have p18 : (10 : Int) ^ (18 : Int).toNat = 1000000000000000000 := by decide
        rw [p18]
        by_cases hz : z < 1000000000000000000
        · rw [decide_eq_true hz]
          refine iteT ⟨_, rfl, ixl h1' rfl ⟨k2, 39373, rfl, rfl, ?_, _, rfl, ixl h1' rfl (.inl ⟨k2 * 39373, z, rfl, rfl, k2 * 39373 + z, 2147483647, rfl, rfl, (show (2147483647 : Int) ≠ 0 by decide), _, rfl, s0, _, 3, 3, rfl, rfl, h1', rfl, ?_⟩)⟩⟩
          · exact wide_mul (a := 40) (b := 20) (by omega) (by decide) (by decide) (by decide) (by decide)
          · refine ⟨_, rfl, s0, _, 1, 1, rfl, rfl, upd_same, rfl, ?_⟩
            have b0 : 0 ≤ (k2 * 39373 + z).fmod 2147483647 ∧ (k2 * 39373 + z).fmod 2147483647 < 2147483647 := by
              rw [Int.fmod_eq_emod_of_nonneg _ (by decide)]
              exact ⟨Int.emod_nonneg _ (by decide), Int.emod_lt_of_pos _ (by decide)⟩
            refine done _ ?_
            rw [upd_upd, upd_upd]
            exact O3.setS g2' (Int.le_refl 0) g1 g2 b0.1 b0.2
        · rw [decide_eq_false hz]
          refine iteF (done _ ?_)
          exact O3.setS g2' (by omega) g1 g2 g3 g4
    · have d1 : decide (V.int n1 = V.int 0) = false := by simp [hn]
      rw [d1]
      exact iteF (done _ O1)
theorem ok__run_end {f : Addr} {fd : FuncData} (F : DefK K mg "_run_end" st__run_end ["text", "start", "characters"] f fd) (Z : Zs mg) (CG : CGs K mg)  :
    FnOk P w K mg base CX0 1 f fd ["text", "start", "characters"] (sp__run_end K) := by
  refine F.fn.ok sc__run_end (fun vs H Q E h => by first | (obtain ⟨_, rfl, _⟩ := h; rfl) | (obtain ⟨_, _, rfl, _⟩ := h; rfl) | (obtain ⟨_, _, _, rfl, _⟩ := h; rfl) | (obtain ⟨_, _, _, _, rfl, _⟩ := h; rfl) | (obtain ⟨_, _, _, _, _, rfl, _⟩ := h; rfl) | (obtain ⟨_, _, _, _, _, _, rfl, _⟩ := h; rfl) | (obtain ⟨_, _, _, _, _, _, _, rfl, _⟩ := h; rfl) | (obtain ⟨_, _, _, _, _, _, _, _, rfl, _⟩ := h; rfl) | (obtain ⟨_, _, _, _, _, _, _, _, _, rfl, _⟩ := h; rfl) | (obtain ⟨_, _, _, _, _, _, _, _, _, _, rfl, _⟩ := h; rfl) | (obtain ⟨_, _, _, _, _, _, _, _, _, _, _, rfl, _⟩ := h; rfl) | (obtain ⟨_, _, _, _, _, _, _, _, _, _, _, _, rfl, _⟩ := h; rfl) | (obtain ⟨_, _, _, _, _, _, _, _, _, _, _, _, _, rfl, _⟩ := h; rfl)) (fun cdv A outer s H vs Q E hr h => ?_)
  obtain ⟨T, cs, i, rfl, hl, hi, kq⟩ := h
  refine ⟨_, (pss_cons (ps_set (i := 3) sc__run_end.nd rfl (.inl rfl) (pv 1))
      (pss_cons (ps_while PassesOwn.never (PW.pt (pw_and (pt_cmpR op_lt (pv 3) (pe_callB call_len_str (by rfl) Z.len_ PyProof.Rows.Boot.«len» (pa_cons (pv 0) pa_nil)) (nomark _)) (pw_and1 (pt_cmpR op_in_sign (pe_ix (kIx (K := K)) (pv 0) (pv 3) (fun _ _ => rfl)) (pv 2) (by rfl))))) (pss_one (ps_aug (i := 3) sc__run_end.nd rfl (.inl rfl) pe_int ip_add)))
      (pss_one (ps_ret (pv 3))))), ?_⟩
  have hd : (T.drop i).length = T.length - i := List.length_drop
  have hrl := runN_le cs (T.drop i)
  refine ⟨_, rfl, fun m σ H' => ∃ j : Nat, σ = [some (.str (tx T)), some (.int i), some (.str (tx cs)), some (.int ((i + j : Nat) : Int))] ∧ j ≤ runN cs (T.drop i) ∧ H' = H ∧ m + (i + j) = T.length, ⟨T.length - i, 0, rfl, Nat.zero_le _, rfl, by omega⟩, ?_⟩
  rintro m σ H' ⟨j, rfl, hj, rfl, hm⟩
  refine ⟨_, rfl, _, rfl, _, rfl, by rw [tx_len, sizeLine_eq]; omega, _, _, rfl, rfl, _, rfl, iteD (fun c1 => ?_) fun c1 => ?_⟩
  · rw [tx_len] at c1
    have hij : i + j < T.length := by omega
    obtain ⟨ch, hg⟩ : ∃ ch, T[i + j]? = some ch := ⟨T[i + j], by simp [hij]⟩
    have hg2 : (T.drop i)[j]? = some ch := by rw [List.getElem?_drop]; exact hg
    refine ⟨_, rfl, _, rfl, ixs hg (by omega) ⟨_, rfl, _, _, rfl, rfl, _, rfl, iteD (fun c2 => ?_) fun c2 => ?_⟩⟩
    · have c2 : ch ∈ cs := by simpa using c2
      refine ⟨fun σ' H' => ∃ m', m' < m ∧ _, fun _ _ h => h, ?_⟩
      refine ⟨_, rfl, _, _, rfl, rfl, m - 1, by omega, j + 1, rfl, ?_, rfl, by omega⟩
      apply Classical.byContradiction
      intro h
      have e : j = runN cs (T.drop i) := by omega
      rw [e] at hg2
      exact runN_out hg2 c2
    · have c2 : ch ∉ cs := by simpa using c2
      have e : j = runN cs (T.drop i) := by
        apply Classical.byContradiction
        intro h
        exact c2 (runN_in (by omega) hg2)
      rw [← e] at kq
      exact ⟨_, rfl, kq⟩
  · rw [tx_len] at c1
    have e : j = runN cs (T.drop i) := by omega
    rw [← e] at kq
    exact iteF ⟨_, rfl, kq⟩
end
end K48

set_option maxHeartbeats 4000000
namespace K48
open PySem PySem.Spec PyProof.Rows L2 Hg
/-- a token's tuple -/
def sp_tk (f : List Nat → Option (Str × V × Nat)) : Sp := fun vs H Q _ => ∃ (T : List Nat) (i n : Nat) (k : Str) (v : V), vs = [.str (tx T), .int i] ∧ T.length ≤ 5000 ∧ i < T.length ∧ f (T.drop i) = some (k, v, n) ∧
  ∀ H' p, Ex H H' → H p = none → H' p = some (.tup [.str k, v, .int ((i + n : Nat) : Int)]) → Q (.ref p) H'
def sp__letters (_ : PySem.W.Frag) : Sp := sp_tk tokL
def sp__digits (_ : PySem.W.Frag) : Sp := sp_tk tokD
def sp__word (_ : PySem.W.Frag) : Sp := sp_tk fun r => if r[0]? = some 34 then tokW r else none
def sp__token (_ : PySem.W.Frag) : Sp := sp_tk tokR
theorem lt_one (a b : Nat) : decide ((tx [a]).cps.toList < (tx [b]).cps.toList) = decide (a < b) := by
  show decide (([a] : List Nat) < [b]) = _
  congr 1
  apply propext
  constructor
  · intro h
    cases h with
    | rel h => exact h
    | cons h => cases h
  · intro h
    exact List.Lex.rel h
section
variable {P : Program} {w : World} {K : PySem.W.Frag} {mg : Str → Option Value} {base : Heap}
theorem ok_is_word {f : Addr} {fd : FuncData} (F : DefK K mg "is_word" st_is_word ["thing"] f fd) (Z : Zs mg) (CG : CGs K mg)  :
    FnOk P w K mg base CX0 1 f fd ["thing"] (sp_is_word K) := by
  refine F.fn.ok sc_is_word (fun vs H Q E h => by first | (obtain ⟨_, rfl, _⟩ := h; rfl) | (obtain ⟨_, _, rfl, _⟩ := h; rfl) | (obtain ⟨_, _, _, rfl, _⟩ := h; rfl) | (obtain ⟨_, _, _, _, rfl, _⟩ := h; rfl) | (obtain ⟨_, _, _, _, _, rfl, _⟩ := h; rfl) | (obtain ⟨_, _, _, _, _, _, rfl, _⟩ := h; rfl) | (obtain ⟨_, _, _, _, _, _, _, rfl, _⟩ := h; rfl) | (obtain ⟨_, _, _, _, _, _, _, _, rfl, _⟩ := h; rfl) | (obtain ⟨_, _, _, _, _, _, _, _, _, rfl, _⟩ := h; rfl) | (obtain ⟨_, _, _, _, _, _, _, _, _, _, rfl, _⟩ := h; rfl) | (obtain ⟨_, _, _, _, _, _, _, _, _, _, _, rfl, _⟩ := h; rfl) | (obtain ⟨_, _, _, _, _, _, _, _, _, _, _, _, rfl, _⟩ := h; rfl) | (obtain ⟨_, _, _, _, _, _, _, _, _, _, _, _, _, rfl, _⟩ := h; rfl)) (fun cdv A outer s H vs Q E hr h => ?_)
  obtain ⟨w, rfl, hl, kq⟩ := h
  refine ⟨_, (pss_cons (ps_if (PW.pt (pw_or (pt_not (pt_val (pe_callB (kIsi (K := K)) (by rfl) Z.isinstance_ PyProof.Rows.Boot.«isinstance» (pa_cons (pv 0) (pa_cons (pe_bltn (v := .ty "str") (by rfl) Z.str_ PyProof.Rows.Boot.«str» rfl) pa_nil))))) (pw_or1 (pt_cmpR op_gt (pe_callB call_len_str (by rfl) Z.len_ PyProof.Rows.Boot.«len» (pa_cons (pv 0) pa_nil)) (pe_glob (v := c_LONGEST) rfl CG.LONGEST_ ⟨_, rfl⟩) (nomark _))))) (pss_one (ps_ret pe_bl)) pss_nil)
      (pss_one (ps_ret (pe_callB (kAll (K := K) rfl) (by rfl) Z.all_ PyProof.Rows.Boot.«all» (pa_cons (pe_lc (own := [("char", 1)]) rfl sc_is_word.nd (pi_str (pv 0)) (blkOk_by (N := ["thing", "char"]) (sc := defScope st_is_word) (by decide +kernel)) (fun _ _ _ _ _ => (pg_name (i := 1) sc_is_word.nd rfl (.inl rfl))) (fun _ _ _ _ _ => pts_nil) (fun _ _ _ _ _ => (pe_and (pe_chain op_le_str op_le_str pe_str (pv 1) pe_str) (pe_one (pe_cmpR (kNe (K := K) hr.units) (pv 1) pe_str (nomark _)))))) pa_nil))))), ?_⟩
  refine ⟨_, rfl, .str (tx w), .ty "str", .type "str", .type "str", _, rfl, .ty "str", (Kd.str (H := H) (tx w)).ty, kit_ty (by decide +kernel : kitB "str" "str" = some true), _, rfl, iteF ?_⟩
  refine ⟨_, rfl, _, rfl, by rw [tx_len, sizeLine_eq]; omega, _, _, rfl, rfl, _, rfl, iteD (fun c => ?_) fun c => ?_⟩
  · rw [tx_len] at c
    have q := kq H (Ex.refl H)
    rw [show isW w = false by unfold isW; rw [decide_eq_false (by omega)]; rfl] at q
    exact q
  rw [tx_len] at c
  refine ⟨_, rfl, tx w, rfl, fun D hD => ?_⟩
  refine lc_pure (walk_str (z := tx w)) hD (fun _ => true) (fun i => .bl (decide (32 ≤ w.getD i 0) && decide (w.getD i 0 ≤ 126) && !decide (w.getD i 0 = 34))) (by show w.toArray.size ≤ _; rw [List.size_toArray]; omega) (fun _ _ => trivial) (fun i x Hc Hy hi e y Qe Qn qe qn => ?_) (fun H1 ex hL => ?_)
  · obtain ⟨rfl, ch, hch, rfl⟩ := y
    have hg : w[i]? = some ch := by simpa using hch
    have eg : w.getD i 0 = ch := by rw [List.getD_eq_getElem?_getD, hg]; rfl
    rw [eg] at qe
    have qe := qe rfl Hy (Ex.refl _)
    refine ⟨rfl, _, rfl, tx [32], tx [ch], rfl, rfl, _, rfl, ?_⟩
    rw [lt_one]
    by_cases c1 : ch < 32
    · rw [decide_eq_true c1]
      refine iteF ⟨_, rfl, iteF ?_⟩
      rw [decide_eq_false (by omega)] at qe
      exact qe
    · rw [decide_eq_false c1]
      refine iteT ⟨tx [ch], tx [126], rfl, rfl, ?_⟩
      rw [lt_one]
      by_cases c2 : 126 < ch
      · rw [decide_eq_true c2]
        refine ⟨_, rfl, iteF ?_⟩
        rw [decide_eq_false (show ¬ ch ≤ 126 by omega), Bool.and_false] at qe
        exact qe
      · rw [decide_eq_false c2]
        refine ⟨_, rfl, iteT ⟨_, rfl, .inl ⟨rfl, ?_⟩⟩⟩
        rw [decide_eq_true (show 32 ≤ ch by omega), decide_eq_true (show ch ≤ 126 by omega), Bool.true_and, Bool.true_and] at qe
        have et : decide (V.str (tx [ch]) = V.str (tx [34])) = decide (ch = 34) := by rw [tx_eq]; simp
        show Qe (.bl (!decide (V.str (tx [ch]) = V.str (tx [34])))) Hy
        rw [et]
        exact qe
  · have hL : H1 D = some (.lst ((w.map fun c => decide (32 ≤ c) && decide (c ≤ 126) && !decide (c = 34)).map V.bl)) := by
      rw [hL, picked_all]
      show some (HO.lst ((List.range w.toArray.size).map _)) = _
      rw [List.size_toArray, map_range w (fun c => V.bl (decide (32 ≤ c) && decide (c ≤ 126) && !decide (c = 34))) _ (fun i x h => by rw [List.getD_eq_getElem?_getD, h]; rfl), List.map_map]
      rfl
    refine ⟨D, _, rfl, SqL.of hL, ?_⟩
    have q := kq H1 ex
    unfold isW at q
    rw [decide_eq_true (by omega), Bool.true_and] at q
    rw [List.all_map]
    exact q
end
end K48

set_option maxHeartbeats 4000000
namespace K48
open PySem PySem.Spec PyProof.Rows L2 Hg
section
variable {P : Program} {w : World} {K : PySem.W.Frag} {mg : Str → Option Value} {base : Heap}
theorem ok__letters {f : Addr} {fd : FuncData} (F : DefK K mg "_letters" st__letters ["text", "start"] f fd) (Z : Zs mg) (CG : CGs K mg) {f__run_end : Addr} {fd__run_end : FuncData} (D__run_end : DefK K mg "_run_end" st__run_end ["text", "start", "characters"] f__run_end fd__run_end) (G__run_end : FnOk P w K mg base CX0 1 f__run_end fd__run_end ["text", "start", "characters"] (sp__run_end K)) :
    FnOk P w K mg base CX0 2 f fd ["text", "start"] (sp__letters K) := by
  refine F.fn.ok sc__letters (fun vs H Q E h => by first | (obtain ⟨_, rfl, _⟩ := h; rfl) | (obtain ⟨_, _, rfl, _⟩ := h; rfl) | (obtain ⟨_, _, _, rfl, _⟩ := h; rfl) | (obtain ⟨_, _, _, _, rfl, _⟩ := h; rfl) | (obtain ⟨_, _, _, _, _, rfl, _⟩ := h; rfl) | (obtain ⟨_, _, _, _, _, _, rfl, _⟩ := h; rfl) | (obtain ⟨_, _, _, _, _, _, _, rfl, _⟩ := h; rfl) | (obtain ⟨_, _, _, _, _, _, _, _, rfl, _⟩ := h; rfl) | (obtain ⟨_, _, _, _, _, _, _, _, _, rfl, _⟩ := h; rfl) | (obtain ⟨_, _, _, _, _, _, _, _, _, _, rfl, _⟩ := h; rfl) | (obtain ⟨_, _, _, _, _, _, _, _, _, _, _, rfl, _⟩ := h; rfl) | (obtain ⟨_, _, _, _, _, _, _, _, _, _, _, _, rfl, _⟩ := h; rfl) | (obtain ⟨_, _, _, _, _, _, _, _, _, _, _, _, _, rfl, _⟩ := h; rfl)) (fun cdv A outer s H vs Q E hr h => ?_)
  obtain ⟨T, i, n, k, v, rfl, hl, hi, ht, kq⟩ := h
  refine ⟨_, (pss_cons (ps_set (i := 2) sc__letters.nd rfl (.inl rfl) (pe_call G__run_end (hr.mono (by decide)) rfl D__run_end.mg D__run_end.fn.kp D__run_end.bd .nil pass0 (pa_cons (pv 0) (pa_cons (pv 1) (pa_cons (pe_glob (v := c_NAME_CHARACTERS) rfl CG.NAME_CHARACTERS_ ⟨_, rfl⟩) pa_nil)))))
      (pss_cons (ps_set (i := 3) sc__letters.nd rfl (.inl rfl) (pe_slice kSlS (pv 0) (po_some (pv 1)) (po_some (pv 2))))
      (pss_cons (ps_if (pt_cmpR op_gt (pe_callB call_len_str (by rfl) Z.len_ PyProof.Rows.Boot.«len» (pa_cons (pv 3) pa_nil)) (pe_glob (v := c_LONGEST) rfl CG.LONGEST_ ⟨_, rfl⟩) (nomark _)) (pss_one ps_never) pss_nil)
      (pss_cons (ps_set (i := 4) sc__letters.nd rfl (.inl rfl) (pe_ifExp (pt_cmpR (kIn (K := K)) (pv 3) (pe_glob (v := .ref CG.RESERVED_a) rfl CG.RESERVED_ rfl) (by rfl)) pe_str pe_str))
      (pss_one (ps_ret (pe_tup (pa_cons (pv 4) (pa_cons (pv 3) (pa_cons (pv 2) pa_nil)))))))))), ?_⟩
  have hrl := runN_le NCH (T.drop i)
  rw [List.length_drop] at hrl
  unfold tokL at ht
  by_cases c : 12 < runN NCH (T.drop i)
  · rw [if_pos c] at ht
    cases ht
  rw [if_neg c] at ht
  cases ht
  have htk : ((T.drop i).take (i + runN NCH (T.drop i) - i)) = (T.drop i).take (runN NCH (T.drop i)) := by rw [Nat.add_sub_cancel_left]
  refine ⟨_, rfl, _, rfl, T, NCH, i, rfl, hl, by omega, ?_⟩
  refine ⟨_, rfl, _, rfl, _, rfl, _, rfl, _, rfl, sl_s (by omega) ?_⟩
  rw [htk]
  refine ⟨_, rfl, _, rfl, by rw [tx_len, sizeLine_eq, List.length_take]; omega, _, _, rfl, rfl, _, rfl, iteDF ?_ ?_⟩
  · rw [tx_len, List.length_take, List.length_drop]
    omega
  refine ⟨_, rfl, ?_⟩
  dsimp only [tC]
  refine in_l (ls := RES) (.inr (CG.RESERVED_q _)) ⟨_, rfl, iteD (fun r => ?_) fun r => ?_⟩
  · rw [if_pos r] at kq
    exact ⟨_, rfl, _, rfl, _, rfl, by show 3 ≤ sizeLine; decide, fun p hp => kq _ p (Ex.new hp) hp upd_same⟩
  · rw [if_neg r] at kq
    exact ⟨_, rfl, _, rfl, _, rfl, by show 3 ≤ sizeLine; decide, fun p hp => kq _ p (Ex.new hp) hp upd_same⟩
theorem ok__digits {f : Addr} {fd : FuncData} (F : DefK K mg "_digits" st__digits ["text", "start"] f fd) (Z : Zs mg) (CG : CGs K mg) {f__run_end : Addr} {fd__run_end : FuncData} (D__run_end : DefK K mg "_run_end" st__run_end ["text", "start", "characters"] f__run_end fd__run_end) (G__run_end : FnOk P w K mg base CX0 1 f__run_end fd__run_end ["text", "start", "characters"] (sp__run_end K)) :
    FnOk P w K mg base CX0 2 f fd ["text", "start"] (sp__digits K) := by
  refine F.fn.ok sc__digits (fun vs H Q E h => by first | (obtain ⟨_, rfl, _⟩ := h; rfl) | (obtain ⟨_, _, rfl, _⟩ := h; rfl) | (obtain ⟨_, _, _, rfl, _⟩ := h; rfl) | (obtain ⟨_, _, _, _, rfl, _⟩ := h; rfl) | (obtain ⟨_, _, _, _, _, rfl, _⟩ := h; rfl) | (obtain ⟨_, _, _, _, _, _, rfl, _⟩ := h; rfl) | (obtain ⟨_, _, _, _, _, _, _, rfl, _⟩ := h; rfl) | (obtain ⟨_, _, _, _, _, _, _, _, rfl, _⟩ := h; rfl) | (obtain ⟨_, _, _, _, _, _, _, _, _, rfl, _⟩ := h; rfl) | (obtain ⟨_, _, _, _, _, _, _, _, _, _, rfl, _⟩ := h; rfl) | (obtain ⟨_, _, _, _, _, _, _, _, _, _, _, rfl, _⟩ := h; rfl) | (obtain ⟨_, _, _, _, _, _, _, _, _, _, _, _, rfl, _⟩ := h; rfl) | (obtain ⟨_, _, _, _, _, _, _, _, _, _, _, _, _, rfl, _⟩ := h; rfl)) (fun cdv A outer s H vs Q E hr h => ?_)
  obtain ⟨T, i, n, k, v, rfl, hl, hi, ht, kq⟩ := h
  refine ⟨_, (pss_cons (ps_set (i := 2) sc__digits.nd rfl (.inl rfl) (pe_call G__run_end (hr.mono (by decide)) rfl D__run_end.mg D__run_end.fn.kp D__run_end.bd .nil pass0 (pa_cons (pv 0) (pa_cons (pv 1) (pa_cons (pe_glob (v := c_DIGITS) rfl CG.DIGITS_ ⟨_, rfl⟩) pa_nil)))))
      (pss_cons (ps_set (i := 3) sc__digits.nd rfl (.inl rfl) (pe_op op_sub (pv 2) (pv 1)))
      (pss_cons (ps_if (PW.pt (pw_or (pt_cmpR op_gt (pv 3) (pe_glob (v := c_MOST_DIGITS) rfl CG.MOST_DIGITS_ ⟨_, rfl⟩) (nomark _)) (pw_or1 (PW.pt (pw_and (pt_cmpR op_gt (pv 3) pe_int (nomark _)) (pw_and1 (pt_cmpR (kEq (K := K) hr.units) (pe_ix (kIx (K := K)) (pv 0) (pv 1) (fun _ _ => rfl)) pe_str (nomark _)))))))) (pss_one ps_never) pss_nil)
      (pss_one (ps_ret (pe_tup (pa_cons pe_str (pa_cons (pe_callTy call_int_str (by rfl) Z.int_ PyProof.Rows.Boot.«int» (pa_cons (pe_slice kSlS (pv 0) (po_some (pv 1)) (po_some (pv 2))) pa_nil)) (pa_cons (pv 2) pa_nil))))))))), ?_⟩
  have hrl := runN_le DIG (T.drop i)
  rw [List.length_drop] at hrl
  unfold tokD at ht
  by_cases c : 6 < runN DIG (T.drop i) ∨ (1 < runN DIG (T.drop i) ∧ (T.drop i)[0]? = some 48)
  · rw [if_pos c] at ht
    cases ht
  rw [if_neg c] at ht
  obtain ⟨vv, hvv, hv2⟩ := Option.map_eq_some_iff.mp ht
  cases hv2
  have htk : ((T.drop i).take (i + runN DIG (T.drop i) - i)) = (T.drop i).take (runN DIG (T.drop i)) := by rw [Nat.add_sub_cancel_left]
  have hcount : ((i + runN DIG (T.drop i) : Nat) : Int) - (i : Int) = (runN DIG (T.drop i) : Nat) := by omega
  refine ⟨_, rfl, _, rfl, T, DIG, i, rfl, hl, by omega, ?_⟩
  refine ⟨_, rfl, _, rfl, _, _, rfl, rfl, ?_⟩
  unfold gName
  dsimp only
  rw [hcount]
  refine cut (fun σ' H' => σ' = [some (.str (tx T)), some (.int i), some (.int ((i + runN DIG (T.drop i) : Nat) : Int)), some (.int (runN DIG (T.drop i) : Nat))] ∧ H' = H) ?_ ?_
  · rintro σ' H' ⟨rfl, rfl⟩
    refine ⟨_, rfl, _, rfl, _, rfl, _, rfl, _, rfl, sl_s (by omega) ?_⟩
    rw [htk]
    refine ⟨_, _, rfl, hvv, by rw [tx_len, List.length_take]; omega, _, rfl, by show 3 ≤ sizeLine; decide, fun p hp => kq _ p (Ex.new hp) hp upd_same⟩
  intro N hN
  have go := hN _ _ ⟨rfl, rfl⟩
  refine ⟨_, rfl, _, _, rfl, rfl, _, rfl, iteDF (by omega) ?_⟩
  refine ⟨_, rfl, _, _, rfl, rfl, _, rfl, iteD (fun c1 => ?_) fun c1 => iteF go⟩
  have hlt : runN DIG (T.drop i) ≠ 0 := by omega
  obtain ⟨ch, hch⟩ : ∃ ch, T[i]? = some ch := ⟨T[i], by simp [hi]⟩
  refine ⟨_, rfl, _, rfl, ixs hch (by omega) (.inl ⟨rfl, _, rfl, ?_⟩)⟩
  have hne : ch ≠ 48 := by
    intro e
    refine c (.inr ⟨by omega, ?_⟩)
    rw [List.getElem?_drop, Nat.add_zero, hch, e]
  have et : decide (V.str (tx [ch]) = V.str (tx [48])) = decide (ch = 48) := by rw [tx_eq]; simp
  show if decide (V.str (tx [ch]) = V.str (tx [48])) = true then _ else _
  rw [et]
  exact iteDF hne go
end
end K48

set_option maxHeartbeats 4000000
namespace K48
open PySem PySem.Spec PyProof.Rows L2 Hg
theorem takeWhile_split {p : Nat → Bool} : ∀ r : List Nat, (r.takeWhile p).length < r.length → ∃ c t, r = r.takeWhile p ++ c :: t ∧ p c = false
  | [], h => by simp at h
  | x :: r, h => by
    rw [List.takeWhile_cons] at h ⊢
    by_cases hx : p x = true
    · rw [if_pos hx] at h ⊢
      obtain ⟨c, t, e, hc⟩ := takeWhile_split r (by simpa using h)
      exact ⟨c, t, by rw [List.cons_append, ← e], hc⟩
    · rw [if_neg hx]
      exact ⟨x, r, rfl, by simpa using hx⟩
theorem takeWhile_all {p : Nat → Bool} : ∀ {r : List Nat} {c : Nat}, c ∈ r.takeWhile p → p c = true
  | [], c, h => by simp at h
  | x :: r, c, h => by
    rw [List.takeWhile_cons] at h
    split at h
    · rename_i hx
      rcases List.mem_cons.mp h with e | e
      · subst e; exact hx
      · exact takeWhile_all e
    · simp at h
section
variable {P : Program} {w : World} {K : PySem.W.Frag} {mg : Str → Option Value} {base : Heap}
theorem ok__word {f : Addr} {fd : FuncData} (F : DefK K mg "_word" st__word ["text", "start"] f fd) (Z : Zs mg) (CG : CGs K mg) {f_is_word : Addr} {fd_is_word : FuncData} (D_is_word : DefK K mg "is_word" st_is_word ["thing"] f_is_word fd_is_word) (G_is_word : FnOk P w K mg base CX0 1 f_is_word fd_is_word ["thing"] (sp_is_word K)) :
    FnOk P w K mg base CX0 2 f fd ["text", "start"] (sp__word K) := by
  refine F.fn.ok sc__word (fun vs H Q E h => by first | (obtain ⟨_, rfl, _⟩ := h; rfl) | (obtain ⟨_, _, rfl, _⟩ := h; rfl) | (obtain ⟨_, _, _, rfl, _⟩ := h; rfl) | (obtain ⟨_, _, _, _, rfl, _⟩ := h; rfl) | (obtain ⟨_, _, _, _, _, rfl, _⟩ := h; rfl) | (obtain ⟨_, _, _, _, _, _, rfl, _⟩ := h; rfl) | (obtain ⟨_, _, _, _, _, _, _, rfl, _⟩ := h; rfl) | (obtain ⟨_, _, _, _, _, _, _, _, rfl, _⟩ := h; rfl) | (obtain ⟨_, _, _, _, _, _, _, _, _, rfl, _⟩ := h; rfl) | (obtain ⟨_, _, _, _, _, _, _, _, _, _, rfl, _⟩ := h; rfl) | (obtain ⟨_, _, _, _, _, _, _, _, _, _, _, rfl, _⟩ := h; rfl) | (obtain ⟨_, _, _, _, _, _, _, _, _, _, _, _, rfl, _⟩ := h; rfl) | (obtain ⟨_, _, _, _, _, _, _, _, _, _, _, _, _, rfl, _⟩ := h; rfl)) (fun cdv A outer s H vs Q E hr h => ?_)
  obtain ⟨T, i, n, k, v, rfl, hl, hi, ht, kq⟩ := h
  refine ⟨_, (pss_cons (ps_set (i := 2) sc__word.nd rfl (.inl rfl) (pe_bm PySem.F.plainAttrs_str PySem.F.slot_str_find PySem.F.type_str_find mt_find3 (pv 0) (pa_cons pe_str (pa_cons (pe_op (kAdd (K := K)) (pv 1) pe_int) pa_nil))))
      (pss_cons (ps_if (PW.pt (pw_or (pt_cmpR op_lt (pv 2) pe_int (nomark _)) (pw_or1 (pt_not (pt_val (pe_call G_is_word (hr.mono (by decide)) rfl D_is_word.mg D_is_word.fn.kp D_is_word.bd .nil pass0 (pa_cons (pe_slice kSlS (pv 0) (po_some (pe_op (kAdd (K := K)) (pv 1) pe_int)) (po_some (pv 2))) pa_nil))))))) (pss_one ps_never) pss_nil)
      (pss_one (ps_ret (pe_tup (pa_cons pe_str (pa_cons (pe_slice kSlS (pv 0) (po_some (pe_op (kAdd (K := K)) (pv 1) pe_int)) (po_some (pv 2))) (pa_cons (pe_op (kAdd (K := K)) (pv 2) pe_int) pa_nil)))))))), ?_⟩
  have ht : (if (T.drop i)[0]? = some 34 then tokW (T.drop i) else none) = some (k, v, n) := ht
  by_cases c0 : (T.drop i)[0]? = some 34
  · rw [if_pos c0] at ht
    unfold tokW at ht
    dsimp only at ht
    rw [List.drop_drop] at ht
    generalize hw : ((T.drop (i + 1)).takeWhile fun c => !decide (c = 34)) = w at ht
    by_cases c1 : w.length + 1 < (T.drop i).length ∧ isW w = true
    · rw [if_pos c1] at ht
      cases ht
      obtain ⟨c1, c2⟩ := c1
      rw [List.length_drop] at c1
      have hlt : ((T.drop (i + 1)).takeWhile fun c => !decide (c = 34)).length < (T.drop (i + 1)).length := by
        rw [hw, List.length_drop]; omega
      obtain ⟨ch, t, es, hch⟩ := takeWhile_split _ hlt
      rw [hw] at es
      have ech : ch = 34 := by simpa using hch
      subst ech
      have nin : 34 ∉ w := by
        intro h
        rw [← hw] at h
        have := takeWhile_all h
        simp at this
      have hf := find_tx (i := i + 1) (by omega) es nin
      have hsl : ((T.drop (i + 1)).take (i + 1 + w.length - (i + 1))) = w := by
        rw [Nat.add_sub_cancel_left, es, List.take_left]
      have wl12 : w.length ≤ 12 := by
        unfold isW at c2
        simp only [Bool.and_eq_true, decide_eq_true_eq] at c2
        exact c2.1
      refine ⟨_, rfl, rfl, _, rfl, .inl ⟨_, _, rfl, rfl, tx T, tx [34], ((i + 1 : Nat) : Int), rfl, rfl, ?_⟩⟩
      rw [hf]
      refine ⟨_, rfl, _, _, rfl, rfl, _, rfl, iteDF (by omega) ?_⟩
      refine ⟨_, rfl, _, rfl, .inl ⟨_, _, rfl, rfl, _, rfl, _, rfl, _, rfl, sl_s (a := i + 1) (b := i + 1 + w.length) (by omega) ?_⟩⟩
      rw [hsl]
      refine ⟨w, rfl, by omega, fun H' e => ?_⟩
      rw [c2]
      refine ⟨_, rfl, iteF ?_⟩
      refine ⟨_, rfl, _, rfl, .inl ⟨_, _, rfl, rfl, _, rfl, _, rfl, _, rfl, sl_s (a := i + 1) (b := i + 1 + w.length) (by omega) ?_⟩⟩
      rw [hsl]
      refine ⟨_, rfl, .inl ⟨_, _, rfl, rfl, by show 3 ≤ sizeLine; decide, fun p hp => kq _ p (e.trans (Ex.new hp)) (e.free hp) ?_⟩⟩
      rw [upd_same]
      congr 4
      have ee : (((i + 1 + w.length : Nat) : Int) + 1) = ((i + (w.length + 2) : Nat) : Int) := by omega
      show [V.int (((i + 1 + w.length : Nat) : Int) + 1)] = _
      rw [ee]
    · rw [if_neg c1] at ht
      cases ht
  · rw [if_neg c0] at ht
    cases ht
theorem ok__token {f : Addr} {fd : FuncData} (F : DefK K mg "_token" st__token ["text", "start"] f fd) (Z : Zs mg) (CG : CGs K mg) {f__letters : Addr} {fd__letters : FuncData} (D__letters : DefK K mg "_letters" st__letters ["text", "start"] f__letters fd__letters) (G__letters : FnOk P w K mg base CX0 2 f__letters fd__letters ["text", "start"] (sp__letters K)) {f__digits : Addr} {fd__digits : FuncData} (D__digits : DefK K mg "_digits" st__digits ["text", "start"] f__digits fd__digits) (G__digits : FnOk P w K mg base CX0 2 f__digits fd__digits ["text", "start"] (sp__digits K)) {f__word : Addr} {fd__word : FuncData} (D__word : DefK K mg "_word" st__word ["text", "start"] f__word fd__word) (G__word : FnOk P w K mg base CX0 2 f__word fd__word ["text", "start"] (sp__word K)) :
    FnOk P w K mg base CX0 3 f fd ["text", "start"] (sp__token K) := by
  refine F.fn.ok sc__token (fun vs H Q E h => by first | (obtain ⟨_, rfl, _⟩ := h; rfl) | (obtain ⟨_, _, rfl, _⟩ := h; rfl) | (obtain ⟨_, _, _, rfl, _⟩ := h; rfl) | (obtain ⟨_, _, _, _, rfl, _⟩ := h; rfl) | (obtain ⟨_, _, _, _, _, rfl, _⟩ := h; rfl) | (obtain ⟨_, _, _, _, _, _, rfl, _⟩ := h; rfl) | (obtain ⟨_, _, _, _, _, _, _, rfl, _⟩ := h; rfl) | (obtain ⟨_, _, _, _, _, _, _, _, rfl, _⟩ := h; rfl) | (obtain ⟨_, _, _, _, _, _, _, _, _, rfl, _⟩ := h; rfl) | (obtain ⟨_, _, _, _, _, _, _, _, _, _, rfl, _⟩ := h; rfl) | (obtain ⟨_, _, _, _, _, _, _, _, _, _, _, rfl, _⟩ := h; rfl) | (obtain ⟨_, _, _, _, _, _, _, _, _, _, _, _, rfl, _⟩ := h; rfl) | (obtain ⟨_, _, _, _, _, _, _, _, _, _, _, _, _, rfl, _⟩ := h; rfl)) (fun cdv A outer s H vs Q E hr h => ?_)
  obtain ⟨T, i, n, k, v, rfl, hl, hi, ht, kq⟩ := h
  refine ⟨_, (pss_cons (ps_set (i := 2) sc__token.nd rfl (.inl rfl) (pe_ix (kIx (K := K)) (pv 0) (pv 1) (fun _ _ => rfl)))
      (pss_cons (ps_if (pt_cmpR op_in_sign (pv 2) (pe_glob (v := c_LETTERS) rfl CG.LETTERS_ ⟨_, rfl⟩) (by rfl)) (pss_one (ps_ret (pe_call G__letters (hr.mono (by decide)) rfl D__letters.mg D__letters.fn.kp D__letters.bd .nil pass0 (pa_cons (pv 0) (pa_cons (pv 1) pa_nil))))) pss_nil)
      (pss_cons (ps_if (pt_cmpR op_in_sign (pv 2) (pe_glob (v := c_DIGITS) rfl CG.DIGITS_ ⟨_, rfl⟩) (by rfl)) (pss_one (ps_ret (pe_call G__digits (hr.mono (by decide)) rfl D__digits.mg D__digits.fn.kp D__digits.bd .nil pass0 (pa_cons (pv 0) (pa_cons (pv 1) pa_nil))))) pss_nil)
      (pss_cons (ps_if (pt_cmpR (kEq (K := K) hr.units) (pv 2) pe_str (nomark _)) (pss_one (ps_ret (pe_call G__word (hr.mono (by decide)) rfl D__word.mg D__word.fn.kp D__word.bd .nil pass0 (pa_cons (pv 0) (pa_cons (pv 1) pa_nil))))) pss_nil)
      (pss_cons (ps_if (pt_cmpR (kIn (K := K)) (pe_slice kSlS (pv 0) (po_some (pv 1)) (po_some (pe_op (kAdd (K := K)) (pv 1) pe_int))) (pe_glob (v := .ref CG.LONG_SYMBOLS_a) rfl CG.LONG_SYMBOLS_ rfl) (by rfl)) (pss_one (ps_ret (pe_tup (pa_cons pe_str (pa_cons (pe_slice kSlS (pv 0) (po_some (pv 1)) (po_some (pe_op (kAdd (K := K)) (pv 1) pe_int))) (pa_cons (pe_op (kAdd (K := K)) (pv 1) pe_int) pa_nil)))))) pss_nil)
      (pss_cons (ps_if (pt_cmpR op_in_sign (pv 2) (pe_glob (v := c_SHORT_SYMBOLS) rfl CG.SHORT_SYMBOLS_ ⟨_, rfl⟩) (by rfl)) (pss_one (ps_ret (pe_tup (pa_cons pe_str (pa_cons (pv 2) (pa_cons (pe_op (kAdd (K := K)) (pv 1) pe_int) pa_nil)))))) pss_nil)
      (pss_one ps_never))))))), ?_⟩
  obtain ⟨ch, hch⟩ : ∃ ch, T[i]? = some ch := ⟨T[i], by simp [hi]⟩
  have hdrop : T.drop i = ch :: T.drop (i + 1) := by
    rw [List.drop_eq_getElem_cons hi]
    rw [List.getElem?_eq_getElem hi] at hch
    rw [Option.some.inj hch]
  refine ⟨_, rfl, _, rfl, ixs hch (by omega) ?_⟩
  have ht' := ht
  rw [hdrop] at ht'
  unfold tokR at ht'
  dsimp only at ht'
  rw [← hdrop] at ht'
  refine ⟨_, rfl, ch, _, rfl, rfl, _, rfl, iteD (fun c1 => ?_) fun c1 => ?_⟩
  · have c1 : ch ∈ LET := by simpa using c1
    rw [if_pos c1] at ht'
    exact ⟨_, rfl, _, rfl, T, i, n, k, v, rfl, hl, hi, ht', kq⟩
  have c1 : ch ∉ LET := by simpa using c1
  rw [if_neg c1] at ht'
  refine ⟨_, rfl, ch, _, rfl, rfl, _, rfl, iteD (fun c2 => ?_) fun c2 => ?_⟩
  · have c2 : ch ∈ DIG := by simpa using c2
    rw [if_pos c2] at ht'
    exact ⟨_, rfl, _, rfl, T, i, n, k, v, rfl, hl, hi, ht', kq⟩
  have c2 : ch ∉ DIG := by simpa using c2
  rw [if_neg c2] at ht'
  refine ⟨_, rfl, .inl ⟨rfl, _, rfl, ?_⟩⟩
  have et : decide (V.str (tx [ch]) = V.str (tx [34])) = decide (ch = 34) := by rw [tx_eq]; simp
  show if decide (V.str (tx [ch]) = V.str (tx [34])) = true then _ else _
  rw [et]
  refine iteD (fun c3 => ?_) fun c3 => ?_
  · rw [if_pos c3] at ht'
    refine ⟨_, rfl, _, rfl, T, i, n, k, v, rfl, hl, hi, ?_, kq⟩
    show (if (T.drop i)[0]? = some 34 then tokW (T.drop i) else none) = some (k, v, n)
    rw [if_pos (by rw [hdrop, c3]; rfl)]
    exact ht'
  rw [if_neg c3] at ht'
  refine ⟨_, rfl, _, rfl, _, rfl, _, rfl, .inl ⟨_, _, rfl, rfl, _, rfl, sl_s (a := i) (b := i + 2) (by omega) ?_⟩⟩
  dsimp only [tC]
  rw [Nat.add_sub_cancel_left]
  refine in_l (ls := LSY) (.inr (CG.LONG_SYMBOLS_q _)) ⟨_, rfl, iteD (fun c4 => ?_) fun c4 => ?_⟩
  · rw [if_pos c4] at ht'
    cases ht'
    refine ⟨_, rfl, _, rfl, _, rfl, _, rfl, .inl ⟨_, _, rfl, rfl, _, rfl, sl_s (a := i) (b := i + 2) (by omega) ?_⟩⟩
    rw [Nat.add_sub_cancel_left]
    exact ⟨_, rfl, .inl ⟨_, _, rfl, rfl, by show 3 ≤ sizeLine; decide, fun p hp => kq _ p (Ex.new hp) hp upd_same⟩⟩
  rw [if_neg c4] at ht'
  refine ⟨_, rfl, ch, _, rfl, rfl, _, rfl, iteD (fun c5 => ?_) fun c5 => ?_⟩
  · have c5 : ch ∈ SSY := by simpa using c5
    rw [if_pos c5] at ht'
    cases ht'
    exact ⟨_, rfl, _, rfl, .inl ⟨_, _, rfl, rfl, by show 3 ≤ sizeLine; decide, fun p hp => kq _ p (Ex.new hp) hp upd_same⟩⟩
  · have c5 : ch ∉ SSY := by simpa using c5
    rw [if_neg c5] at ht'
    cases ht'
end
end K48

set_option maxHeartbeats 4000000
namespace K48
open PySem PySem.Spec PyProof.Rows L2 Hg
/-! ### a text and its tokens -/
abbrev Tk := Str × V × Nat
inductive Lexes : Nat → List Nat → List Tk → Prop
  | nil (i : Nat) : Lexes i [] []
  | sp {i : Nat} {r : List Nat} {ts : List Tk} : Lexes (i + 1) r ts → Lexes i (32 :: r) ts
  | tok {i c n : Nat} {r : List Nat} {k : Str} {v : V} {ts : List Tk} : c ≠ 32 → tokR (c :: r) = some (k, v, n) → 0 < n → Lexes (i + n) ((c :: r).drop n) ts → Lexes i (c :: r) ((k, v, i) :: ts)
def vD : V → PyData
  | .int i => .int i
  | .str x => .str x
  | _ => .none
def flatT (v : V) : Prop := (∃ x, v = .str x) ∨ ∃ i, v = .int i
theorem tokR_flat {r : List Nat} {k : Str} {v : V} {n : Nat} (h : tokR r = some (k, v, n)) : flatT v := by
  cases r with
  | nil => cases h
  | cons c cs =>
    unfold tokR at h
    dsimp only at h
    by_cases c1 : c ∈ LET
    · rw [if_pos c1] at h
      unfold tokL at h
      split at h
      · cases h
      · cases h; exact .inl ⟨_, rfl⟩
    rw [if_neg c1] at h
    by_cases c2 : c ∈ DIG
    · rw [if_pos c2] at h
      unfold tokD at h
      split at h
      · cases h
      · obtain ⟨x, _, e⟩ := Option.map_eq_some_iff.mp h
        cases e
        exact .inr ⟨_, rfl⟩
    rw [if_neg c2] at h
    by_cases c3 : c = 34
    · rw [if_pos c3] at h
      unfold tokW at h
      dsimp only at h
      split at h
      · cases h; exact .inl ⟨_, rfl⟩
      · cases h
    rw [if_neg c3] at h
    split at h
    · cases h; exact .inl ⟨_, rfl⟩
    · split at h
      · cases h; exact .inl ⟨_, rfl⟩
      · cases h
def TkIn (H : Hp) (x : V) (t : Tk) : Prop := flatT t.2.1 ∧ ∃ p, x = .ref p ∧ H p = some (.tup [.str t.1, t.2.1, .int (t.2.2 : Nat)])
inductive TksIn (H : Hp) : List V → List Tk → Prop
  | nil : TksIn H [] []
  | cons {x : V} {t : Tk} {xs : List V} {ts : List Tk} : TkIn H x t → TksIn H xs ts → TksIn H (x :: xs) (t :: ts)
theorem TksIn.mono {H H' : Hp} (k : ∀ a xs, H a = some (.tup xs) → H' a = some (.tup xs)) : ∀ {xs : List V} {ts : List Tk}, TksIn H xs ts → TksIn H' xs ts
  | _, _, .nil => .nil
  | _, _, .cons ⟨f, p, e, h⟩ t => .cons ⟨f, p, e, k _ _ h⟩ (t.mono k)
theorem TksIn.snoc {H : Hp} {x : V} {t : Tk} (h : TkIn H x t) : ∀ {xs : List V} {ts : List Tk}, TksIn H xs ts → TksIn H (xs ++ [x]) (ts ++ [t])
  | _, _, .nil => .cons h .nil
  | _, _, .cons a b => .cons a (b.snoc h)
def tkD (t : Tk) : PyData := .tuple [.str t.1, vD t.2.1, .int (t.2.2 : Nat)]
theorem TksIn.dp {K : PySem.W.Frag} {H : Hp} : ∀ {xs : List V} {ts : List Tk}, TksIn H xs ts → DpAll K H xs (ts.map tkD)
  | _, _, .nil => .nil
  | _, _, .cons ⟨f, p, e, h⟩ t => by
    subst e
    refine .cons (.tup (SqT.of h) (.cons (.str _) (.cons ?_ (.cons (.int _) .nil)))) t.dp
    rcases f with ⟨x, e⟩ | ⟨i, e⟩ <;> rw [e]
    · exact .str x
    · exact .int i
def sp_tokens (_ : PySem.W.Frag) : Sp := fun vs H Q _ => ∃ (T : List Nat) (ts : List Tk), vs = [.str (tx T)] ∧ T.length ≤ 5000 ∧ Lexes 0 T ts ∧
  ∀ (H' : Hp) (L : Addr) (xs : List V), Ex H H' → H L = none → H' L = some (.lst xs) → xs.length ≤ 5000 → TksIn H' xs ts → Q (.ref L) H'
section
variable {P : Program} {w : World} {K : PySem.W.Frag} {mg : Str → Option Value} {base : Heap}
theorem ok_tokens {f : Addr} {fd : FuncData} (F : DefK K mg "tokens" st_tokens ["text"] f fd) (Z : Zs mg) (CG : CGs K mg) {f__token : Addr} {fd__token : FuncData} (D__token : DefK K mg "_token" st__token ["text", "start"] f__token fd__token) (G__token : FnOk P w K mg base CX0 3 f__token fd__token ["text", "start"] (sp__token K)) :
    FnOk P w K mg base CX0 4 f fd ["text"] (sp_tokens K) := by
  refine F.fn.ok sc_tokens (fun vs H Q E h => by first | (obtain ⟨_, rfl, _⟩ := h; rfl) | (obtain ⟨_, _, rfl, _⟩ := h; rfl) | (obtain ⟨_, _, _, rfl, _⟩ := h; rfl) | (obtain ⟨_, _, _, _, rfl, _⟩ := h; rfl) | (obtain ⟨_, _, _, _, _, rfl, _⟩ := h; rfl) | (obtain ⟨_, _, _, _, _, _, rfl, _⟩ := h; rfl) | (obtain ⟨_, _, _, _, _, _, _, rfl, _⟩ := h; rfl) | (obtain ⟨_, _, _, _, _, _, _, _, rfl, _⟩ := h; rfl) | (obtain ⟨_, _, _, _, _, _, _, _, _, rfl, _⟩ := h; rfl) | (obtain ⟨_, _, _, _, _, _, _, _, _, _, rfl, _⟩ := h; rfl) | (obtain ⟨_, _, _, _, _, _, _, _, _, _, _, rfl, _⟩ := h; rfl) | (obtain ⟨_, _, _, _, _, _, _, _, _, _, _, _, rfl, _⟩ := h; rfl) | (obtain ⟨_, _, _, _, _, _, _, _, _, _, _, _, _, rfl, _⟩ := h; rfl)) (fun cdv A outer s H vs Q E hr h => ?_)
  obtain ⟨T, ts, rfl, hl, hL, kq⟩ := h
  refine ⟨_, (pss_cons (ps_set (i := 1) sc_tokens.nd rfl (.inl rfl) (pe_lst pa_nil))
      (pss_cons (ps_set (i := 2) sc_tokens.nd rfl (.inl rfl) pe_int)
      (pss_cons (ps_while PassesOwn.never (pt_cmpR op_lt (pv 2) (pe_callB call_len_str (by rfl) Z.len_ PyProof.Rows.Boot.«len» (pa_cons (pv 0) pa_nil)) (nomark _)) (pss_one (ps_if (pt_cmpR (kEq (K := K) hr.units) (pe_ix (kIx (K := K)) (pv 0) (pv 2) (fun _ _ => rfl)) pe_str (nomark _)) (pss_one (ps_aug (i := 2) sc_tokens.nd rfl (.inl rfl) pe_int ip_add)) (pss_cons (ps_asg (pe_call G__token (hr.mono (by decide)) rfl D__token.mg D__token.fn.kp D__token.bd .nil pass0 (pa_cons (pv 0) (pa_cons (pv 2) pa_nil))) (kPgT (K := K) (n := 3) rfl (pgs_cons (pg_name (i := 3) sc_tokens.nd rfl (.inl rfl)) (pgs_cons (pg_name (i := 4) sc_tokens.nd rfl (.inl rfl)) (pgs_cons (pg_name (i := 5) sc_tokens.nd rfl (.inl rfl)) pgs_nil)))))
      (pss_cons (ps_expr (pe_bm PySem.F.plainAttrs_list PySem.F.slot_list_append PySem.F.type_list_append mt_append (pv 1) (pa_cons (pe_tup (pa_cons (pv 3) (pa_cons (pv 4) (pa_cons (pv 2) pa_nil)))) pa_nil)))
      (pss_one (ps_set (i := 2) sc_tokens.nd rfl (.inl rfl) (pv 5))))))))
      (pss_one (ps_ret (pv 1)))))), ?_⟩
  refine ⟨Nat.zero_le _, fun L hn => ⟨fun m σ H' => ∃ (pos : Nat) (ds rest : List Tk) (xs : List V) (v3 v4 v5 : Option V), σ = [some (.str (tx T)), some (.ref L), some (.int (pos : Int)), v3, v4, v5] ∧ Ex H H' ∧ H' L = some (.lst xs) ∧ TksIn H' xs ds ∧ Lexes pos (T.drop pos) rest ∧ ds ++ rest = ts ∧ (xs.length ≤ pos ∧ xs.length ≤ T.length) ∧ m = T.length - pos,
    ⟨_, 0, [], ts, [], _, _, _, rfl, Ex.new hn, upd_same, .nil, hL, rfl, ⟨Nat.le_refl _, Nat.zero_le _⟩, rfl⟩, ?_⟩⟩
  rintro m σ H' ⟨pos, ds, rest, xs, v3, v4, v5, rfl, ex, hLl, htk, hlx, hdr, hxl, rfl⟩
  refine ⟨_, rfl, _, rfl, _, rfl, by rw [tx_len, sizeLine_eq]; omega, _, _, rfl, rfl, _, rfl, iteD (fun c => ?_) fun c => ?_⟩
  · rw [tx_len] at c
    have hpos : pos < T.length := by omega
    refine ⟨fun σ' H' => ∃ m', m' < T.length - pos ∧ _, fun _ _ h => h, ?_⟩
    obtain ⟨ch, hch⟩ : ∃ ch, T[pos]? = some ch := ⟨T[pos], by simp [hpos]⟩
    have hdrop : T.drop pos = ch :: T.drop (pos + 1) := by
      rw [List.drop_eq_getElem_cons hpos]
      rw [List.getElem?_eq_getElem hpos] at hch
      rw [Option.some.inj hch]
    rw [hdrop] at hlx
    refine ⟨_, rfl, _, rfl, ixs hch (by omega) (.inl ⟨rfl, _, rfl, ?_⟩)⟩
    have et : decide (V.str (tx [ch]) = V.str (tx [32])) = decide (ch = 32) := by rw [tx_eq]; simp
    show if decide (V.str (tx [ch]) = V.str (tx [32])) = true then _ else _
    rw [et]
    refine iteD (fun c2 => ?_) fun c2 => ?_
    · cases hlx with
      | sp h =>
        exact ⟨_, rfl, _, _, rfl, rfl, T.length - (pos + 1), by omega, pos + 1, ds, rest, xs, _, _, _, rfl, ex, hLl, htk, h, hdr, by omega, rfl⟩
      | tok h1 => exact absurd c2 h1
    · cases hlx with
      | sp h => exact absurd rfl c2
      | tok h1 h2 h3 h4 =>
        rename_i n k v ts'
        refine ⟨_, rfl, _, rfl, T, pos, n, k, v, rfl, hl, hpos, by rw [hdrop]; exact h2, fun H1 p e1 hn1 hp => ?_⟩
        have hL1 := e1 _ _ hLl
        refine ⟨p, _, rfl, SqT.of hp, rfl, _, _, rfl, _, _, rfl, _, _, rfl, rfl, ?_⟩
        refine ⟨_, rfl, .inl ⟨rfl, _, SqL.of hL1⟩, _, rfl, _, rfl, _, rfl, by show 3 ≤ sizeLine; decide, fun p2 hp2 => ?_⟩
        have e2 := Ex.new (o := .tup [.str k, v, .int (pos : Int)]) hp2
        have hL2 := e2 _ _ hL1
        refine ⟨L, _, _, rfl, rfl, hL2, by rw [sizeLine_eq]; omega, ?_⟩
        refine ⟨_, rfl, T.length - (pos + n), by omega, pos + n, ds ++ [(k, v, pos)], ts', xs ++ [.ref p2], _, _, _, rfl, fun a o h => ?_, upd_same, ?_, ?_, by rw [List.append_assoc]; exact hdr, by simp only [List.length_append, List.length_cons, List.length_nil]; omega, rfl⟩
        · exact (upd_ne (fun z => by rw [z, hn] at h; cases h)).trans (e2 _ _ (e1 _ _ (ex _ _ h)))
        · refine TksIn.snoc ⟨tokR_flat h2, p2, rfl, ?_⟩ (((htk.mono fun a xs h => e1 _ _ h).mono fun a xs h => e2 _ _ h).mono (tk_put hL2))
          exact tk_put hL2 _ _ upd_same
        · have ee : T.drop (pos + n) = (ch :: T.drop (pos + 1)).drop n := by rw [← hdrop, List.drop_drop]
          rw [ee]
          exact h4
  · rw [tx_len] at c
    have e0 : T.drop pos = [] := List.drop_of_length_le (by omega)
    rw [e0] at hlx
    cases hlx
    rw [List.append_nil] at hdr
    subst hdr
    have hx5 : xs.length ≤ 5000 := by omega
    exact ⟨_, rfl, kq H' L xs ex hn hLl hx5 htk⟩
end
end K48

set_option maxHeartbeats 4000000
namespace K48
open PySem PySem.Spec PyProof.Rows L2 Hg
/-! ### the law's tokens: the mathematics -/
abbrev Tok3 := Str × V × List Nat
def intOpts : List (Int × List Nat) := [(0, [48]), (1, [49]), (7, [55]), (10, [49, 48]), (999999, [57, 57, 57, 57, 57, 57]), (100000, [49, 48, 48, 48, 48, 48])]
def wordOpts : List (List Nat) := [[], [97], [115, 117, 109], [97, 32, 98], [120, 32, 61, 32, 49], [126, 33, 40], [97, 98, 99, 100, 101, 102, 103, 104, 105, 106, 107, 108], [32], [110, 111, 116], [105, 110], [97, 110, 100], [45], [40], [41], [44], [61]]
def symOpts : List (List Nat) := [[40], [41], [44], [46], [43], [45], [42], [61], [33, 61], [60], [60, 61], [62], [62, 61]]
def NameOk (m : List Nat) : Prop := (∃ c t, m = c :: t ∧ c ∈ LET) ∧ (∀ c ∈ m, c ∈ NCH) ∧ m.length ≤ 12
inductive GT : Str → V → List Nat → Prop
  | int {n : Int} {d : List Nat} : (n, d) ∈ intOpts → GT "integer" (.int n) d
  | word {m : List Nat} : m ∈ wordOpts → GT "word" (.str (tx m)) (34 :: (m ++ [34]))
  | sym {m : List Nat} : m ∈ symOpts → GT "symbol" (.str (tx m)) m
  | res {m : List Nat} : m ∈ RES → GT "reserved" (.str (tx m)) m
  | name {m : List Nat} : NameOk m → m ∉ RES → GT "name" (.str (tx m)) m
/-- what may not come next -/
def stops (t : Tok3) (R : List Nat) : Prop := ∀ c, R[0]? = some c → (t.1 = "integer" → c ∉ DIG) ∧ (t.1 = "name" ∨ t.1 = "reserved" → c ∉ NCH) ∧ (t.2.2 = [60] ∨ t.2.2 = [62] → c ≠ 61)
theorem runN_app {cs : List Nat} : ∀ {t R : List Nat}, (∀ c ∈ t, c ∈ cs) → (∀ c, R[0]? = some c → c ∉ cs) → runN cs (t ++ R) = t.length
  | [], [], _, _ => rfl
  | [], r :: R, _, h => by
    unfold runN
    rw [List.nil_append, List.takeWhile_cons, if_neg (by simpa using h r rfl)]
  | c :: t, R, h1, h2 => by
    unfold runN
    rw [List.cons_append, List.takeWhile_cons, if_pos (by simpa using h1 c (by simp))]
    have := runN_app (fun d hd => h1 d (by simp [hd])) h2 (t := t)
    unfold runN at this
    simp [this]
theorem nameOk_res : ∀ m ∈ RES, NameOk m := by
  intro m hm
  have : (RES.all fun m => (m.head?.any fun c => decide (c ∈ LET)) && (m.all fun c => decide (c ∈ NCH)) && decide (m.length ≤ 12)) = true := by decide +kernel
  have := List.all_eq_true.mp this m hm
  simp only [Bool.and_eq_true, decide_eq_true_eq, List.all_eq_true] at this
  obtain ⟨⟨a, b⟩, c⟩ := this
  cases m with
  | nil => simp at a
  | cons x t => exact ⟨⟨x, t, rfl, by simpa using a⟩, b, c⟩
theorem tokR_name {m R : List Nat} (h : NameOk m) (hs : ∀ c, R[0]? = some c → c ∉ NCH) : tokR (m ++ R) = (some ((if m ∈ RES then "reserved" else "name" : Str), V.str (tx m), m.length) : Option Tk) := by
  obtain ⟨⟨c, t, rfl, hc⟩, h2, h3⟩ := h
  have hr := runN_app h2 hs
  unfold tokR
  rw [List.cons_append]
  dsimp only
  rw [if_pos hc]
  unfold tokL
  rw [← List.cons_append, hr, if_neg (by omega), List.take_left]
theorem dig_let : ∀ c ∈ DIG, c ∉ LET := by decide +kernel
theorem tokR_lex {k : Str} {v : V} {t R : List Nat} (h : GT k v t) (hs : stops (k, v, t) R) : tokR (t ++ R) = some (k, v, t.length) := by
  cases h with
  | int h =>
    have facts : (intOpts.all fun p => (p.2.head?.any fun c => decide (c ∈ DIG)) && (p.2.all fun c => decide (c ∈ DIG)) && decide (p.2.length ≤ 6) && (decide (p.2.length ≤ 1) || !decide (p.2[0]? = some 48)) && decide (PySem.intText? (tx p.2) = some p.1)) = true := by decide +kernel
    have facts := List.all_eq_true.mp facts _ h
    simp only [Bool.and_eq_true, Bool.or_eq_true, Bool.not_eq_true', decide_eq_true_eq, decide_eq_false_iff_not, List.all_eq_true] at facts
    obtain ⟨⟨⟨⟨f1, f2⟩, f3⟩, f4⟩, f5⟩ := facts
    have hr := runN_app f2 (fun c hc => (hs c hc).1 rfl)
    cases t with
    | nil => simp at f1
    | cons c t =>
      have hc : c ∈ DIG := by simpa using f1
      unfold tokR
      rw [List.cons_append]
      dsimp only
      rw [if_neg (dig_let c hc), if_pos hc]
      unfold tokD
      rw [← List.cons_append, hr, List.take_left, f5]
      rw [if_neg]
      · rfl
      · rintro (g | ⟨g1, g2⟩)
        · omega
        · rcases f4 with f4 | f4
          · omega
          · exact f4 (by simpa using g2)
  | word h =>
    rename_i m
    have facts : (wordOpts.all fun m => isW m && !decide (34 ∈ m)) = true := by decide +kernel
    have facts := List.all_eq_true.mp facts _ h
    simp only [Bool.and_eq_true, Bool.not_eq_true', decide_eq_false_iff_not] at facts
    obtain ⟨f1, f2⟩ := facts
    unfold tokR
    rw [List.cons_append]
    dsimp only
    rw [if_neg (by decide), if_neg (by decide), if_pos rfl]
    unfold tokW
    dsimp only
    have e : ((34 :: (m ++ [34] ++ R)).drop 1).takeWhile (fun c => !decide (c = 34)) = m := by
      rw [List.drop_one, List.tail_cons, List.append_assoc, List.takeWhile_append_of_pos (fun c hc => by simp; intro e; subst e; exact f2 hc)]
      simp
    rw [e, if_pos ⟨by simp, f1⟩]
    simp
  | sym h =>
    have e1 : ∀ (a b : Nat), tokR (a :: b :: R) = tokR ([a, b] ++ R) := fun _ _ => rfl
    simp only [symOpts, List.mem_cons, List.not_mem_nil, or_false] at h
    have one : ∀ c : Nat, c ∉ LET → c ∉ DIG → c ≠ 34 → (∀ d, R[0]? = some d → [c, d] ∉ LSY) → c ∈ SSY → tokR ([c] ++ R) = (some (("symbol" : Str), V.str (tx [c]), 1) : Option Tk) := by
      intro c h1 h2 h3 h4 h5
      unfold tokR
      rw [List.cons_append]
      dsimp only
      rw [if_neg h1, if_neg h2, if_neg h3, if_neg, if_pos h5]
      cases R with
      | nil => simp
      | cons d R => simpa using h4 d rfl
    have two : ∀ c d : Nat, c ∉ LET → c ∉ DIG → c ≠ 34 → [c, d] ∈ LSY → tokR ([c, d] ++ R) = (some (("symbol" : Str), V.str (tx [c, d]), 2) : Option Tk) := by
      intro c d h1 h2 h3 h4
      unfold tokR
      rw [List.cons_append]
      dsimp only
      rw [if_neg h1, if_neg h2, if_neg h3, if_pos (by simpa using h4)]
      rfl
    rcases h with h | h | h | h | h | h | h | h | h | h | h | h | h <;> subst h
    · exact one 40 (by decide) (by decide) (by decide) (fun d _ => by simp) (by decide)
    · exact one 41 (by decide) (by decide) (by decide) (fun d _ => by simp) (by decide)
    · exact one 44 (by decide) (by decide) (by decide) (fun d _ => by simp) (by decide)
    · exact one 46 (by decide) (by decide) (by decide) (fun d _ => by simp) (by decide)
    · exact one 43 (by decide) (by decide) (by decide) (fun d _ => by simp) (by decide)
    · exact one 45 (by decide) (by decide) (by decide) (fun d _ => by simp) (by decide)
    · exact one 42 (by decide) (by decide) (by decide) (fun d _ => by simp) (by decide)
    · exact one 61 (by decide) (by decide) (by decide) (fun d _ => by simp) (by decide)
    · exact two 33 61 (by decide) (by decide) (by decide) (by decide)
    · exact one 60 (by decide) (by decide) (by decide) (fun d hd => by have := (hs d hd).2.2 (.inl rfl); simpa using this) (by decide)
    · exact two 60 61 (by decide) (by decide) (by decide) (by decide)
    · exact one 62 (by decide) (by decide) (by decide) (fun d hd => by have := (hs d hd).2.2 (.inr rfl); simpa using this) (by decide)
    · exact two 62 61 (by decide) (by decide) (by decide) (by decide)
  | res h =>
    have := tokR_name (nameOk_res _ h) (fun c hc => (hs c hc).2.1 (.inr rfl))
    rw [if_pos h] at this
    exact this
  | name h hn =>
    have := tokR_name h (fun c hc => (hs c hc).2.1 (.inl rfl))
    rw [if_neg hn] at this
    exact this
/-! ### spaces where they are needed -/
def needI (a b : Tok3) : Bool :=
  if a.1 = "name" ∨ a.1 = "reserved" then decide (b.1 = "name" ∨ b.1 = "reserved" ∨ b.1 = "integer") else if a.1 = "integer" then decide (b.1 = "integer")
  else decide ((a.2.1 = V.str (tx [60]) ∨ a.2.1 = V.str (tx [62])) ∧ b.2.1 = V.str (tx [61]) ∧ b.1 = "symbol")
def G3 (t : Tok3) : Prop := GT t.1 t.2.1 t.2.2
def SYF : List Nat := [40, 41, 44, 46, 43, 45, 42, 61, 33, 60, 62]
theorem first_of {k : Str} {v : V} {t : List Nat} (h : GT k v t) : ∃ c r, t = c :: r ∧ c ≠ 32 ∧ ((k = "integer" ∧ c ∈ DIG) ∨ (k = "word" ∧ c = 34) ∨ (k = "symbol" ∧ c ∈ SYF ∧ (c = 61 → v = .str (tx [61]))) ∨ ((k = "reserved" ∨ k = "name") ∧ c ∈ LET)) := by
  have letne : ∀ c ∈ LET, c ≠ 32 := by decide +kernel
  cases h with
  | int h =>
    have f : (intOpts.all fun p => p.2.head?.any fun c => decide (c ∈ DIG)) = true := by decide +kernel
    have f := List.all_eq_true.mp f _ h
    have digne : ∀ c ∈ DIG, c ≠ 32 := by decide +kernel
    cases t with
    | nil => simp at f
    | cons c r => exact ⟨c, r, rfl, digne c (by simpa using f), .inl ⟨rfl, by simpa using f⟩⟩
  | word h => exact ⟨34, _, rfl, by decide, .inr (.inl ⟨rfl, rfl⟩)⟩
  | sym h =>
    have f : (symOpts.all fun m => m.head?.any fun c => decide (c ∈ SYF) && (!decide (c = 61) || decide (m = [61])) && !decide (c = 32)) = true := by decide +kernel
    have f := List.all_eq_true.mp f _ h
    cases t with
    | nil => simp at f
    | cons c r =>
      simp only [List.head?_cons, Option.any_some, Bool.and_eq_true, Bool.or_eq_true, Bool.not_eq_true', decide_eq_true_eq, decide_eq_false_iff_not] at f
      refine ⟨c, r, rfl, f.2, .inr (.inr (.inl ⟨rfl, f.1.1, fun e => ?_⟩))⟩
      rcases f.1.2 with g | g
      · exact absurd e g
      · rw [g]
  | res h =>
    obtain ⟨⟨c, r, e, hc⟩, _, _⟩ := nameOk_res _ h
    exact ⟨c, r, e, letne c hc, .inr (.inr (.inr ⟨.inl rfl, hc⟩))⟩
  | name h hn =>
    obtain ⟨⟨c, r, e, hc⟩, _, _⟩ := h
    exact ⟨c, r, e, letne c hc, .inr (.inr (.inr ⟨.inr rfl, hc⟩))⟩
theorem lt_sign {k : Str} {v : V} {t : List Nat} {c : Nat} (h : GT k v t) (e : t = [c]) (hc : c = 60 ∨ c = 62) : k = "symbol" ∧ v = .str (tx [c]) := by
  have nl : c ∉ NCH ∧ c ∉ LET ∧ c ∉ DIG ∧ c ≠ 34 := by rcases hc with h | h <;> subst h <;> decide +kernel
  cases h with
  | int h =>
    have f : (intOpts.all fun p => p.2.head?.any fun c => decide (c ∈ DIG)) = true := by decide +kernel
    have f := List.all_eq_true.mp f _ h
    subst e
    exact absurd (by simpa using f) nl.2.2.1
  | word h =>
    have := congrArg List.length e
    simp at this
  | sym h => subst e; exact ⟨rfl, rfl⟩
  | res h => subst e; exact absurd ((nameOk_res _ h).2.1 c (by simp)) nl.1
  | name h hn => subst e; exact absurd (h.2.1 c (by simp)) nl.1
theorem stops_next {a b : Tok3} {R : List Nat} (ha : G3 a) (hb : G3 b) (hn : needI a b = false) : stops a (b.2.2 ++ R) := by
  obtain ⟨c0, r0, e0, _, hf⟩ := first_of hb
  intro c hc
  rw [e0, List.cons_append] at hc
  cases hc
  have dl : ∀ c ∈ LET, c ∉ DIG := by decide +kernel
  have ds : ∀ c ∈ SYF, c ∉ DIG ∧ c ∉ NCH := by decide +kernel
  refine ⟨fun h1 hd => ?_, fun h1 hd => ?_, fun h1 hd => ?_⟩
  · unfold needI at hn
    rw [if_neg (by rw [h1]; decide), if_pos h1] at hn
    have hn := of_decide_eq_false hn
    rcases hf with ⟨g, _⟩ | ⟨_, g⟩ | ⟨_, g, _⟩ | ⟨_, g⟩
    · exact hn g
    · rw [g] at hd; exact absurd hd (by decide)
    · exact (ds _ g).1 hd
    · exact dl _ g hd
  · unfold needI at hn
    rw [if_pos h1] at hn
    have hn := of_decide_eq_false hn
    rcases hf with ⟨g, _⟩ | ⟨_, g⟩ | ⟨_, g, _⟩ | ⟨g, _⟩
    · exact hn (.inr (.inr g))
    · rw [g] at hd; exact absurd hd (by decide)
    · exact (ds _ g).2 hd
    · rcases g with g | g
      · exact hn (.inr (.inl g))
      · exact hn (.inl g)
  · have hs : a.1 = "symbol" ∧ (a.2.1 = V.str (tx [60]) ∨ a.2.1 = V.str (tx [62])) := by
      rcases h1 with h1 | h1
      · have := lt_sign ha h1 (.inl rfl); exact ⟨this.1, .inl this.2⟩
      · have := lt_sign ha h1 (.inr rfl); exact ⟨this.1, .inr this.2⟩
    unfold needI at hn
    rw [if_neg (by rw [hs.1]; decide), if_neg (by rw [hs.1]; decide)] at hn
    have hn := of_decide_eq_false hn
    subst hd
    rcases hf with ⟨_, g⟩ | ⟨_, g⟩ | ⟨g1, _, g⟩ | ⟨_, g⟩
    · exact absurd g (by decide)
    · exact absurd g (by decide)
    · exact hn ⟨hs.2, g rfl, g1⟩
    · exact absurd g (by decide)
theorem stops_space {a : Tok3} {m : Nat} {R : List Nat} (hm : 0 < m) : stops a (List.replicate m 32 ++ R) := by
  intro c hc
  obtain ⟨m, rfl⟩ : ∃ k, m = k + 1 := ⟨m - 1, by omega⟩
  rw [List.replicate_succ, List.cons_append] at hc
  cases hc
  exact ⟨fun _ => by decide, fun _ => by decide, fun _ => by decide⟩
theorem stops_end {a : Tok3} : stops a [] := fun c hc => by cases hc
/-! ### a text is built -/
def Built (last : Option Tok3) (U : List Nat) (ts : List Tk) : Prop := ∀ (R : List Nat) (ts' : List Tk), (∀ t, last = some t → stops t R) → Lexes U.length R ts' → Lexes 0 (U ++ R) (ts ++ ts')
theorem Lexes.spaces {R : List Nat} {ts : List Tk} : ∀ (m i : Nat), Lexes (i + m) R ts → Lexes i (List.replicate m 32 ++ R) ts
  | 0, i, h => h
  | m + 1, i, h => by
    rw [List.replicate_succ, List.cons_append]
    exact .sp (Lexes.spaces m (i + 1) (by rw [show i + 1 + m = i + (m + 1) by omega]; exact h))
theorem Built.start (m : Nat) : Built none (List.replicate m 32) [] := by
  intro R ts' _ h
  refine Lexes.spaces m 0 ?_
  rw [List.length_replicate] at h
  rw [Nat.zero_add]
  exact h
theorem Built.step {last : Option Tok3} {U : List Nat} {ts : List Tk} (h : Built last U ts) {t : Tok3} {m : Nat} (ht : G3 t) (hl : ∀ a, last = some a → G3 a ∧ (needI a t = true → 0 < m)) : Built (some t) (U ++ List.replicate m 32 ++ t.2.2) (ts ++ [(t.1, t.2.1, U.length + m)]) := by
  intro R ts' hs hR
  have e1 : U ++ List.replicate m 32 ++ t.2.2 ++ R = U ++ (List.replicate m 32 ++ (t.2.2 ++ R)) := by simp
  have e2 : ts ++ [(t.1, t.2.1, U.length + m)] ++ ts' = ts ++ ((t.1, t.2.1, U.length + m) :: ts') := by simp
  rw [e1, e2]
  have hlen : (U ++ List.replicate m 32 ++ t.2.2).length = U.length + m + t.2.2.length := by simp; omega
  rw [hlen] at hR
  refine h _ _ (fun a ha => ?_) (Lexes.spaces m U.length ?_)
  · obtain ⟨g, n⟩ := hl a ha
    by_cases hm : 0 < m
    · exact stops_space hm
    · have : m = 0 := by omega
      subst this
      refine stops_next g ht ?_
      cases hn : needI a t with
      | false => rfl
      | true => exact absurd (n hn) hm
  · obtain ⟨c, r, e, hc, _⟩ := first_of ht
    have tk := tokR_lex ht (hs t rfl)
    rw [e, List.cons_append] at tk ⊢
    refine .tok hc tk (by simp) ?_
    rw [← List.cons_append, List.drop_left]
    rw [e] at hR
    exact hR
theorem Built.done {last : Option Tok3} {U : List Nat} {ts : List Tk} (h : Built last U ts) (m : Nat) : Lexes 0 (U ++ List.replicate m 32) ts := by
  have := h (List.replicate m 32) [] (fun t _ => ?_) (by have := Lexes.spaces (R := []) m U.length (.nil _); rwa [List.append_nil] at this)
  · rwa [List.append_nil] at this
  · cases m with
    | zero => exact stops_end
    | succ m => have := stops_space (a := t) (m := m + 1) (R := []) (by omega); rwa [List.append_nil] at this
end K48

set_option maxHeartbeats 4000000
namespace K48
open PySem PySem.Spec PyProof.Rows L2 Hg
def sp_l_reserved (_ : PySem.W.Frag) : Sp := fun vs H Q _ => vs = [] ∧ ∀ p, H p = none → Q (.ref p) (upd H p (.lst (sV RES)))
def sp_l_symbols (_ : PySem.W.Frag) : Sp := fun vs H Q _ => vs = [] ∧ ∀ p, H p = none → Q (.ref p) (upd H p (.lst (sV symOpts)))
def sp_l_name (_ : PySem.W.Frag) : Sp := fun vs H Q _ => ∃ (s q : Addr) (B : Nat) (G : Hp), vs = [.ref s] ∧ Ov s q B G H ∧ B < 800000 ∧ ∀ (m : List Nat) (H' : Hp), NameOk m → m ∉ RES → Ov s q (B + 13) G H' → Q (.str (tx m)) H'
def sp_l_token (_ : PySem.W.Frag) : Sp := fun vs H Q _ => ∃ (s q : Addr) (B : Nat) (G : Hp), vs = [.ref s] ∧ Ov s q B G H ∧ B < 700000 ∧ ∀ (t : Tok3) (p : Addr) (G' H' : Hp), G3 t → Ex G G' → Ov s q (B + 20) G' H' → G' p = some (.tup [.str t.1, t.2.1, .str (tx t.2.2)]) → Q (.ref p) H'
def INN : List Nat := [97, 98, 99, 100, 101, 102, 103, 104, 105, 106, 107, 108, 109, 110, 111, 112, 113, 114, 115, 116, 117, 118, 119, 120, 121, 122, 48, 49, 50, 51, 52, 53, 54, 55, 56, 57, 95]
theorem inn_let {i : Nat} (h : i < 26) : ∃ c, INN[i]? = some c ∧ c ∈ LET := by
  have f : ((List.range 26).all fun i => (INN[i]?).any fun c => decide (c ∈ LET)) = true := by decide +kernel
  have f := List.all_eq_true.mp f i (List.mem_range.mpr h)
  cases e : INN[i]? with
  | none => rw [e] at f; simp at f
  | some c => rw [e] at f; exact ⟨c, rfl, by simpa using f⟩
theorem inn_nch {i : Nat} (h : i < 37) : ∃ c, INN[i]? = some c ∧ c ∈ NCH := by
  have f : ((List.range 37).all fun i => (INN[i]?).any fun c => decide (c ∈ NCH)) = true := by decide +kernel
  have f := List.all_eq_true.mp f i (List.mem_range.mpr h)
  cases e : INN[i]? with
  | none => rw [e] at f; simp at f
  | some c => rw [e] at f; exact ⟨c, rfl, by simpa using f⟩
theorem let_nch : ∀ c ∈ LET, c ∈ NCH := by decide +kernel
section
variable {P : Program} {w : World} {K : PySem.W.Frag} {mg : Str → Option Value} {base : Heap}
theorem ok_l_reserved {f : Addr} {fd : FuncData} (F : DefK K mg "_law_reserved" st_l_reserved [] f fd) (Z : Zs mg) (CG : CGs K mg)  :
    FnOk P w K mg base CX0 1 f fd [] (sp_l_reserved K) := by
  refine F.fn.ok sc_l_reserved (fun vs H Q E h => by first | (obtain ⟨rfl, _⟩ := h; rfl) | (obtain ⟨_, rfl, _⟩ := h; rfl) | (obtain ⟨_, _, rfl, _⟩ := h; rfl) | (obtain ⟨_, _, _, rfl, _⟩ := h; rfl) | (obtain ⟨_, _, _, _, rfl, _⟩ := h; rfl) | (obtain ⟨_, _, _, _, _, rfl, _⟩ := h; rfl) | (obtain ⟨_, _, _, _, _, _, rfl, _⟩ := h; rfl) | (obtain ⟨_, _, _, _, _, _, _, rfl, _⟩ := h; rfl) | (obtain ⟨_, _, _, _, _, _, _, _, rfl, _⟩ := h; rfl) | (obtain ⟨_, _, _, _, _, _, _, _, _, rfl, _⟩ := h; rfl) | (obtain ⟨_, _, _, _, _, _, _, _, _, _, rfl, _⟩ := h; rfl) | (obtain ⟨_, _, _, _, _, _, _, _, _, _, _, rfl, _⟩ := h; rfl) | (obtain ⟨_, _, _, _, _, _, _, _, _, _, _, _, rfl, _⟩ := h; rfl) | (obtain ⟨_, _, _, _, _, _, _, _, _, _, _, _, _, rfl, _⟩ := h; rfl)) (fun cdv A outer s H vs Q E hr h => ?_)
  obtain ⟨rfl, kq⟩ := h
  refine ⟨_, (pss_one (ps_ret (pe_split pe_str pe_str))), ?_⟩
  refine ⟨⟨_, rfl⟩, _, _, rfl, rfl, rfl, by rw [sizeLine_eq]; decide, fun p hp => ?_⟩
  have e : Txt.split "select sum count from at day as where by and or not in" " " = RES.map tx := by decide +kernel
  rw [e, List.map_map]
  exact kq p hp
theorem ok_l_symbols {f : Addr} {fd : FuncData} (F : DefK K mg "_law_symbols" st_l_symbols [] f fd) (Z : Zs mg) (CG : CGs K mg)  :
    FnOk P w K mg base CX0 1 f fd [] (sp_l_symbols K) := by
  refine F.fn.ok sc_l_symbols (fun vs H Q E h => by first | (obtain ⟨rfl, _⟩ := h; rfl) | (obtain ⟨_, rfl, _⟩ := h; rfl) | (obtain ⟨_, _, rfl, _⟩ := h; rfl) | (obtain ⟨_, _, _, rfl, _⟩ := h; rfl) | (obtain ⟨_, _, _, _, rfl, _⟩ := h; rfl) | (obtain ⟨_, _, _, _, _, rfl, _⟩ := h; rfl) | (obtain ⟨_, _, _, _, _, _, rfl, _⟩ := h; rfl) | (obtain ⟨_, _, _, _, _, _, _, rfl, _⟩ := h; rfl) | (obtain ⟨_, _, _, _, _, _, _, _, rfl, _⟩ := h; rfl) | (obtain ⟨_, _, _, _, _, _, _, _, _, rfl, _⟩ := h; rfl) | (obtain ⟨_, _, _, _, _, _, _, _, _, _, rfl, _⟩ := h; rfl) | (obtain ⟨_, _, _, _, _, _, _, _, _, _, _, rfl, _⟩ := h; rfl) | (obtain ⟨_, _, _, _, _, _, _, _, _, _, _, _, rfl, _⟩ := h; rfl) | (obtain ⟨_, _, _, _, _, _, _, _, _, _, _, _, _, rfl, _⟩ := h; rfl)) (fun cdv A outer s H vs Q E hr h => ?_)
  obtain ⟨rfl, kq⟩ := h
  refine ⟨_, (pss_one (ps_ret (pe_split pe_str pe_str))), ?_⟩
  refine ⟨⟨_, rfl⟩, _, _, rfl, rfl, rfl, by rw [sizeLine_eq]; decide, fun p hp => ?_⟩
  have e : Txt.split "( ) , . + - * = != < <= > >=" " " = symOpts.map tx := by decide +kernel
  rw [e, List.map_map]
  exact kq p hp
theorem ok_l_name {f : Addr} {fd : FuncData} (F : DefK K mg "_law_name" st_l_name ["_law_stream"] f fd) (Z : Zs mg) (CG : CGs K mg) {f_l_draw : Addr} {fd_l_draw : FuncData} (D_l_draw : DefK K mg "_law_draw" st_l_draw ["_law_stream", "_law_many"] f_l_draw fd_l_draw) (G_l_draw : FnOk P w K mg base CX0 1 f_l_draw fd_l_draw ["_law_stream", "_law_many"] (sp_l_draw K)) {f_l_reserved : Addr} {fd_l_reserved : FuncData} (D_l_reserved : DefK K mg "_law_reserved" st_l_reserved [] f_l_reserved fd_l_reserved) (G_l_reserved : FnOk P w K mg base CX0 1 f_l_reserved fd_l_reserved [] (sp_l_reserved K)) :
    FnOk P w K mg base CX0 2 f fd ["_law_stream"] (sp_l_name K) := by
  refine F.fn.ok sc_l_name (fun vs H Q E h => by first | (obtain ⟨rfl, _⟩ := h; rfl) | (obtain ⟨_, rfl, _⟩ := h; rfl) | (obtain ⟨_, _, rfl, _⟩ := h; rfl) | (obtain ⟨_, _, _, rfl, _⟩ := h; rfl) | (obtain ⟨_, _, _, _, rfl, _⟩ := h; rfl) | (obtain ⟨_, _, _, _, _, rfl, _⟩ := h; rfl) | (obtain ⟨_, _, _, _, _, _, rfl, _⟩ := h; rfl) | (obtain ⟨_, _, _, _, _, _, _, rfl, _⟩ := h; rfl) | (obtain ⟨_, _, _, _, _, _, _, _, rfl, _⟩ := h; rfl) | (obtain ⟨_, _, _, _, _, _, _, _, _, rfl, _⟩ := h; rfl) | (obtain ⟨_, _, _, _, _, _, _, _, _, _, rfl, _⟩ := h; rfl) | (obtain ⟨_, _, _, _, _, _, _, _, _, _, _, rfl, _⟩ := h; rfl) | (obtain ⟨_, _, _, _, _, _, _, _, _, _, _, _, rfl, _⟩ := h; rfl) | (obtain ⟨_, _, _, _, _, _, _, _, _, _, _, _, _, rfl, _⟩ := h; rfl)) (fun cdv A outer s H vs Q E hr h => ?_)
  obtain ⟨s0, q, B, G, rfl, O, hB, kq⟩ := h
  refine ⟨_, (pss_cons (ps_set (i := 1) sc_l_name.nd rfl (.inl rfl) pe_str)
      (pss_cons (ps_set (i := 2) sc_l_name.nd rfl (.inl rfl) (pe_ix (kIx (K := K)) (pe_lst (pa_cons pe_int (pa_cons pe_int (pa_cons pe_int (pa_cons pe_int (pa_cons pe_int (pa_cons pe_int pa_nil))))))) (pe_call G_l_draw (hr.mono (by decide)) rfl D_l_draw.mg D_l_draw.fn.kp D_l_draw.bd .nil pass0 (pa_cons (pv 0) (pa_cons pe_int pa_nil))) (fun _ _ => rfl)))
      (pss_cons (ps_set (i := 3) sc_l_name.nd rfl (.inl rfl) (pe_ix (kIx (K := K)) (pv 1) (pe_call G_l_draw (hr.mono (by decide)) rfl D_l_draw.mg D_l_draw.fn.kp D_l_draw.bd .nil pass0 (pa_cons (pv 0) (pa_cons pe_int pa_nil))) (fun _ _ => rfl)))
      (pss_cons (ps_for PassesOwn.never rfl (pi_range1 (by rfl) Z.range_ (pa_cons (pv 2) pa_nil)) (pg_name (i := 4) sc_l_name.nd rfl (.inl rfl)) (pss_one (ps_set (i := 3) sc_l_name.nd rfl (.inl rfl) (pe_op (kAdd (K := K)) (pv 3) (pe_ix (kIx (K := K)) (pv 1) (pe_call G_l_draw (hr.mono (by decide)) rfl D_l_draw.mg D_l_draw.fn.kp D_l_draw.bd .nil pass0 (pa_cons (pv 0) (pa_cons pe_int pa_nil))) (fun _ _ => rfl))))))
      (pss_one (ps_ret (pe_op (kAdd (K := K)) (pv 3) (pe_op op_mulS pe_str (pe_callTy call_int1 (by rfl) Z.int_ PyProof.Rows.Boot.«int» (pa_cons (pe_cmpR (kIn (K := K)) (pv 3) (pe_call0 G_l_reserved (hr.mono (by decide)) rfl D_l_reserved.mg D_l_reserved.fn.kp D_l_reserved.bd .nil pass0) (by rfl)) pa_nil)))))))))), ?_⟩
  refine ⟨by show 6 ≤ sizeLine; decide, fun l hl => ⟨_, rfl, s0, q, _, _, 6, rfl, O.new hl, by omega, by decide, by decide, fun r H1 r0 r1 O1 => ?_⟩⟩
  obtain ⟨v, hv, hm⟩ := menu (n := 6) r0 r1 (vs := [.int 0, .int 0, .int 1, .int 2, .int 4, .int 11]) rfl
  have hvz : ∃ z : Nat, v = .int (z : Int) ∧ z ≤ 11 := by
    simp only [List.mem_cons, List.not_mem_nil, or_false] at hm
    rcases hm with h | h | h | h | h | h
    · exact ⟨0, h, by decide⟩
    · exact ⟨0, h, by decide⟩
    · exact ⟨1, h, by decide⟩
    · exact ⟨2, h, by decide⟩
    · exact ⟨4, h, by decide⟩
    · exact ⟨11, h, by decide⟩
  obtain ⟨more, rfl, hmore⟩ := hvz
  refine ixl (O1.sub _ _ upd_same) hv ?_
  have O1 := O1.weak (Ex.new (O.sub.free hl))
  refine ⟨_, rfl, _, rfl, s0, q, _, _, 26, rfl, O1, by omega, by decide, by decide, fun i H2 i0 i1 O2 => ?_⟩
  obtain ⟨i, rfl⟩ := Int.eq_ofNat_of_zero_le i0
  obtain ⟨c, hc, hcl⟩ := inn_let (i := i) (by omega)
  refine ixs (l := INN) hc (by decide) ?_
  refine ⟨_, rfl, (more : Int), rfl, by omega, by omega, ?_⟩
  rw [Int.toNat_natCast]
  refine for_it (walk_range (lo := 0) (n := more)) (fun j σ H' => ∃ (t : List Nat) (v4 : Option V), σ = [some (.ref s0), some (.str (tx INN)), some (.int (more : Int)), some (.str (tx (c :: t))), v4] ∧ t.length = j ∧ (∀ d ∈ c :: t, d ∈ NCH) ∧ Ov s0 q (B + 2 + j) G H')
    ⟨[], _, rfl, rfl, fun d hd => by rw [List.mem_singleton.mp hd]; exact let_nch c hcl, O2⟩ (fun _ _ _ _ _ => trivial) (fun j x σ H' H6 hj p y => ?_) (fun σ H' p => ?_)
  · obtain ⟨t, v4, rfl, ht, hall, O3⟩ := p
    obtain ⟨rfl, rfl⟩ := y
    refine ⟨_, rfl, _, rfl, _, rfl, s0, q, _, _, 37, rfl, O3, by omega, by decide, by decide, fun i H7 i0 i1 O4 => ?_⟩
    obtain ⟨i, rfl⟩ := Int.eq_ofNat_of_zero_le i0
    obtain ⟨d, hd, hdn⟩ := inn_nch (i := i) (by omega)
    refine ixs (l := INN) hd (by decide) (cat_s (by simp; omega) ?_)
    refine ⟨t ++ [d], _, rfl, by simp [ht], fun e he => ?_, O4⟩
    rw [← List.cons_append] at he
    rcases List.mem_append.mp he with h | h
    · exact hall e h
    · rw [List.mem_singleton.mp h]; exact hdn
  · obtain ⟨t, v4, rfl, ht, hall, O3⟩ := p
    refine ⟨_, rfl, _, rfl, rfl, fun p hp => ?_⟩
    have OO := O3.drop (o := .lst (sV RES)) hp
    refine in_l (ls := RES) (.inl (SqL.of upd_same)) (.inr ⟨_, rfl, ?_⟩)
    by_cases hr : (c :: t) ∈ RES
    · rw [decide_eq_true hr]
      refine ⟨[95], 1, rfl, rfl, by decide, by decide, cat_s (by simp; omega) (kq _ _ ⟨⟨c, t ++ [95], rfl, hcl⟩, fun e he => ?_, ?_⟩ ?_ (OO.more (by omega)))⟩
      · rcases List.mem_append.mp he with h | h
        · exact hall e h
        · have h : e ∈ [95] := h
          rw [List.mem_singleton.mp h]; decide
      · have f : (RES.all fun m => decide (m.length ≤ 6)) = true := by decide +kernel
        have f := List.all_eq_true.mp f _ hr
        have f := of_decide_eq_true f
        show ((c :: t) ++ [95]).length ≤ 12
        rw [List.length_append]
        show (c :: t).length + 1 ≤ 12
        omega
      · intro h
        have f : (RES.all fun m => !decide (95 ∈ m)) = true := by decide +kernel
        have f := List.all_eq_true.mp f _ h
        have h95 : 95 ∈ ((c :: t) ++ (List.replicate 1 [95]).flatten) := by simp
        rw [decide_eq_true h95] at f
        cases f
    · rw [decide_eq_false hr]
      refine ⟨[95], 0, rfl, rfl, by decide, by decide, cat_s (by simp; omega) ?_⟩
      have e0 : (c :: t) ++ (List.replicate 0 [95]).flatten = c :: t := by simp
      rw [e0]
      exact kq _ _ ⟨⟨c, t, rfl, hcl⟩, hall, by simp; omega⟩ hr (OO.more (by omega))
end
end K48

set_option maxHeartbeats 4000000
namespace K48
open PySem PySem.Spec PyProof.Rows L2 Hg
def sp_l_need_space (_ : PySem.W.Frag) : Sp := fun vs H Q _ => ∃ (a b : Addr) (t u : Tok3), vs = [.ref a, .ref b] ∧ G3 t ∧ G3 u ∧ H a = some (.tup [.str t.1, t.2.1, .str (tx t.2.2)]) ∧ H b = some (.tup [.str u.1, u.2.1, .str (tx u.2.2)]) ∧ ∀ H', Ex H H' → Q (.bl (needI t u)) H'
theorem inV_str (a : Str) : ∀ ss : List Str, inV (.str a) (ss.map V.str) = decide (a ∈ ss)
  | [] => by simp [inV]
  | l :: ls => by
    have ih := inV_str a ls
    unfold inV at ih ⊢
    rw [List.map_cons, List.any_cons, ih]
    have e : eqV (.str l) (.str a) = decide (l = a) := by
      show (l == a) = _
      by_cases h : l = a
      · subst h; simp
      · rw [decide_eq_false h]
        exact beq_eq_false_iff_ne.mpr h
    rw [e]
    by_cases h1 : l = a
    · subst h1; simp
    · have h2 : ¬ a = l := fun e => h1 e.symm
      simp [h1, h2]
theorem flat_str (ss : List Str) : (ss.map V.str).all flatV = true := by
  rw [List.all_eq_true]
  intro x hx
  obtain ⟨l, _, rfl⟩ := List.mem_map.mp hx
  rfl
theorem in_str {K : PySem.W.Frag} {H : Hp} {p : Addr} {a : Str} {ss : List Str} {Q : VK} (h : H p = some (.tup (ss.map V.str))) (q : Q (.bl (decide (a ∈ ss))) H) : rIn K false (.str a) (.ref p) H Q :=
  ⟨p, _, rfl, .inr (SqT.of h), rfl, flat_str ss, by rw [if_neg Bool.false_ne_true, inV_str]; exact q⟩
theorem in_val {K : PySem.W.Frag} {H : Hp} {p : Addr} {v : V} {ss : List Str} {Q : VK} (hv : flatT v) (h : H p = some (.tup (ss.map V.str))) (q : Q (.bl (decide (∃ a ∈ ss, v = .str a))) H) : rIn K false v (.ref p) H Q := by
  rcases hv with ⟨x, rfl⟩ | ⟨i, rfl⟩
  · refine in_str h ?_
    have e : (∃ a ∈ ss, V.str x = V.str a) ↔ x ∈ ss := ⟨fun ⟨a, ha, e⟩ => by rw [V.str.inj e]; exact ha, fun h => ⟨x, h, rfl⟩⟩
    have e2 : decide (∃ a ∈ ss, V.str x = V.str a) = decide (x ∈ ss) := by
      by_cases hx : x ∈ ss
      · rw [decide_eq_true hx, decide_eq_true (e.mpr hx)]
      · rw [decide_eq_false hx, decide_eq_false (fun z => hx (e.mp z))]
    rw [← e2]
    exact q
  · refine ⟨p, _, rfl, .inr (SqT.of h), rfl, flat_str ss, ?_⟩
    rw [if_neg Bool.false_ne_true]
    have e : inV (.int i) (ss.map V.str) = false := by
      unfold inV
      rw [List.any_eq_false]
      intro y hy
      obtain ⟨l, _, rfl⟩ := List.mem_map.mp hy
      simp [eqV]
    rw [e]
    rw [decide_eq_false (by rintro ⟨a, _, z⟩; cases z)] at q
    exact q
theorem G3.flat {t : Tok3} (h : G3 t) : flatT t.2.1 := by
  obtain ⟨k, v, m⟩ := t
  change GT k v m at h
  show flatT v
  cases h with
  | int _ => exact .inr ⟨_, rfl⟩
  | word _ => exact .inl ⟨_, rfl⟩
  | sym _ => exact .inl ⟨_, rfl⟩
  | res _ => exact .inl ⟨_, rfl⟩
  | name _ _ => exact .inl ⟨_, rfl⟩
section
variable {P : Program} {w : World} {K : PySem.W.Frag} {mg : Str → Option Value} {base : Heap}
theorem ok_l_need_space {f : Addr} {fd : FuncData} (F : DefK K mg "_law_need_space" st_l_need_space ["_law_one", "_law_other"] f fd) (Z : Zs mg) (CG : CGs K mg)  :
    FnOk P w K mg base CX0 1 f fd ["_law_one", "_law_other"] (sp_l_need_space K) := by
  refine F.fn.ok sc_l_need_space (fun vs H Q E h => by first | (obtain ⟨rfl, _⟩ := h; rfl) | (obtain ⟨_, rfl, _⟩ := h; rfl) | (obtain ⟨_, _, rfl, _⟩ := h; rfl) | (obtain ⟨_, _, _, rfl, _⟩ := h; rfl) | (obtain ⟨_, _, _, _, rfl, _⟩ := h; rfl) | (obtain ⟨_, _, _, _, _, rfl, _⟩ := h; rfl) | (obtain ⟨_, _, _, _, _, _, rfl, _⟩ := h; rfl) | (obtain ⟨_, _, _, _, _, _, _, rfl, _⟩ := h; rfl) | (obtain ⟨_, _, _, _, _, _, _, _, rfl, _⟩ := h; rfl) | (obtain ⟨_, _, _, _, _, _, _, _, _, rfl, _⟩ := h; rfl) | (obtain ⟨_, _, _, _, _, _, _, _, _, _, rfl, _⟩ := h; rfl) | (obtain ⟨_, _, _, _, _, _, _, _, _, _, _, rfl, _⟩ := h; rfl) | (obtain ⟨_, _, _, _, _, _, _, _, _, _, _, _, rfl, _⟩ := h; rfl) | (obtain ⟨_, _, _, _, _, _, _, _, _, _, _, _, _, rfl, _⟩ := h; rfl)) (fun cdv A outer s H vs Q E hr h => ?_)
  obtain ⟨a, b, t, u, rfl, gt, gu, ha, hb, kq⟩ := h
  refine ⟨_, (pss_cons (ps_if (pt_cmpR (kIn (K := K)) (pe_ix (kIx (K := K)) (pv 0) pe_int (fun _ _ => rfl)) (pe_tup (pa_cons pe_str (pa_cons pe_str pa_nil))) (by rfl)) (pss_one (ps_ret (pe_cmpR (kIn (K := K)) (pe_ix (kIx (K := K)) (pv 1) pe_int (fun _ _ => rfl)) (pe_tup (pa_cons pe_str (pa_cons pe_str (pa_cons pe_str pa_nil)))) (by rfl)))) pss_nil)
      (pss_cons (ps_if (pt_cmpR (kEq (K := K) hr.units) (pe_ix (kIx (K := K)) (pv 0) pe_int (fun _ _ => rfl)) pe_str (nomark _)) (pss_one (ps_ret (pe_cmpR (kEq (K := K) hr.units) (pe_ix (kIx (K := K)) (pv 1) pe_int (fun _ _ => rfl)) pe_str (nomark _)))) pss_nil)
      (pss_one (ps_ret (pe_and (pe_cmpR (kIn (K := K)) (pe_ix (kIx (K := K)) (pv 0) pe_int (fun _ _ => rfl)) (pe_tup (pa_cons pe_str (pa_cons pe_str pa_nil))) (by rfl)) (pe_and (pe_cmpR (kIn (K := K)) (pe_ix (kIx (K := K)) (pv 1) pe_int (fun _ _ => rfl)) (pe_tup (pa_cons pe_str pa_nil)) (by rfl)) (pe_one (pe_cmpR (kEq (K := K) hr.units) (pe_ix (kIx (K := K)) (pv 1) pe_int (fun _ _ => rfl)) pe_str (nomark _))))))))), ?_⟩
  have ix0 : ∀ {x y z : V}, atI [x, y, z] 0 = some x := atI_0
  have ix1 : ∀ {x y z : V}, atI [x, y, z] 1 = some y := atI_nat (j := 1) rfl
  refine ⟨_, rfl, ixt ha ix0 ⟨by show 2 ≤ sizeLine; decide, fun p1 hp1 => ?_⟩⟩
  refine in_str (ss := ["name", "reserved"]) upd_same ⟨_, rfl, ?_⟩
  have e1 := Ex.new (o := .tup [.str "name", .str "reserved"]) hp1
  unfold needI at kq
  refine iteD (fun c => ?_) fun c => ?_
  · have c : t.1 = "name" ∨ t.1 = "reserved" := by simpa using c
    rw [if_pos c] at kq
    refine ⟨_, rfl, ixt (e1 _ _ hb) ix0 ⟨by show 3 ≤ sizeLine; decide, fun p2 hp2 => ?_⟩⟩
    refine in_str (ss := ["name", "reserved", "integer"]) upd_same ?_
    have e : decide (u.1 ∈ (["name", "reserved", "integer"] : List Str)) = decide (u.1 = "name" ∨ u.1 = "reserved" ∨ u.1 = "integer") := by simp
    rw [e]
    exact kq _ (e1.trans (Ex.new hp2))
  have c : ¬ (t.1 = "name" ∨ t.1 = "reserved") := by simpa using c
  rw [if_neg c] at kq
  refine ⟨_, rfl, ixt (e1 _ _ ha) ix0 (.inl ⟨rfl, _, rfl, ?_⟩)⟩
  refine iteD (fun c2 => ?_) fun c2 => ?_
  · have c2 : t.1 = "integer" := V.str.inj c2
    rw [if_pos c2] at kq
    refine ⟨_, rfl, ixt (e1 _ _ hb) ix0 (.inl ⟨rfl, ?_⟩)⟩
    have e : decide (V.str u.1 = V.str "integer") = decide (u.1 = "integer") := by simp
    show Q (.bl (decide (V.str u.1 = V.str "integer"))) _
    rw [e]
    exact kq _ e1
  have c2 : ¬ t.1 = "integer" := fun e => c2 (by rw [e])
  rw [if_neg c2] at kq
  refine ⟨_, rfl, ixt (e1 _ _ ha) ix1 ⟨by show 2 ≤ sizeLine; decide, fun p2 hp2 => ?_⟩⟩
  have e2 := e1.trans (Ex.new (o := .tup [.str "<", .str ">"]) hp2)
  refine in_val gt.flat (ss := ["<", ">"]) upd_same ⟨_, rfl, iteD (fun c3 => ?_) fun c3 => ?_⟩
  · refine ⟨_, rfl, ixt (e2 _ _ hb) ix1 ⟨by show 1 ≤ sizeLine; decide, fun p3 hp3 => ?_⟩⟩
    have e3 := e2.trans (Ex.new (o := .tup [.str "="]) hp3)
    have c3' : t.2.1 = V.str (tx [60]) ∨ t.2.1 = V.str (tx [62]) := by
      obtain ⟨a, ha, e⟩ := c3
      simp only [List.mem_cons, List.not_mem_nil, or_false] at ha
      rcases ha with h | h
      · exact .inl (by rw [e, h]; rfl)
      · exact .inr (by rw [e, h]; rfl)
    refine in_val gu.flat (ss := ["="]) upd_same ⟨_, rfl, iteD (fun c4 => ?_) fun c4 => ?_⟩
    · have c4' : u.2.1 = V.str (tx [61]) := by
        obtain ⟨a, ha, e⟩ := c4
        rw [e, List.mem_singleton.mp ha]; rfl
      refine ⟨_, rfl, ixt (e3 _ _ hb) ix0 (.inl ⟨rfl, ?_⟩)⟩
      have e : decide ((t.2.1 = V.str (tx [60]) ∨ t.2.1 = V.str (tx [62])) ∧ u.2.1 = V.str (tx [61]) ∧ u.1 = "symbol") = decide (V.str u.1 = V.str "symbol") := by simp [c3', c4']
      rw [e] at kq
      exact kq _ e3
    · have c4' : ¬ u.2.1 = V.str (tx [61]) := fun e => c4 ⟨"=", by simp, e⟩
      rw [decide_eq_false (fun z => c4' z.2.1)] at kq
      exact kq _ e3
  · have c3' : ¬ (t.2.1 = V.str (tx [60]) ∨ t.2.1 = V.str (tx [62])) := by
      rintro (e | e)
      · exact c3 ⟨"<", by simp, e⟩
      · exact c3 ⟨">", by simp, e⟩
    rw [decide_eq_false (fun z => c3' z.1)] at kq
    exact kq _ e2
theorem ok_l_token {f : Addr} {fd : FuncData} (F : DefK K mg "_law_token" st_l_token ["_law_stream"] f fd) (Z : Zs mg) (CG : CGs K mg) {f_l_draw : Addr} {fd_l_draw : FuncData} (D_l_draw : DefK K mg "_law_draw" st_l_draw ["_law_stream", "_law_many"] f_l_draw fd_l_draw) (G_l_draw : FnOk P w K mg base CX0 1 f_l_draw fd_l_draw ["_law_stream", "_law_many"] (sp_l_draw K)) {f_l_reserved : Addr} {fd_l_reserved : FuncData} (D_l_reserved : DefK K mg "_law_reserved" st_l_reserved [] f_l_reserved fd_l_reserved) (G_l_reserved : FnOk P w K mg base CX0 1 f_l_reserved fd_l_reserved [] (sp_l_reserved K)) {f_l_name : Addr} {fd_l_name : FuncData} (D_l_name : DefK K mg "_law_name" st_l_name ["_law_stream"] f_l_name fd_l_name) (G_l_name : FnOk P w K mg base CX0 2 f_l_name fd_l_name ["_law_stream"] (sp_l_name K)) {f_l_symbols : Addr} {fd_l_symbols : FuncData} (D_l_symbols : DefK K mg "_law_symbols" st_l_symbols [] f_l_symbols fd_l_symbols) (G_l_symbols : FnOk P w K mg base CX0 1 f_l_symbols fd_l_symbols [] (sp_l_symbols K)) :
    FnOk P w K mg base CX0 3 f fd ["_law_stream"] (sp_l_token K) := by
  refine F.fn.ok sc_l_token (fun vs H Q E h => by first | (obtain ⟨rfl, _⟩ := h; rfl) | (obtain ⟨_, rfl, _⟩ := h; rfl) | (obtain ⟨_, _, rfl, _⟩ := h; rfl) | (obtain ⟨_, _, _, rfl, _⟩ := h; rfl) | (obtain ⟨_, _, _, _, rfl, _⟩ := h; rfl) | (obtain ⟨_, _, _, _, _, rfl, _⟩ := h; rfl) | (obtain ⟨_, _, _, _, _, _, rfl, _⟩ := h; rfl) | (obtain ⟨_, _, _, _, _, _, _, rfl, _⟩ := h; rfl) | (obtain ⟨_, _, _, _, _, _, _, _, rfl, _⟩ := h; rfl) | (obtain ⟨_, _, _, _, _, _, _, _, _, rfl, _⟩ := h; rfl) | (obtain ⟨_, _, _, _, _, _, _, _, _, _, rfl, _⟩ := h; rfl) | (obtain ⟨_, _, _, _, _, _, _, _, _, _, _, rfl, _⟩ := h; rfl) | (obtain ⟨_, _, _, _, _, _, _, _, _, _, _, _, rfl, _⟩ := h; rfl) | (obtain ⟨_, _, _, _, _, _, _, _, _, _, _, _, _, rfl, _⟩ := h; rfl)) (fun cdv A outer s H vs Q E hr h => ?_)
  obtain ⟨s0, q, B, G, rfl, O, hB, kq⟩ := h
  refine ⟨_, (pss_cons (ps_set (i := 1) sc_l_token.nd rfl (.inl rfl) (pe_call G_l_draw (hr.mono (by decide)) rfl D_l_draw.mg D_l_draw.fn.kp D_l_draw.bd .nil pass0 (pa_cons (pv 0) (pa_cons pe_int pa_nil))))
      (pss_cons (ps_if (pt_cmpR (kEq (K := K) hr.units) (pv 1) pe_int (nomark _)) (pss_cons (ps_set (i := 2) sc_l_token.nd rfl (.inl rfl) (pe_ix (kIx (K := K)) (pe_lst (pa_cons pe_int (pa_cons pe_int (pa_cons pe_int (pa_cons pe_int (pa_cons pe_int (pa_cons pe_int pa_nil))))))) (pe_call G_l_draw (hr.mono (by decide)) rfl D_l_draw.mg D_l_draw.fn.kp D_l_draw.bd .nil pass0 (pa_cons (pv 0) (pa_cons pe_int pa_nil))) (fun _ _ => rfl)))
      (pss_one (ps_ret (pe_tup (pa_cons pe_str (pa_cons (pv 2) (pa_cons (pe_callTy call_str_int (by rfl) Z.str_ PyProof.Rows.Boot.«str» (pa_cons (pv 2) pa_nil)) pa_nil))))))) pss_nil)
      (pss_cons (ps_if (pt_cmpR (kEq (K := K) hr.units) (pv 1) pe_int (nomark _)) (pss_cons (ps_set (i := 3) sc_l_token.nd rfl (.inl rfl) (pe_lst (pa_cons pe_str (pa_cons pe_str (pa_cons pe_str (pa_cons pe_str (pa_cons pe_str (pa_cons pe_str (pa_cons pe_str (pa_cons pe_str (pa_cons pe_str (pa_cons pe_str (pa_cons pe_str (pa_cons pe_str (pa_cons pe_str (pa_cons pe_str (pa_cons pe_str (pa_cons pe_str pa_nil))))))))))))))))))
      (pss_cons (ps_set (i := 4) sc_l_token.nd rfl (.inl rfl) (pe_ix (kIx (K := K)) (pv 3) (pe_call G_l_draw (hr.mono (by decide)) rfl D_l_draw.mg D_l_draw.fn.kp D_l_draw.bd .nil pass0 (pa_cons (pv 0) (pa_cons pe_int pa_nil))) (fun _ _ => rfl)))
      (pss_one (ps_ret (pe_tup (pa_cons pe_str (pa_cons (pv 4) (pa_cons (pe_op (kAdd (K := K)) (pe_op (kAdd (K := K)) pe_str (pv 4)) pe_str) pa_nil)))))))) pss_nil)
      (pss_cons (ps_if (pt_cmpR (kEq (K := K) hr.units) (pv 1) pe_int (nomark _)) (pss_cons (ps_set (i := 5) sc_l_token.nd rfl (.inl rfl) (pe_ix (kIx (K := K)) (pe_call0 G_l_symbols (hr.mono (by decide)) rfl D_l_symbols.mg D_l_symbols.fn.kp D_l_symbols.bd .nil pass0) (pe_call G_l_draw (hr.mono (by decide)) rfl D_l_draw.mg D_l_draw.fn.kp D_l_draw.bd .nil pass0 (pa_cons (pv 0) (pa_cons pe_int pa_nil))) (fun _ _ => rfl)))
      (pss_one (ps_ret (pe_tup (pa_cons pe_str (pa_cons (pv 5) (pa_cons (pv 5) pa_nil))))))) pss_nil)
      (pss_cons (ps_if (pt_cmpR (kEq (K := K) hr.units) (pv 1) pe_int (nomark _)) (pss_cons (ps_set (i := 4) sc_l_token.nd rfl (.inl rfl) (pe_ix (kIx (K := K)) (pe_call0 G_l_reserved (hr.mono (by decide)) rfl D_l_reserved.mg D_l_reserved.fn.kp D_l_reserved.bd .nil pass0) (pe_call G_l_draw (hr.mono (by decide)) rfl D_l_draw.mg D_l_draw.fn.kp D_l_draw.bd .nil pass0 (pa_cons (pv 0) (pa_cons pe_int pa_nil))) (fun _ _ => rfl)))
      (pss_one (ps_ret (pe_tup (pa_cons pe_str (pa_cons (pv 4) (pa_cons (pv 4) pa_nil))))))) pss_nil)
      (pss_cons (ps_set (i := 6) sc_l_token.nd rfl (.inl rfl) (pe_op (kAdd (K := K)) (pe_ix (kIx (K := K)) (pe_call0 G_l_reserved (hr.mono (by decide)) rfl D_l_reserved.mg D_l_reserved.fn.kp D_l_reserved.bd .nil pass0) (pe_call G_l_draw (hr.mono (by decide)) rfl D_l_draw.mg D_l_draw.fn.kp D_l_draw.bd .nil pass0 (pa_cons (pv 0) (pa_cons pe_int pa_nil))) (fun _ _ => rfl)) (pe_ix (kIx (K := K)) (pe_lst (pa_cons pe_str (pa_cons pe_str (pa_cons pe_str (pa_cons pe_str pa_nil))))) (pe_call G_l_draw (hr.mono (by decide)) rfl D_l_draw.mg D_l_draw.fn.kp D_l_draw.bd .nil pass0 (pa_cons (pv 0) (pa_cons pe_int pa_nil))) (fun _ _ => rfl))))
      (pss_cons (ps_set (i := 7) sc_l_token.nd rfl (.inl rfl) (pe_ix (kIx (K := K)) (pe_lst (pa_cons (pe_call G_l_name (hr.mono (by decide)) rfl D_l_name.mg D_l_name.fn.kp D_l_name.bd .nil pass0 (pa_cons (pv 0) pa_nil)) (pa_cons (pv 6) pa_nil))) (pe_call G_l_draw (hr.mono (by decide)) rfl D_l_draw.mg D_l_draw.fn.kp D_l_draw.bd .nil pass0 (pa_cons (pv 0) (pa_cons pe_int pa_nil))) (fun _ _ => rfl)))
      (pss_one (ps_ret (pe_tup (pa_cons pe_str (pa_cons (pv 7) (pa_cons (pv 7) pa_nil))))))))))))), ?_⟩
  refine ⟨_, rfl, s0, q, _, _, 5, rfl, O, by omega, by decide, by decide, fun way H1 w0 w1 O1 => ?_⟩
  refine ⟨_, rfl, .inl ⟨rfl, _, rfl, iteV (fun c => ?_) fun c0 => ?_⟩⟩
  · refine ⟨by show 6 ≤ sizeLine; decide, fun l hl => ⟨_, rfl, s0, q, _, _, 6, rfl, O1.new hl, by omega, by decide, by decide, fun r H2 r0 r1 O2 => ?_⟩⟩
    obtain ⟨v, hv, hm⟩ := menu (n := 6) r0 r1 (vs := [.int 0, .int 1, .int 7, .int 10, .int 999999, .int 100000]) rfl
    have hvz : ∃ (z : Int) (d : List Nat), v = .int z ∧ (z, d) ∈ intOpts ∧ (toString z : Str) = tx d ∧ z.natAbs.log2 < 1920 := by
      simp only [List.mem_cons, List.not_mem_nil, or_false] at hm
      rcases hm with h | h | h | h | h | h
      · exact ⟨0, [48], h, by decide, by decide +kernel, by decide⟩
      · exact ⟨1, [49], h, by decide, by decide +kernel, by decide⟩
      · exact ⟨7, [55], h, by decide, by decide +kernel, by decide⟩
      · exact ⟨10, [49, 48], h, by decide, by decide +kernel, by decide⟩
      · exact ⟨999999, [57, 57, 57, 57, 57, 57], h, by decide, by decide +kernel, by decide⟩
      · exact ⟨100000, [49, 48, 48, 48, 48, 48], h, by decide, by decide +kernel, by decide⟩
    obtain ⟨z, d, rfl, hz, hs, hlog⟩ := hvz
    refine ixl (O2.sub _ _ upd_same) hv ?_
    have O2 := O2.weak (Ex.new (O1.sub.free hl))
    refine ⟨_, rfl, _, rfl, z, rfl, hlog, ?_⟩
    rw [hs]
    refine ⟨by show 3 ≤ sizeLine; decide, fun p hp => ?_⟩
    exact kq ("integer", .int z, d) p _ _ (.int hz) (Ex.new (O2.sub.free hp)) ((O2.new hp).more (by omega)) upd_same
  refine ⟨_, rfl, .inl ⟨rfl, _, rfl, iteV (fun c => ?_) fun c1 => ?_⟩⟩
  · refine ⟨by show 16 ≤ sizeLine; decide, fun l hl => ?_⟩
    have O2 : Ov s0 q (B + 1) (upd G l (.lst (sV wordOpts))) (upd H1 l (.lst (sV wordOpts))) := O1.new hl
    refine ⟨_, rfl, _, rfl, s0, q, _, _, 16, rfl, O2, by omega, by decide, by decide, fun r H2 r0 r1 O2 => ?_⟩
    obtain ⟨v, hv, hm⟩ := menu (n := 16) r0 r1 (vs := sV wordOpts) rfl
    obtain ⟨m, hmm, rfl⟩ := List.mem_map.mp hm
    refine ixl (O2.sub _ _ upd_same) hv ?_
    have O2 := O2.weak (Ex.new (O1.sub.free hl))
    have hml : m.length ≤ 12 := by
      have f : (wordOpts.all fun m => decide (m.length ≤ 12)) = true := by decide +kernel
      exact of_decide_eq_true (List.all_eq_true.mp f m hmm)
    refine ⟨_, rfl, _, rfl, cat_s (l := [34]) (by simp; omega) (cat_s (l := [34] ++ m) (m := [34]) (by simp; omega) ⟨by show 3 ≤ sizeLine; decide, fun p hp => ?_⟩)⟩
    exact kq ("word", .str (tx m), 34 :: (m ++ [34])) p _ _ (.word hmm) (Ex.new (O2.sub.free hp)) ((O2.new hp).more (by omega)) upd_same
  refine ⟨_, rfl, .inl ⟨rfl, _, rfl, iteV (fun c => ?_) fun c2 => ?_⟩⟩
  · refine ⟨rfl, fun l hl => ?_⟩
    refine ⟨_, rfl, s0, q, _, _, 13, rfl, O1.new hl, by omega, by decide, by decide, fun r H2 r0 r1 O2 => ?_⟩
    obtain ⟨v, hv, hm⟩ := menu (n := 13) r0 r1 (vs := sV symOpts) rfl
    obtain ⟨m, hmm, rfl⟩ := List.mem_map.mp hm
    refine ixl (O2.sub _ _ upd_same) hv ?_
    have O2 := O2.weak (Ex.new (O1.sub.free hl))
    refine ⟨_, rfl, _, rfl, by show 3 ≤ sizeLine; decide, fun p hp => ?_⟩
    exact kq ("symbol", .str (tx m), m) p _ _ (.sym hmm) (Ex.new (O2.sub.free hp)) ((O2.new hp).more (by omega)) upd_same
  refine ⟨_, rfl, .inl ⟨rfl, _, rfl, iteV (fun c => ?_) fun c3 => ?_⟩⟩
  · refine ⟨rfl, fun l hl => ?_⟩
    refine ⟨_, rfl, s0, q, _, _, 13, rfl, O1.new hl, by omega, by decide, by decide, fun r H2 r0 r1 O2 => ?_⟩
    obtain ⟨v, hv, hm⟩ := menu (n := 13) r0 r1 (vs := sV RES) rfl
    obtain ⟨m, hmm, rfl⟩ := List.mem_map.mp hm
    refine ixl (O2.sub _ _ upd_same) hv ?_
    have O2 := O2.weak (Ex.new (O1.sub.free hl))
    refine ⟨_, rfl, _, rfl, by show 3 ≤ sizeLine; decide, fun p hp => ?_⟩
    exact kq ("reserved", .str (tx m), m) p _ _ (.res hmm) (Ex.new (O2.sub.free hp)) ((O2.new hp).more (by omega)) upd_same
  -- near
  refine ⟨rfl, fun l hl => ?_⟩
  refine ⟨_, rfl, s0, q, _, _, 13, rfl, O1.new hl, by omega, by decide, by decide, fun r H2 r0 r1 O2 => ?_⟩
  obtain ⟨v, hv, hm⟩ := menu (n := 13) r0 r1 (vs := sV RES) rfl
  obtain ⟨m, hmm, rfl⟩ := List.mem_map.mp hm
  refine ixl (O2.sub _ _ upd_same) hv ?_
  have O2 := O2.weak (Ex.new (O1.sub.free hl))
  refine ⟨by show 4 ≤ sizeLine; decide, fun l3 hl3 => ?_⟩
  have O3 : Ov s0 q (B + 2) (upd G l3 (.lst (sV [[115], [95], [49], [99, 111, 117, 110, 116]]))) (upd H2 l3 (.lst (sV [[115], [95], [49], [99, 111, 117, 110, 116]]))) := O2.new hl3
  refine ⟨_, rfl, s0, q, _, _, 4, rfl, O3, by omega, by decide, by decide, fun r2 H3 r20 r21 O3 => ?_⟩
  obtain ⟨v2, hv2, hm2⟩ := menu (n := 4) r20 r21 (vs := sV [[115], [95], [49], [99, 111, 117, 110, 116]]) rfl
  obtain ⟨m2, hmm2, rfl⟩ := List.mem_map.mp hm2
  refine ixl (O3.sub _ _ upd_same) hv2 ?_
  have O3 := O3.weak (Ex.new (O2.sub.free hl3))
  have near : NameOk (m ++ m2) ∧ m ++ m2 ∉ RES := by
    have f : (RES.all fun a => ([[115], [95], [49], [99, 111, 117, 110, 116]] : List (List Nat)).all fun b => ((a ++ b).head?.any fun c => decide (c ∈ LET)) && ((a ++ b).all fun c => decide (c ∈ NCH)) && decide ((a ++ b).length ≤ 12) && !decide (a ++ b ∈ RES)) = true := by decide +kernel
    have f := List.all_eq_true.mp (List.all_eq_true.mp f m hmm) m2 hmm2
    simp only [Bool.and_eq_true, Bool.not_eq_true', decide_eq_true_eq, decide_eq_false_iff_not, List.all_eq_true] at f
    obtain ⟨⟨⟨f1, f2⟩, f3⟩, f4⟩ := f
    refine ⟨⟨?_, f2, f3⟩, f4⟩
    cases hh : m ++ m2 with
    | nil => rw [hh] at f1; simp at f1
    | cons c t => rw [hh] at f1; exact ⟨c, t, rfl, by simpa using f1⟩
  refine cat_s (by have := near.1.2.2; rw [List.length_append] at this; omega) ?_
  refine ⟨_, rfl, s0, q, _, _, rfl, O3, by omega, fun m4 H4 ok4 nr4 O4 => ?_⟩
  refine ⟨_, rfl, by show 2 ≤ sizeLine; decide, fun l5 hl5 => ?_⟩
  have O5 : Ov s0 q (B + 3 + 13) (upd G l5 (.lst (sV [m4, m ++ m2]))) (upd H4 l5 (.lst (sV [m4, m ++ m2]))) := O4.new hl5
  refine ⟨_, rfl, s0, q, _, _, 2, rfl, O5, by omega, by decide, by decide, fun r6 H6 r60 r61 O6 => ?_⟩
  obtain ⟨v6, hv6, hm6⟩ := menu (n := 2) r60 r61 (vs := sV [m4, m ++ m2]) rfl
  obtain ⟨m6, hmm6, rfl⟩ := List.mem_map.mp hm6
  refine ixl (O6.sub _ _ upd_same) hv6 ?_
  have O6 := O6.weak (Ex.new (O4.sub.free hl5))
  refine ⟨_, rfl, _, rfl, by show 3 ≤ sizeLine; decide, fun p hp => ?_⟩
  refine kq ("name", .str (tx m6), m6) p _ _ ?_ (Ex.new (O6.sub.free hp)) ((O6.new hp).more (by omega)) upd_same
  simp only [List.mem_cons, List.not_mem_nil, or_false] at hmm6
  rcases hmm6 with h | h <;> subst h
  · exact .name ok4 nr4
  · exact .name near.1 near.2
end
end K48

set_option maxHeartbeats 4000000
namespace K48
open PySem PySem.Spec PyProof.Rows L2 Hg
/-- the law's tokens lie in a list -/
def Toks (H : Hp) (xs : List V) (ts : List Tok3) : Prop := xs.length = ts.length ∧ ∀ (i : Nat) (x : V) (t : Tok3), xs[i]? = some x → ts[i]? = some t → ∃ a, x = .ref a ∧ G3 t ∧ H a = some (.tup [.str t.1, t.2.1, .str (tx t.2.2)])
theorem Toks.mono {H H' : Hp} {xs : List V} {ts : List Tok3} (h : Toks H xs ts) (k : ∀ a ys, H a = some (.tup ys) → H' a = some (.tup ys)) : Toks H' xs ts := ⟨h.1, fun i x t h1 h2 => by obtain ⟨a, e, g, z⟩ := h.2 i x t h1 h2; exact ⟨a, e, g, k _ _ z⟩⟩
theorem Toks.nil {H : Hp} : Toks H [] [] := ⟨rfl, fun i x t h => by simp at h⟩
theorem Toks.snoc {H : Hp} {xs : List V} {ts : List Tok3} (h : Toks H xs ts) {a : Addr} {t : Tok3} (g : G3 t) (ha : H a = some (.tup [.str t.1, t.2.1, .str (tx t.2.2)])) : Toks H (xs ++ [.ref a]) (ts ++ [t]) := by
  refine ⟨by simp [h.1], fun i x u h1 h2 => ?_⟩
  by_cases hi : i < xs.length
  · rw [List.getElem?_append_left hi] at h1
    rw [List.getElem?_append_left (by rw [← h.1]; exact hi)] at h2
    exact h.2 i x u h1 h2
  · rw [List.getElem?_append_right (by omega)] at h1
    rw [List.getElem?_append_right (by rw [← h.1]; omega)] at h2
    have e : i - xs.length = 0 := by
      have := (List.getElem?_eq_some_iff.mp h1).1
      simp at this; omega
    rw [← h.1, e] at h2
    rw [e] at h1
    cases h1
    cases h2
    exact ⟨a, rfl, g, ha⟩
theorem Toks.take {H : Hp} {xs : List V} {ts : List Tok3} (h : Toks H xs ts) (n : Nat) : Toks H (xs.take n) (ts.take n) := by
  refine ⟨by simp [h.1], fun i x u h1 h2 => ?_⟩
  rw [List.getElem?_take] at h1 h2
  split at h1
  · rename_i hi
    rw [if_pos hi] at h2
    exact h.2 i x u h1 h2
  · cases h1
theorem Toks.get {H : Hp} {xs : List V} {ts : List Tok3} (h : Toks H xs ts) {i : Nat} (hi : i < xs.length) : ∃ a t, xs[i]? = some (.ref a) ∧ ts[i]? = some t ∧ G3 t ∧ H a = some (.tup [.str t.1, t.2.1, .str (tx t.2.2)]) := by
  have hi' : i < ts.length := by rw [← h.1]; exact hi
  obtain ⟨a, e, g, z⟩ := h.2 i _ _ (List.getElem?_eq_getElem hi) (List.getElem?_eq_getElem hi')
  exact ⟨a, ts[i], by rw [List.getElem?_eq_getElem hi, e], List.getElem?_eq_getElem hi', g, z⟩
def tz (ts : List Tok3) (ps : List Nat) : List Tk := List.zipWith (fun t p => (t.1, t.2.1, p)) ts ps
theorem tz_snoc {ts : List Tok3} {ps : List Nat} {t : Tok3} {p : Nat} (h : ts.length = ps.length) : tz (ts ++ [t]) (ps ++ [p]) = tz ts ps ++ [(t.1, t.2.1, p)] := by
  unfold tz
  rw [List.zipWith_append h]
  rfl
theorem g3_len {k : Str} {v : V} {m : List Nat} (h : GT k v m) : m.length ≤ 14 := by
  cases h with
  | int h =>
    have f : (intOpts.all fun p => decide (p.2.length ≤ 14)) = true := by decide +kernel
    exact of_decide_eq_true (List.all_eq_true.mp f _ h)
  | word h =>
    have f : (wordOpts.all fun p => decide (p.length ≤ 12)) = true := by decide +kernel
    have f := of_decide_eq_true (List.all_eq_true.mp f _ h)
    simp
    omega
  | sym h =>
    have f : (symOpts.all fun p => decide (p.length ≤ 14)) = true := by decide +kernel
    exact of_decide_eq_true (List.all_eq_true.mp f _ h)
  | res h => exact Nat.le_trans (nameOk_res _ h).2.2 (by decide)
  | name h _ => exact Nat.le_trans h.2.2 (by decide)
theorem joinP {P : Nat → Hp → Prop} {A : Prop} (C : Nat → Hp → Prop) (main : (∀ m H, C m H → P m H) → A) (tail : ∀ m H, C m H → P m H) : A := main tail
def sp_l_text (_ : PySem.W.Frag) : Sp := fun vs H Q _ => ∃ (s q L : Addr) (B : Nat) (G : Hp) (xs : List V) (ts : List Tok3), vs = [.ref s, .ref L] ∧ Ov s q B G H ∧ B < 600000 ∧ G L = some (.lst xs) ∧ Toks G xs ts ∧ xs.length ≤ 25 ∧
  ∀ (T : List Nat) (ps : List Nat) (r pl : Addr) (G' H' : Hp), Ex G G' → Ov s q (B + 60) G' H' → G' r = some (.lst [.str (tx T), .ref pl]) → G' pl = some (.lst (ps.map fun p => V.int ((p : Nat) : Int))) → ps.length = xs.length → T.length ≤ 500 → Lexes 0 T (tz ts ps) → Q (.ref r) H'
section
variable {P : Program} {w : World} {K : PySem.W.Frag} {mg : Str → Option Value} {base : Heap}
theorem ok_l_text {f : Addr} {fd : FuncData} (F : DefK K mg "_law_text" st_l_text ["_law_stream", "_law_some"] f fd) (Z : Zs mg) (CG : CGs K mg) {f_l_draw : Addr} {fd_l_draw : FuncData} (D_l_draw : DefK K mg "_law_draw" st_l_draw ["_law_stream", "_law_many"] f_l_draw fd_l_draw) (G_l_draw : FnOk P w K mg base CX0 1 f_l_draw fd_l_draw ["_law_stream", "_law_many"] (sp_l_draw K)) {f_l_need_space : Addr} {fd_l_need_space : FuncData} (D_l_need_space : DefK K mg "_law_need_space" st_l_need_space ["_law_one", "_law_other"] f_l_need_space fd_l_need_space) (G_l_need_space : FnOk P w K mg base CX0 1 f_l_need_space fd_l_need_space ["_law_one", "_law_other"] (sp_l_need_space K)) :
    FnOk P w K mg base CX0 2 f fd ["_law_stream", "_law_some"] (sp_l_text K) := by
  refine F.fn.ok sc_l_text (fun vs H Q E h => by first | (obtain ⟨rfl, _⟩ := h; rfl) | (obtain ⟨_, rfl, _⟩ := h; rfl) | (obtain ⟨_, _, rfl, _⟩ := h; rfl) | (obtain ⟨_, _, _, rfl, _⟩ := h; rfl) | (obtain ⟨_, _, _, _, rfl, _⟩ := h; rfl) | (obtain ⟨_, _, _, _, _, rfl, _⟩ := h; rfl) | (obtain ⟨_, _, _, _, _, _, rfl, _⟩ := h; rfl) | (obtain ⟨_, _, _, _, _, _, _, rfl, _⟩ := h; rfl) | (obtain ⟨_, _, _, _, _, _, _, _, rfl, _⟩ := h; rfl) | (obtain ⟨_, _, _, _, _, _, _, _, _, rfl, _⟩ := h; rfl) | (obtain ⟨_, _, _, _, _, _, _, _, _, _, rfl, _⟩ := h; rfl) | (obtain ⟨_, _, _, _, _, _, _, _, _, _, _, rfl, _⟩ := h; rfl) | (obtain ⟨_, _, _, _, _, _, _, _, _, _, _, _, rfl, _⟩ := h; rfl) | (obtain ⟨_, _, _, _, _, _, _, _, _, _, _, _, _, rfl, _⟩ := h; rfl)) (fun cdv A outer s H vs Q E hr h => ?_)
  obtain ⟨s0, q, L, B, G, xs, ts, rfl, O, hB, hL, hT, hx, kq⟩ := h
  refine ⟨_, (pss_cons (ps_set (i := 2) sc_l_text.nd rfl (.inl rfl) (pe_op op_mulS pe_str (pe_ix (kIx (K := K)) (pe_lst (pa_cons pe_int (pa_cons pe_int (pa_cons pe_int (pa_cons pe_int pa_nil))))) (pe_call G_l_draw (hr.mono (by decide)) rfl D_l_draw.mg D_l_draw.fn.kp D_l_draw.bd .nil pass0 (pa_cons (pv 0) (pa_cons pe_int pa_nil))) (fun _ _ => rfl))))
      (pss_cons (ps_set (i := 3) sc_l_text.nd rfl (.inl rfl) (pe_lst pa_nil))
      (pss_cons (ps_for PassesOwn.never rfl (pi_range1 (by rfl) Z.range_ (pa_cons (pe_callB (kLen (K := K)) (by rfl) Z.len_ PyProof.Rows.Boot.«len» (pa_cons (pv 1) pa_nil)) pa_nil)) (pg_name (i := 4) sc_l_text.nd rfl (.inl rfl)) (pss_cons (ps_set (i := 5) sc_l_text.nd rfl (.inl rfl) (pe_ix (kIx (K := K)) (pe_lst (pa_cons pe_int (pa_cons pe_int (pa_cons pe_int (pa_cons pe_int (pa_cons pe_int pa_nil)))))) (pe_call G_l_draw (hr.mono (by decide)) rfl D_l_draw.mg D_l_draw.fn.kp D_l_draw.bd .nil pass0 (pa_cons (pv 0) (pa_cons pe_int pa_nil))) (fun _ _ => rfl)))
      (pss_cons (ps_if (PW.pt (pw_and (pt_cmpR op_gt (pv 4) pe_int (nomark _)) (pw_and1 (pt_val (pe_call G_l_need_space (hr.mono (by decide)) rfl D_l_need_space.mg D_l_need_space.fn.kp D_l_need_space.bd .nil pass0 (pa_cons (pe_ix (kIx (K := K)) (pv 1) (pe_op op_sub (pv 4) pe_int) (fun _ _ => rfl)) (pa_cons (pe_ix (kIx (K := K)) (pv 1) (pv 4) (fun _ _ => rfl)) pa_nil))))))) (pss_one (ps_set (i := 5) sc_l_text.nd rfl (.inl rfl) (pe_callB (call_max2 rfl) (by rfl) Z.max_ PyProof.Rows.Boot.«max» (pa_cons pe_int (pa_cons (pv 5) pa_nil))))) pss_nil)
      (pss_cons (ps_set (i := 2) sc_l_text.nd rfl (.inl rfl) (pe_op (kAdd (K := K)) (pv 2) (pe_op op_mulS pe_str (pe_op oMul (pv 5) (pe_callTy call_int1 (by rfl) Z.int_ PyProof.Rows.Boot.«int» (pa_cons (pe_cmpR op_gt (pv 4) pe_int (nomark _)) pa_nil))))))
      (pss_cons (ps_expr (pe_bm PySem.F.plainAttrs_list PySem.F.slot_list_append PySem.F.type_list_append mt_append (pv 3) (pa_cons (pe_callB call_len_str (by rfl) Z.len_ PyProof.Rows.Boot.«len» (pa_cons (pv 2) pa_nil)) pa_nil)))
      (pss_one (ps_set (i := 2) sc_l_text.nd rfl (.inl rfl) (pe_op (kAdd (K := K)) (pv 2) (pe_ix (kIx (K := K)) (pe_ix (kIx (K := K)) (pv 1) (pv 4) (fun _ _ => rfl)) pe_int (fun _ _ => rfl))))))))))
      (pss_one (ps_ret (pe_lst (pa_cons (pe_op (kAdd (K := K)) (pv 2) (pe_op op_mulS pe_str (pe_ix (kIx (K := K)) (pe_lst (pa_cons pe_int (pa_cons pe_int (pa_cons pe_int (pa_cons pe_int pa_nil))))) (pe_call G_l_draw (hr.mono (by decide)) rfl D_l_draw.mg D_l_draw.fn.kp D_l_draw.bd .nil pass0 (pa_cons (pv 0) (pa_cons pe_int pa_nil))) (fun _ _ => rfl)))) (pa_cons (pv 3) pa_nil)))))))), ?_⟩
  refine ⟨by show 4 ≤ sizeLine; decide, fun l hl => ⟨_, rfl, s0, q, _, _, 4, rfl, O.new hl, by omega, by decide, by decide, fun r H1 r0 r1 O1 => ?_⟩⟩
  obtain ⟨v, hv, hm⟩ := menu (n := 4) r0 r1 (vs := [.int 0, .int 0, .int 0, .int 2]) rfl
  obtain ⟨m0, rfl, hm0⟩ : ∃ m0 : Nat, v = .int (m0 : Int) ∧ m0 ≤ 2 := by
    simp only [List.mem_cons, List.not_mem_nil, or_false] at hm
    rcases hm with h | h | h | h
    · exact ⟨0, h, by decide⟩
    · exact ⟨0, h, by decide⟩
    · exact ⟨0, h, by decide⟩
    · exact ⟨2, h, by decide⟩
  refine ixl (O1.sub _ _ upd_same) hv ?_
  have O1 := O1.weak (Ex.new (O.sub.free hl))
  refine ⟨[32], m0, rfl, rfl, by decide, by omega, ?_⟩
  rw [rep1]
  refine ⟨Nat.zero_le _, fun pl hpl => ?_⟩
  have npl := O1.ns hpl
  have gpl : G pl = none := O1.sub.free hpl
  have O1 : Ov s0 q (B + 1) G (upd H1 pl (.lst [])) := O1.drop hpl
  have hL1 : ∀ {B' : Nat} {H' : Hp}, Ov s0 q B' G H' → H' L = some (.lst xs) := fun O => O.sub _ _ hL
  refine ⟨_, rfl, L, xs, rfl, .inl (SqL.of (hL1 O1)), ?_⟩
  refine ⟨(xs.length : Int), rfl, by omega, by omega, ?_⟩
  rw [Int.toNat_natCast]
  refine for_it (walk_range (lo := 0) (n := xs.length)) (fun j σ H' => ∃ (U : List Nat) (ps : List Nat) (last : Option Tok3) (v4 v5 : Option V), σ = [some (.ref s0), some (.ref L), some (.str (tx U)), some (.ref pl), v4, v5] ∧ Ov s0 q (B + 1 + j) G H' ∧ H' pl = some (.lst (ps.map fun p => V.int ((p : Nat) : Int))) ∧ ps.length = j ∧ U.length ≤ 2 + 17 * j ∧ Built last U (tz (ts.take j) ps) ∧ (∀ a, last = some a → 0 < j ∧ ts[j - 1]? = some a))
    ⟨List.replicate m0 32, [], none, _, _, rfl, O1, upd_same, rfl, by rw [List.length_replicate]; omega, Built.start m0, fun a h => by cases h⟩ (fun _ _ _ _ _ => trivial) (fun j x σ H' H6 hj p y => ?_) (fun σ H' p => ?_)
  · obtain ⟨U, ps, last, v4, v5, rfl, O2, hps, hpl2, hU, hB2, hlast⟩ := p
    obtain ⟨rfl, rfl⟩ := y
    show gName 4 (V.int (0 + (j : Int))) _ _ _
    rw [Int.zero_add]
    refine ⟨by show 5 ≤ sizeLine; decide, fun l5 hl5 => ?_⟩
    have n5 := O2.ns hl5
    have O3 := (O2.drop (o := .lst [.int 0, .int 0, .int 1, .int 1, .int 3]) hl5)
    refine ⟨_, rfl, s0, q, _, _, 5, rfl, O3.all.1, by omega, by decide, by decide, fun r H3 r0 r1 O4 => ?_⟩
    have h5 := O4.l n5.1 n5.2 upd_same
    have hps3 := O4.l npl.1 npl.2 ((upd_ne (ne_of_none hps hl5)).trans hps)
    have O5 := O3.g O4
    obtain ⟨v, hv, hm⟩ := menu (n := 5) r0 r1 (vs := [.int 0, .int 0, .int 1, .int 1, .int 3]) rfl
    obtain ⟨z, rfl, hz⟩ : ∃ z : Nat, v = .int (z : Int) ∧ z ≤ 3 := by
      simp only [List.mem_cons, List.not_mem_nil, or_false] at hm
      rcases hm with h | h | h | h | h
      · exact ⟨0, h, by decide⟩
      · exact ⟨0, h, by decide⟩
      · exact ⟨1, h, by decide⟩
      · exact ⟨1, h, by decide⟩
      · exact ⟨3, h, by decide⟩
    refine ixl h5 hv ?_
    obtain ⟨a, t, hxa, hta, gt, ha⟩ := hT.get hj
    have T5 := hT.mono fun a ys h => O5.sub _ _ h
    refine joinP (P := ?P) (fun m H7 => m ≤ 3 ∧ (∀ b, last = some b → G3 b ∧ (needI b t = true → 0 < (if 0 < j then m else 0))) ∧ Ov s0 q (B + 1 + (j + 1)) G H7 ∧ H7 pl = some (.lst (ps.map fun p => V.int ((p : Nat) : Int)))) (fun tail => ?_) ?_
    rotate_left
    · refine ⟨_, rfl, _, _, rfl, rfl, _, rfl, iteD (fun c1 => ?_) fun c1 => iteF ?_⟩
      · have hj0 : 0 < j := by omega
        obtain ⟨b, u, hxb, hub, gu, hb⟩ := hT.get (i := j - 1) (by omega)
        have ej : ((j : Int) - 1) = ((j - 1 : Nat) : Int) := by omega
        refine ⟨_, rfl, _, rfl, _, _, rfl, rfl, ?_⟩
        show rIx K (.ref L) (.int ((j : Int) - 1)) _ _
        rw [ej]
        refine ixl (hL1 O5) (atI_nat hxb) ⟨_, rfl, _, rfl, ixl (hL1 O5) (atI_nat hxa) ⟨b, a, u, t, rfl, gu, gt, O5.sub _ _ hb, O5.sub _ _ ha, fun H7 e7 => ⟨_, rfl, iteB (fun c2 => ?_) fun c2 => ?_⟩⟩⟩
        · refine ⟨_, rfl, 1, _, rfl, ?_⟩
          have em : (if (z : Int) > 1 then (z : Int) else 1) = ((max 1 z : Nat) : Int) := by split <;> omega
          rw [em]
          have hm3 : max 1 z ≤ 3 := by omega
          have hm1 : 1 ≤ max 1 z := by omega
          revert hm3 hm1
          generalize max 1 z = m
          intro hm3 hm1
          exact tail m H7 ⟨hm3, fun b hb => by
            have hb := (hlast b hb).2
            rw [hub] at hb
            cases hb
            exact ⟨gu, fun _ => by rw [if_pos hj0]; omega⟩, (O5.ex e7).more (by omega), e7 _ _ hps3⟩
        · exact tail z H7 ⟨hz, fun b hb => by
            have hb := (hlast b hb).2
            rw [hub] at hb
            cases hb
            exact ⟨gu, fun h => by rw [c2] at h; cases h⟩, (O5.ex e7).more (by omega), e7 _ _ hps3⟩
      · exact tail z H3 ⟨hz, fun b hb => absurd (hlast b hb).1 (by omega), O5.more (by omega), hps3⟩
    · rintro m H7 ⟨hm3, hneed, O7, hp7⟩
      have em : (m : Int) * (if decide ((0 : Int) < (j : Int)) = true then 1 else 0) = ((if 0 < j then m else 0 : Nat) : Int) := by
        by_cases h : 0 < j
        · rw [if_pos h, decide_eq_true (by omega), if_pos rfl, Int.mul_one]
        · rw [if_neg h, decide_eq_false (by omega), if_neg Bool.false_ne_true, Int.mul_zero]; rfl
      have hk3 : (if 0 < j then m else 0) ≤ 3 := by split <;> omega
      revert hneed em hk3
      generalize (if 0 < j then m else 0) = k
      intro hneed em hk3
      refine ⟨_, rfl, _, rfl, _, rfl, _, _, rfl, rfl, .inr ⟨_, rfl, _, _, rfl, rfl, ?_, [32], k, rfl, congrArg V.int em, by decide, by omega, ?_⟩⟩
      · refine wide_mul (a := 10) (b := 10) (by omega) ?_ (by decide) (by decide) (by decide)
        split <;> decide
      rw [rep1]
      refine cat_s (by rw [List.length_replicate]; omega) ?_
      have lU : (U ++ List.replicate k 32).length = U.length + k := by rw [List.length_append, List.length_replicate]
      refine ⟨_, rfl, .inl ⟨rfl, _, SqL.of hp7⟩, _, rfl, _, rfl, by rw [tx_len, lU, sizeLine_eq]; omega, pl, _, _, rfl, rfl, hp7, by rw [List.length_map, sizeLine_eq]; omega, ?_⟩
      have O8 := O7.mut (o := .lst ((ps.map fun p => V.int ((p : Nat) : Int)) ++ [V.int ((tx (U ++ List.replicate k 32)).length : Int)])) gpl npl.1 npl.2
      have lt := g3_len gt
      refine ⟨_, rfl, _, rfl, _, rfl, ixl (hL1 O8) (atI_nat hxa) (ixt (O8.sub _ _ ha) (atI_nat (j := 2) rfl) (cat_s (by rw [lU]; omega) ?_))⟩
      have htl : ts.length = xs.length := hT.1.symm
      refine ⟨U ++ List.replicate k 32 ++ t.2.2, ps ++ [U.length + k], some t, _, _, rfl, O8, ?_, by rw [List.length_append, hpl2]; rfl, by rw [List.length_append, lU]; omega, ?_, fun b hb => ?_⟩
      · rw [List.map_append]
        have : (tx (U ++ List.replicate k 32)).length = U.length + k := by rw [tx_len, lU]
        rw [this] at O8 ⊢
        exact upd_same
      · rw [List.take_succ, hta, Option.toList_some, tz_snoc (by rw [List.length_take, hpl2]; omega)]
        exact hB2.step gt hneed
      · cases hb
        exact ⟨by omega, hta⟩
  · obtain ⟨U, ps, last, v4, v5, rfl, O2, hps, hpl2, hU, hB2, hlast⟩ := p
    refine ⟨_, rfl, by show 4 ≤ sizeLine; decide, fun l9 hl9 => ?_⟩
    have n9 := O2.ns hl9
    have O3 := (O2.drop (o := .lst [.int 0, .int 0, .int 0, .int 2]) hl9)
    refine ⟨_, rfl, s0, q, _, _, 4, rfl, O3.all.1, by omega, by decide, by decide, fun r H3 r0 r1 O4 => ?_⟩
    have h9 := O4.l n9.1 n9.2 upd_same
    have hps3 := O4.l npl.1 npl.2 ((upd_ne (ne_of_none hps hl9)).trans hps)
    have O5 := O3.g O4
    obtain ⟨v, hv, hm⟩ := menu (n := 4) r0 r1 (vs := [.int 0, .int 0, .int 0, .int 2]) rfl
    obtain ⟨m9, rfl, hm9⟩ : ∃ m9 : Nat, v = .int (m9 : Int) ∧ m9 ≤ 2 := by
      simp only [List.mem_cons, List.not_mem_nil, or_false] at hm
      rcases hm with h | h | h | h
      · exact ⟨0, h, by decide⟩
      · exact ⟨0, h, by decide⟩
      · exact ⟨0, h, by decide⟩
      · exact ⟨2, h, by decide⟩
    refine ixl h9 hv ⟨[32], m9, rfl, rfl, by decide, by omega, ?_⟩
    rw [rep1]
    refine cat_s (by rw [List.length_replicate]; omega) ⟨_, rfl, by show 2 ≤ sizeLine; decide, fun r hr => ?_⟩
    have nr := O5.ns hr
    obtain ⟨O6, e6⟩ := (O5.drop (o := .lst [.str (tx (U ++ List.replicate m9 32)), .ref pl]) hr).all
    refine kq (U ++ List.replicate m9 32) ps r pl _ _ e6 (O6.more (by omega)) ((beside_of nr.1 nr.2).trans upd_same) ((beside_of npl.1 npl.2).trans ((upd_ne (ne_of_none hps3 hr)).trans hps3)) hpl2 (by rw [List.length_append, List.length_replicate]; omega) ?_
    have := hB2.done m9
    rwa [List.take_of_length_le (by rw [hT.1]; exact Nat.le_refl _)] at this
end
end K48

set_option maxHeartbeats 4000000
namespace K48
open PySem PySem.Spec PyProof.Rows L2 Hg
/-! ### the data that is shown -/
def SmV (v : V) : Prop := (∃ m : List Nat, v = .str (tx m) ∧ m.length ≤ 20 ∧ ∀ c ∈ m, c < 200) ∨ ∃ i : Int, v = .int i ∧ i.natAbs < 1000000
def Sm (t : Tk) : Prop := t.1 ∈ (["integer", "word", "symbol", "reserved", "name"] : List Str) ∧ SmV t.2.1 ∧ t.2.2 ≤ 1000
theorem log_lt {n k : Nat} (h : n < 2 ^ k) (hk : 0 < k) : n.log2 < k := by
  by_cases h0 : n = 0
  · subst h0; simpa using hk
  · exact (Nat.log2_lt h0).mpr h
theorem str_facts {m : List Nat} (h : ∀ c ∈ m, c < 200) : (PyData.str (tx m)).leavesShort 13 = true := by
  show ((tx m).cps.toList.all fun c => decide (c < 16 ^ 8)) = true
  rw [List.all_eq_true]
  intro c hc
  have := h c (by simpa using hc)
  exact decide_eq_true (Nat.lt_of_lt_of_le this (by decide))
theorem int_facts {i : Int} (h : i.natAbs < 1000000) : (PyData.int i).leavesShort 13 = true ∧ (PyData.int i).showable = true ∧ (PyData.int i).weight ≤ 20 := by
  have hlog : i.natAbs.log2 < 20 := log_lt (Nat.lt_of_lt_of_le h (by decide)) (by decide)
  refine ⟨decide_eq_true (PyData.shown_int_le (Nat.lt_of_lt_of_le h (by decide))), decide_eq_true (by omega), ?_⟩
  show (if i == 0 then 0 else i.natAbs.log2 + 1) ≤ 20
  split <;> omega
theorem tk_facts {t : Tk} (h : Sm t) : (tkD t).leavesShort 13 = true ∧ (tkD t).showable = true ∧ (tkD t).weight ≤ 100 ∧ (tkD t).hasDict = false ∧ (tkD t).depth ≤ 1 := by
  obtain ⟨k, v, p⟩ := t
  obtain ⟨hk, hv, hp⟩ := h
  change k ∈ _ at hk
  change SmV v at hv
  change p ≤ 1000 at hp
  have kk : (PyData.str k).leavesShort 13 = true ∧ (PyData.str k).weight ≤ 10 := by
    simp only [List.mem_cons, List.not_mem_nil, or_false] at hk
    rcases hk with h | h | h | h | h <;> subst h <;> exact ⟨by decide +kernel, by decide +kernel⟩
  have vv : (vD v).leavesShort 13 = true ∧ (vD v).showable = true ∧ (vD v).weight ≤ 20 ∧ (vD v).hasDict = false ∧ (vD v).depth = 0 := by
    rcases hv with ⟨m, rfl, hl, hc⟩ | ⟨i, rfl, hi⟩
    · refine ⟨str_facts hc, rfl, ?_, rfl, rfl⟩
      show (tx m).cps.size ≤ 20
      simpa using hl
    · obtain ⟨a, b, c⟩ := int_facts hi
      exact ⟨a, b, c, rfl, rfl⟩
  have pp := int_facts (i := (p : Int)) (by omega)
  unfold tkD
  dsimp only
  simp only [PyData.leavesShort, PyData.leavesShortAll, PyData.showable, PyData.showableAll, PyData.weight, PyData.weightAll, PyData.hasDict, PyData.hasDictAll, PyData.depth, PyData.depthAll, Bool.and_eq_true, Bool.or_eq_false_iff]
  simp only [PyData.leavesShort, PyData.showable, PyData.weight] at kk pp
  refine ⟨⟨kk.1, vv.1, pp.1, trivial⟩, ⟨trivial, vv.2.1, pp.2.1, trivial⟩, ?_, ⟨trivial, vv.2.2.2.1, trivial, trivial⟩, ?_⟩
  · have := vv.2.2.1
    omega
  · rw [vv.2.2.2.2]
    decide
theorem all_facts : ∀ {ts : List Tk}, (∀ t ∈ ts, Sm t) → PyData.leavesShortAll 13 (ts.map tkD) = true ∧ PyData.showableAll (ts.map tkD) = true ∧ PyData.weightAll (ts.map tkD) ≤ 101 * ts.length ∧ PyData.hasDictAll (ts.map tkD) = false ∧ PyData.depthAll (ts.map tkD) ≤ 1
  | [], _ => ⟨rfl, rfl, Nat.le_refl _, rfl, by decide⟩
  | t :: ts, h => by
    obtain ⟨a1, a2, a3, a4, a5⟩ := tk_facts (h t (by simp))
    obtain ⟨b1, b2, b3, b4, b5⟩ := all_facts (ts := ts) fun u hu => h u (by simp [hu])
    simp only [List.map_cons, PyData.leavesShortAll, PyData.showableAll, PyData.weightAll, PyData.hasDictAll, PyData.depthAll, List.length_cons]
    refine ⟨by rw [a1, b1]; rfl, by rw [a2, b2]; rfl, by omega, by rw [a4, b4]; rfl, by omega⟩
theorem data_ok {ts : List Tk} (h : ∀ t ∈ ts, Sm t) (hl : ts.length ≤ 30) : (PyData.list (ts.map tkD)).showable = true ∧ (PyData.list (ts.map tkD)).hasDict = false ∧ (PyData.list (ts.map tkD)).depth ≤ 20 ∧ (PyData.list (ts.map tkD)).shown.length ≤ sizeLine := by
  obtain ⟨b1, b2, b3, b4, b5⟩ := all_facts h
  refine ⟨b2, b4, ?_, PyData.shown_fits (B := 13) (by decide) (by decide) b1 ?_⟩
  · show PyData.depthAll (ts.map tkD) + 1 ≤ 20
    omega
  · show PyData.weightAll (ts.map tkD) ≤ 2 ^ 20
    have : (2 : Nat) ^ 20 = 1048576 := by decide
    omega
theorem nameOk_sm {m : List Nat} (h : NameOk m) : SmV (.str (tx m)) := by
  have f : ∀ c ∈ NCH, c < 200 := by decide +kernel
  exact .inl ⟨m, rfl, Nat.le_trans h.2.2 (by decide), fun c hc => f c (h.2.1 c hc)⟩
theorem gt_sm {k : Str} {v : V} {m : List Nat} (h : GT k v m) : k ∈ (["integer", "word", "symbol", "reserved", "name"] : List Str) ∧ SmV v := by
  cases h with
  | int h =>
    have f : (intOpts.all fun p => decide (p.1.natAbs < 1000000)) = true := by decide +kernel
    exact ⟨by simp, .inr ⟨_, rfl, of_decide_eq_true (List.all_eq_true.mp f _ h)⟩⟩
  | word h =>
    rename_i m
    have f : (wordOpts.all fun p => decide (p.length ≤ 20) && p.all fun c => decide (c < 200)) = true := by decide +kernel
    have f := List.all_eq_true.mp f _ h
    simp only [Bool.and_eq_true, decide_eq_true_eq, List.all_eq_true] at f
    exact ⟨by simp, .inl ⟨m, rfl, f.1, f.2⟩⟩
  | sym h =>
    have f : (symOpts.all fun p => decide (p.length ≤ 20) && p.all fun c => decide (c < 200)) = true := by decide +kernel
    have f := List.all_eq_true.mp f _ h
    simp only [Bool.and_eq_true, decide_eq_true_eq, List.all_eq_true] at f
    exact ⟨by simp, .inl ⟨m, rfl, f.1, f.2⟩⟩
  | res h => exact ⟨by simp, nameOk_sm (nameOk_res _ h)⟩
  | name h _ => exact ⟨by simp, nameOk_sm h⟩
theorem lexes_lt : ∀ {i : Nat} {r : List Nat} {ks : List Tk}, Lexes i r ks → ∀ k ∈ ks, k.2.2 < i + r.length := by
  intro i r ks h
  induction h with
  | nil i => intro k hk; cases hk
  | sp h ih =>
    intro k hk
    have := ih k hk
    rw [List.length_cons]
    omega
  | tok h1 h2 h3 h4 ih =>
    rename_i i c n r k0 v ts
    intro k hk
    rw [List.length_cons]
    rcases List.mem_cons.mp hk with e | e
    · rw [e]
      show i < _
      omega
    · by_cases hn : n ≤ r.length + 1
      · have := ih k e
        rw [List.length_drop, List.length_cons] at this
        omega
      · rw [List.drop_of_length_le (by rw [List.length_cons]; omega)] at h4
        cases h4
        cases e
theorem tz_at {ts : List Tok3} {ps : List Nat} {i : Nat} {t : Tok3} {p : Nat} (h1 : ts[i]? = some t) (h2 : ps[i]? = some p) : (tz ts ps)[i]? = some (t.1, t.2.1, p) := by
  unfold tz
  rw [List.getElem?_zipWith, h1, h2]
theorem tz_len {ts : List Tok3} {ps : List Nat} (h : ts.length = ps.length) : (tz ts ps).length = ts.length := by
  unfold tz
  rw [List.length_zipWith, h, Nat.min_self]
theorem tz_sm {H : Hp} {xs : List V} {ts : List Tok3} {ps : List Nat} {T : List Nat} (h : Toks H xs ts) (hl : ts.length = ps.length) (hT : T.length ≤ 500) (hx : Lexes 0 T (tz ts ps)) : ∀ k ∈ tz ts ps, Sm k := by
  intro k hk
  have hlt := lexes_lt hx k hk
  obtain ⟨i, hi, e⟩ := List.mem_iff_getElem.mp hk
  rw [tz_len hl] at hi
  obtain ⟨a, t, _, ht, g, _⟩ := h.get (i := i) (by rw [h.1]; exact hi)
  have hp : i < ps.length := by omega
  have this := tz_at ht (List.getElem?_eq_getElem hp)
  generalize ps[i] = p at this
  rw [List.getElem?_eq_getElem (by rw [tz_len hl]; exact hi), e] at this
  have e2 := Option.some.inj this
  rw [e2] at hlt ⊢
  obtain ⟨g1, g2⟩ := gt_sm g
  exact ⟨g1, g2, by show p ≤ 1000; have : p < 0 + T.length := hlt; omega⟩
theorem spaces_lex : ∀ (m i : Nat), Lexes i (List.replicate m 32) []
  | 0, i => .nil i
  | m + 1, i => by rw [List.replicate_succ]; exact .sp (spaces_lex m (i + 1))
section
variable {P : Program} {w : World} {K : PySem.W.Frag} {mg : Str → Option Value} {base : Heap}
theorem top_law {fa : Addr} (Z : Zs mg) (CG : CGs K mg) {f_tokens : Addr} {fd_tokens : FuncData} (D_tokens : DefK K mg "tokens" st_tokens ["text"] f_tokens fd_tokens) (G_tokens : FnOk P w K mg base CX0 4 f_tokens fd_tokens ["text"] (sp_tokens K)) {f_l_draw : Addr} {fd_l_draw : FuncData} (D_l_draw : DefK K mg "_law_draw" st_l_draw ["_law_stream", "_law_many"] f_l_draw fd_l_draw) (G_l_draw : FnOk P w K mg base CX0 1 f_l_draw fd_l_draw ["_law_stream", "_law_many"] (sp_l_draw K)) {f_l_token : Addr} {fd_l_token : FuncData} (D_l_token : DefK K mg "_law_token" st_l_token ["_law_stream"] f_l_token fd_l_token) (G_l_token : FnOk P w K mg base CX0 3 f_l_token fd_l_token ["_law_stream"] (sp_l_token K)) {f_l_text : Addr} {fd_l_text : FuncData} (D_l_text : DefK K mg "_law_text" st_l_text ["_law_stream", "_law_some"] f_l_text fd_l_text) (G_l_text : FnOk P w K mg base CX0 2 f_l_text fd_l_text ["_law_stream", "_law_some"] (sp_l_text K)) {cd : Value} {s : Shared} {H : Hp} {a : Addr} {ns : List Int} (hr : Room 4 (callerA.deeper (topEnv st_law "law" s fa cd))) (hS : SqL K H a (ns.map V.int)) :
    ∃ t, PSs (topCx P w K mg base ["_law_script", "_law_stream", "_law_turn", "_law_some", "_law_text_here", "_law_positions", "_law_due", "_law_again", "_law_found", "_law_k"] "law" st_law fa cd s H).nox (defBody st_law) t ∧ t { nx := fun _ _ => False, rt := fun v _ => v = .bl true } (start ["_law_script", "_law_stream", "_law_turn", "_law_some", "_law_text_here", "_law_positions", "_law_due", "_law_again", "_law_found", "_law_k"] [.ref a]) H := by
  refine ⟨_, (pss_cons (ps_set (i := 1) sc_law.nd rfl (.inr rfl) (pe_lst (pa_cons (pe_callTy (kLst (K := K)) (by rfl) Z.list_ PyProof.Rows.Boot.«list» (pa_cons (pv 0) pa_nil)) (pa_cons pe_int (pa_cons pe_int (pa_cons pe_int pa_nil))))))
      (pss_cons (ps_for PassesOwn.never rfl (pi_range1 (by rfl) Z.range_ (pa_cons pe_int pa_nil)) (pg_name (i := 2) sc_law.nd rfl (.inl rfl)) (pss_cons (ps_set (i := 3) sc_law.nd rfl (.inr rfl) (pe_lc (own := [("_law_k", 9)]) rfl sc_law.nd (pi_range1 (by rfl) Z.range_ (pa_cons (pe_call G_l_draw (hr.mono (by decide)) rfl D_l_draw.mg D_l_draw.fn.kp D_l_draw.bd .nil pass0 (pa_cons (pv 1) (pa_cons pe_int pa_nil))) pa_nil)) (blkOk_by (N := ["_law_script", "_law_stream", "_law_turn", "_law_some", "_law_text_here", "_law_positions", "_law_due", "_law_again", "_law_found", "_law_k"]) (sc := defScope st_law) (by decide +kernel)) (fun _ _ _ _ _ => (pg_name (i := 9) sc_law.nd rfl (.inl rfl))) (fun _ _ _ _ _ => pts_nil) (fun _ _ _ _ _ => (pe_call G_l_token (hr.mono (by decide)) rfl D_l_token.mg D_l_token.fn.kp D_l_token.bd .nil pass0 (pa_cons (pv 1) pa_nil)))))
      (pss_cons (ps_asg (pe_call G_l_text (hr.mono (by decide)) rfl D_l_text.mg D_l_text.fn.kp D_l_text.bd .nil pass0 (pa_cons (pv 1) (pa_cons (pv 3) pa_nil))) (kPgL (K := K) (n := 2) rfl (pgs_cons (pg_name (i := 4) sc_law.nd rfl (.inl rfl)) (pgs_cons (pg_name (i := 5) sc_law.nd rfl (.inr rfl)) pgs_nil))))
      (pss_cons (ps_if (pt_cmpR op_gt (pe_callB call_len_str (by rfl) Z.len_ PyProof.Rows.Boot.«len» (pa_cons (pv 4) pa_nil)) pe_int (nomark _)) (pss_cons (ps_set (i := 3) sc_law.nd rfl (.inr rfl) (pe_slice (kSl (K := K)) (pv 3) po_none (po_some pe_int)))
      (pss_one (ps_asg (pe_call G_l_text (hr.mono (by decide)) rfl D_l_text.mg D_l_text.fn.kp D_l_text.bd .nil pass0 (pa_cons (pv 1) (pa_cons (pv 3) pa_nil))) (kPgL (K := K) (n := 2) rfl (pgs_cons (pg_name (i := 4) sc_law.nd rfl (.inl rfl)) (pgs_cons (pg_name (i := 5) sc_law.nd rfl (.inr rfl)) pgs_nil)))))) pss_nil)
      (pss_cons (ps_setLc (i := 6) (own := [("_law_k", 9)]) rfl sc_law.nd rfl rfl (sw_true rfl rfl rfl (by decide +kernel)) (pi_range1 (by rfl) Z.range_ (pa_cons (pe_callB (kLen (K := K)) (by rfl) Z.len_ PyProof.Rows.Boot.«len» (pa_cons (pv 3) pa_nil)) pa_nil)) (blkOk_by (N := ["_law_script", "_law_stream", "_law_turn", "_law_some", "_law_text_here", "_law_positions", "_law_due", "_law_again", "_law_found", "_law_k"]) (sc := defScope st_law) (by decide +kernel)) (fun _ _ _ _ _ => (pg_name (i := 9) sc_law.nd rfl (.inl rfl))) (fun _ _ _ _ _ => pts_nil) (fun _ _ _ _ _ => (pe_tup (pa_cons (pe_ix (kIx (K := K)) (pe_ix (kIx (K := K)) (pv 3) (pv 9) (fun _ _ => rfl)) pe_int (fun _ _ => rfl)) (pa_cons (pe_ix (kIx (K := K)) (pe_ix (kIx (K := K)) (pv 3) (pv 9) (fun _ _ => rfl)) pe_int (fun _ _ => rfl)) (pa_cons (pe_ix (kIx (K := K)) (pv 5) (pv 9) (fun _ _ => rfl)) pa_nil))))))
      (pss_one (ps_for PassesOwn.never rfl (pi_range1 (by rfl) Z.range_ (pa_cons pe_int pa_nil)) (pg_name (i := 7) sc_law.nd rfl (.inl rfl)) (pss_cons (ps_set (i := 8) sc_law.nd rfl (.inl rfl) (pe_call G_tokens (hr.mono (by decide)) rfl D_tokens.mg D_tokens.fn.kp D_tokens.bd .nil pass0 (pa_cons (pv 4) pa_nil)))
      (pss_cons (ps_if (pt_cmpR (kNe (K := K) hr.units) (pe_callB (kRepr (K := K) rfl hr.units) (by rfl) Z.repr_ PyProof.Rows.Boot.«repr» (pa_cons (pv 8) pa_nil)) (pe_callB (kRepr (K := K) rfl hr.units) (by rfl) Z.repr_ PyProof.Rows.Boot.«repr» (pa_cons (pv 6) pa_nil)) (nomark _)) (pss_one (ps_ret pe_bl)) pss_nil)
      (pss_one (ps_expr (pe_bm PySem.F.plainAttrs_list PySem.F.slot_list_append PySem.F.type_list_append mt_append (pv 8) (pa_cons pe_str pa_nil)))))))))))))
      (pss_one (ps_ret (pe_and (pe_cmpR (kEq (K := K) hr.units) (pe_call G_tokens (hr.mono (by decide)) rfl D_tokens.mg D_tokens.fn.kp D_tokens.bd .nil pass0 (pa_cons pe_str pa_nil)) (pe_lst pa_nil) (nomark _)) (pe_one (pe_cmpR (kEq (K := K) hr.units) (pe_call G_tokens (hr.mono (by decide)) rfl D_tokens.mg D_tokens.fn.kp D_tokens.bd .nil pass0 (pa_cons (pe_op op_mulS pe_str (pe_call G_l_draw (hr.mono (by decide)) rfl D_l_draw.mg D_l_draw.fn.kp D_l_draw.bd .nil pass0 (pa_cons (pv 1) (pa_cons pe_int pa_nil)))) pa_nil)) (pe_lst pa_nil) (nomark _)))))))), ?_⟩
  refine ⟨_, rfl, a, _, rfl, .inl hS, fun q0 hq => ⟨by show 4 ≤ sizeLine; decide, fun s0 hs => ?_⟩⟩
  have O := strm_new hq hs
  generalize upd (upd H q0 (.lst (ns.map V.int))) s0 (.lst [.ref q0, .int 0, .int 0, .int 0]) = H0 at O
  refine ⟨5, rfl, by decide, by decide, for_it (walk_range (lo := 0) (n := 5)) (fun i σ H' => ∃ (v2 v3 v4 v5 v6 v7 v8 v9 : Option V), σ = [some (.ref a), some (.ref s0), v2, v3, v4, v5, v6, v7, v8, v9] ∧ Ov s0 q0 (1000 * i) H H')
    ⟨_, _, _, _, _, _, _, _, rfl, O⟩ (fun _ _ _ _ _ => trivial) (fun i x σ H' H6 hi p y => ?_) (fun σ H' p => ?_)⟩
  · obtain ⟨v2, v3, v4, v5, v6, v7, v8, v9, rfl, O1⟩ := p
    obtain ⟨rfl, rfl⟩ := y
    refine ⟨_, rfl, s0, q0, _, _, 26, rfl, O1, by omega, by decide, by decide, fun n0 H3 n00 n01 O2 => ?_⟩
    obtain ⟨n, rfl⟩ := Int.eq_ofNat_of_zero_le n00
    refine ⟨(n : Int), rfl, by omega, by omega, fun D hD => ?_⟩
    rw [Int.toNat_natCast]
    refine lc_grow (walk_range (lo := 0) (n := n)) (c := 20) O2 hD (fun i acc G' => ∃ ts : List Tok3, Toks G' acc ts ∧ acc.length = i) ⟨[], .nil, rfl⟩ (fun i acc G G' k p => by obtain ⟨ts, h, e⟩ := p; exact ⟨ts, h.mono k, e⟩) (fun i acc G' _ p => by obtain ⟨ts, h, e⟩ := p; omega) (by omega) (fun _ _ _ _ _ _ => trivial)
      (fun j x Hc Hy acc G' hj ex pa oc y Qe Qn qe qn => ?_) (fun H4 xs G4 e4 pa hxs O3 => ?_)
    · obtain ⟨rfl, rfl⟩ := y
      obtain ⟨ts, htk, hacc⟩ := pa
      refine ⟨rfl, _, rfl, s0, q0, _, _, rfl, oc, by omega, fun t p G2 H5 gt ex2 o2 hp => qe _ _ G2 ex2 ⟨ts ++ [t], (htk.mono fun a ys h => ex2 _ _ h).snoc gt hp, by rw [List.length_append, hacc]; rfl⟩ (o2.more (by omega))⟩
    obtain ⟨ts, htk, hlen⟩ := pa
    have hx25 : xs.length ≤ 25 := by omega
    refine ⟨_, rfl, _, rfl, s0, q0, D, _, G4, xs, ts, rfl, O3, by omega, hxs, htk, hx25, fun T ps r pl G5 H5 e5 O4 hr5 hpl hps hT hLx => ?_⟩
    refine ⟨r, _, rfl, SqL.of (O4.sub _ _ hr5), rfl, _, _, rfl, _, _, rfl, rfl, ?_⟩
    refine joinA3 (P := ?P) (fun (T : List Nat) (L pl : Addr) (H7 : Hp) => ∃ (ts : List Tok3) (ps : List Nat) (xs : List V) (G7 : Hp), Ex H G7 ∧ Ov s0 q0 (1000 * i + 700) G7 H7 ∧ G7 L = some (.lst xs) ∧ Toks G7 xs ts ∧ xs.length ≤ 25 ∧ G7 pl = some (.lst (ps.map fun p => V.int ((p : Nat) : Int))) ∧ ps.length = xs.length ∧ T.length ≤ 500 ∧ Lexes 0 T (tz ts ps)) (fun tail => ?_) ?_
    rotate_left
    · refine ⟨_, rfl, _, rfl, by rw [tx_len, sizeLine_eq]; omega, _, _, rfl, rfl, _, rfl, iteD (fun c => ?_) fun c => ?_⟩
      · refine ⟨_, rfl, 8, rfl, .inl ⟨D, xs, rfl, SqL.of (O4.sub _ _ (e5 _ _ hxs)), fun L2 hL2 => ?_⟩⟩
        have ecut : cutV xs none (some 8) = xs.take 8 := cut_take (n := 8)
        rw [ecut]
        have O5 := O4.new (o := .lst (xs.take 8)) hL2
        have e6 := Ex.new (o := .lst (xs.take 8)) (O4.sub.free hL2)
        refine ⟨_, rfl, _, rfl, s0, q0, L2, _, _, xs.take 8, ts.take 8, rfl, O5, by omega, upd_same, ((htk.mono fun a ys h => e5 _ _ h).mono fun a ys h => e6 _ _ h).take 8, by rw [List.length_take]; omega, fun T' ps' r' pl' G8 H8 e8 O8 hr8 hpl8 hps8 hT8 hLx8 => ?_⟩
        refine ⟨r', _, rfl, SqL.of (O8.sub _ _ hr8), rfl, _, _, rfl, _, _, rfl, rfl, ?_⟩
        exact tail T' L2 pl' H8 ⟨ts.take 8, ps', xs.take 8, G8, ((e4.trans e5).trans e6).trans e8, O8.more (by omega), e8 _ _ upd_same, (((htk.mono fun a ys h => e5 _ _ h).mono fun a ys h => e6 _ _ h).take 8).mono fun a ys h => e8 _ _ h, by rw [List.length_take]; omega, hpl8, hps8, hT8, hLx8⟩
      · exact tail T D pl H5 ⟨ts, ps, xs, G5, (e4.trans e5), O4.more (by omega), e5 _ _ hxs, htk.mono fun a ys h => e5 _ _ h, hx25, hpl, hps, hT, hLx⟩
    · rintro T L pl H7 ⟨ts, ps, xs, G7, e7, O7, hxs, htk, hx25, hpl, hps, hT, hLx⟩
      have htl : ts.length = ps.length := by rw [← htk.1, hps]
      have hsm := tz_sm htk htl hT hLx
      have hzl : (tz ts ps).length = xs.length := by rw [tz_len htl, htk.1]
      obtain ⟨f1, f2, f3, f4⟩ := data_ok hsm (by omega)
      refine ⟨_, rfl, L, xs, rfl, .inl (SqL.of (O7.sub _ _ hxs)), (xs.length : Int), rfl, by omega, by omega, fun D2 hD2 => ?_⟩
      rw [Int.toNat_natCast]
      refine lc_grow (walk_range (lo := 0) (n := xs.length)) (c := 0) O7 hD2 (fun i acc G' => TksIn G' acc ((tz ts ps).take i) ∧ acc.length = i) ⟨.nil, rfl⟩ (fun i acc G G' k p => ⟨p.1.mono k, p.2⟩) (fun i acc G' _ p => by omega) (by omega) (fun _ _ _ _ _ _ => trivial)
        (fun j x Hc Hy acc G' hj ex pa oc y Qe Qn qe qn => ?_) (fun H9 due G9 e9 pa hdue O9 => ?_)
      · obtain ⟨rfl, rfl⟩ := y
        obtain ⟨htks, hacc⟩ := pa
        obtain ⟨b, t, hxb, htb, gt, hb⟩ := htk.get hj
        have hpj : ps[j]? = some ps[j] := List.getElem?_eq_getElem (by omega)
        generalize ps[j] = pj at hpj
        show gName 9 (V.int (0 + (j : Int))) _ _ _
        rw [Int.zero_add]
        have hL := oc.sub _ _ (ex _ _ hxs)
        have hbb := oc.sub _ _ (ex _ _ hb)
        refine ⟨rfl, _, rfl, _, rfl, ixl hL (atI_nat hxb) (ixt hbb atI_0 ⟨_, rfl, _, rfl, ixl hL (atI_nat hxb) (ixt hbb (atI_nat (j := 1) rfl) ⟨_, rfl, _, rfl, ixl (oc.sub _ _ (ex _ _ hpl)) (atI_nat (by rw [List.getElem?_map, hpj]; rfl)) ⟨by show 3 ≤ sizeLine; decide, fun p hp => ?_⟩⟩)⟩)⟩
        have en := Ex.new (o := .tup [.str t.1, t.2.1, .int ((pj : Nat) : Int)]) (oc.sub.free hp)
        refine qe (.ref p) _ _ en ⟨?_, by rw [List.length_append, hacc]; rfl⟩ (oc.new hp)
        rw [List.take_succ, tz_at htb hpj, Option.toList_some]
        have h1 : TksIn (upd G' p (.tup [.str t.1, t.2.1, .int ((pj : Nat) : Int)])) acc ((tz ts ps).take j) := htks.mono fun a ys h => en _ _ h
        exact TksIn.snoc (t := (t.1, t.2.1, pj)) ⟨gt.flat, p, rfl, upd_same⟩ h1
      · obtain ⟨hdt, hdl⟩ := pa
        rw [List.take_of_length_le (by omega)] at hdt
        refine ⟨2, rfl, by decide, by decide, for_it (walk_range (lo := 0) (n := 2)) (fun k σ H' => ∃ (v2 v3 v5 v7 v8 v9 : Option V), σ = [some (.ref a), some (.ref s0), v2, v3, some (.str (tx T)), v5, some (.ref D2), v7, v8, v9] ∧ Ov s0 q0 (1000 * i + 700) G9 H')
          ⟨_, _, _, _, _, _, rfl, O9.more (by omega)⟩ (fun _ _ _ _ _ => trivial) (fun k x σ H' H6 hk p y => ?_) (fun σ H' p => ?_)⟩
        · obtain ⟨v2, v3, v5, v7, v8, v9, rfl, O10⟩ := p
          obtain ⟨rfl, rfl⟩ := y
          refine ⟨_, rfl, T, tz ts ps, rfl, by omega, hLx, fun H11 L11 xs11 e11 hn11 hL11 hl11 htk11 => ?_⟩
          have hd11 := e11 _ _ (O10.sub _ _ hdue)
          have hdt11 : TksIn H11 due (tz ts ps) := (hdt.mono fun a ys h => O10.sub _ _ h).mono fun a ys h => e11 _ _ h
          refine ⟨_, rfl, L11, _, rfl, .lst (SqL.of hL11) htk11.dp, f1, f2, f3, f4, _, rfl, D2, _, rfl, .lst (SqL.of hd11) hdt11.dp, f1, f2, f3, f4, .inl ⟨rfl, _, rfl, iteNF rfl ?_⟩⟩
          have n11 := O10.ns hn11
          refine ⟨_, rfl, .inl ⟨rfl, _, SqL.of hL11⟩, L11, _, _, rfl, rfl, hL11, by rw [sizeLine_eq]; omega, ?_⟩
          exact ⟨_, _, _, _, _, _, rfl, (O10.ex e11).mut (O10.sub.free hn11) n11.1 n11.2⟩
        · obtain ⟨v2, v3, v5, v7, v8, v9, rfl, O10⟩ := p
          exact ⟨_, _, _, _, _, _, _, _, rfl, (O10.weak (e7.trans e9)).more (by omega)⟩
  · obtain ⟨v2, v3, v4, v5, v6, v7, v8, v9, rfl, O1⟩ := p
    refine ⟨[], [], rfl, by decide, .nil 0, fun H7 L7 xs7 e7 hn7 hL7 _ htk7 => ⟨Nat.zero_le _, fun p hp => .inr ⟨.list [], .list [], .lst (SqL.of ?_) .nil, .lst (SqL.of upd_same) .nil, rfl, rfl, true, rfl, iteT ?_⟩⟩⟩
    · cases htk7
      exact (upd_ne (ne_of_none hL7 hp)).trans hL7
    have O2 := ((O1.ex e7).drop (o := .lst []) hp)
    refine ⟨_, rfl, s0, q0, _, _, 9, rfl, O2, by omega, by decide, by decide, fun r H8 r0 r1 O3 => ?_⟩
    obtain ⟨m, rfl⟩ := Int.eq_ofNat_of_zero_le r0
    refine ⟨[32], m, rfl, rfl, by decide, by omega, ?_⟩
    rw [rep1]
    refine ⟨List.replicate m 32, [], rfl, by rw [List.length_replicate]; omega, spaces_lex m 0, fun H9 L9 xs9 e9 hn9 hL9 _ htk9 => ⟨Nat.zero_le _, fun p2 hp2 => .inr ⟨.list [], .list [], .lst (SqL.of ?_) .nil, .lst (SqL.of upd_same) .nil, rfl, rfl, rfl⟩⟩⟩
    cases htk9
    exact (upd_ne (ne_of_none hL9 hp2)).trans hL9
end
end K48

set_option maxHeartbeats 4000000
namespace K48
open PySem PySem.Spec PyProof.Rows L2 Hg

theorem all_mk {P : Program} {w : World} {K : PySem.W.Frag} {h : Heap} {mg : Str → Option Value} {fa : Addr} (X : K.In h) (G : h.Ns mainGlobals mg) (hfa : mg "law" = some (.ref fa))
    {f_frozen : Addr} {od_frozen an_frozen : Option Addr} {sl_frozen : Array (Option Value)} {oc_frozen kV_frozen dc_frozen pm_frozen cd_frozen ct_frozen : Value}
    {f_is_word : Addr} {od_is_word an_is_word : Option Addr} {sl_is_word : Array (Option Value)} {oc_is_word kV_is_word dc_is_word pm_is_word cd_is_word ct_is_word : Value}
    {f_tokens : Addr} {od_tokens an_tokens : Option Addr} {sl_tokens : Array (Option Value)} {oc_tokens kV_tokens dc_tokens pm_tokens cd_tokens ct_tokens : Value}
    {f__token : Addr} {od__token an__token : Option Addr} {sl__token : Array (Option Value)} {oc__token kV__token dc__token pm__token cd__token ct__token : Value}
    {f__letters : Addr} {od__letters an__letters : Option Addr} {sl__letters : Array (Option Value)} {oc__letters kV__letters dc__letters pm__letters cd__letters ct__letters : Value}
    {f__digits : Addr} {od__digits an__digits : Option Addr} {sl__digits : Array (Option Value)} {oc__digits kV__digits dc__digits pm__digits cd__digits ct__digits : Value}
    {f__word : Addr} {od__word an__word : Option Addr} {sl__word : Array (Option Value)} {oc__word kV__word dc__word pm__word cd__word ct__word : Value}
    {f__run_end : Addr} {od__run_end an__run_end : Option Addr} {sl__run_end : Array (Option Value)} {oc__run_end kV__run_end dc__run_end pm__run_end cd__run_end ct__run_end : Value}
    {f_l_draw : Addr} {od_l_draw an_l_draw : Option Addr} {sl_l_draw : Array (Option Value)} {oc_l_draw kV_l_draw dc_l_draw pm_l_draw cd_l_draw ct_l_draw : Value}
    {f_l_reserved : Addr} {od_l_reserved an_l_reserved : Option Addr} {sl_l_reserved : Array (Option Value)} {oc_l_reserved kV_l_reserved dc_l_reserved pm_l_reserved cd_l_reserved ct_l_reserved : Value}
    {f_l_name : Addr} {od_l_name an_l_name : Option Addr} {sl_l_name : Array (Option Value)} {oc_l_name kV_l_name dc_l_name pm_l_name cd_l_name ct_l_name : Value}
    {f_l_symbols : Addr} {od_l_symbols an_l_symbols : Option Addr} {sl_l_symbols : Array (Option Value)} {oc_l_symbols kV_l_symbols dc_l_symbols pm_l_symbols cd_l_symbols ct_l_symbols : Value}
    {f_l_token : Addr} {od_l_token an_l_token : Option Addr} {sl_l_token : Array (Option Value)} {oc_l_token kV_l_token dc_l_token pm_l_token cd_l_token ct_l_token : Value}
    {f_l_need_space : Addr} {od_l_need_space an_l_need_space : Option Addr} {sl_l_need_space : Array (Option Value)} {oc_l_need_space kV_l_need_space dc_l_need_space pm_l_need_space cd_l_need_space ct_l_need_space : Value}
    {f_l_text : Addr} {od_l_text an_l_text : Option Addr} {sl_l_text : Array (Option Value)} {oc_l_text kV_l_text dc_l_text pm_l_text cd_l_text ct_l_text : Value}
    {f_law : Addr} {od_law an_law : Option Addr} {sl_law : Array (Option Value)} {oc_law kV_law dc_law pm_law cd_law ct_law : Value}
    {t_LETTERS : Tok}
    {t_DIGITS : Tok}
    {t_NAME_CHARACTERS : Tok}
    {A_RESERVED : Addr} {o_RESERVED : Obj} {n_RESERVED : Nat} {u0_RESERVED u1_RESERVED u2_RESERVED u3_RESERVED u4_RESERVED u5_RESERVED u6_RESERVED u7_RESERVED u8_RESERVED u9_RESERVED u10_RESERVED u11_RESERVED u12_RESERVED : Tok}
    {t_LONGEST : Tok}
    {A_LONG_SYMBOLS : Addr} {o_LONG_SYMBOLS : Obj} {n_LONG_SYMBOLS : Nat} {u0_LONG_SYMBOLS u1_LONG_SYMBOLS u2_LONG_SYMBOLS : Tok}
    {t_SHORT_SYMBOLS : Tok}
    {t_MOST_DIGITS : Tok}
    
    (a_frozen : PySem.W.nsIn K mainGlobals "frozen" = some (some (.ref f_frozen)))
    (l_frozen : K.lookup f_frozen = some ⟨oc_frozen, od_frozen, .func (PySem.W.fnOf "frozen" "frozen" (defArgs st_frozen) (defBody st_frozen) (defScope st_frozen) .none kV_frozen dc_frozen pm_frozen an_frozen cd_frozen ct_frozen), sl_frozen⟩)
    (c_frozen : PySem.W.codeIn K cd_frozen "frozen" = true)
    (k_frozen : PySem.W.keepIn K (.ref f_frozen) = true)
    (a_is_word : PySem.W.nsIn K mainGlobals "is_word" = some (some (.ref f_is_word)))
    (l_is_word : K.lookup f_is_word = some ⟨oc_is_word, od_is_word, .func (PySem.W.fnOf "is_word" "is_word" (defArgs st_is_word) (defBody st_is_word) (defScope st_is_word) .none kV_is_word dc_is_word pm_is_word an_is_word cd_is_word ct_is_word), sl_is_word⟩)
    (c_is_word : PySem.W.codeIn K cd_is_word "is_word" = true)
    (k_is_word : PySem.W.keepIn K (.ref f_is_word) = true)
    (a_tokens : PySem.W.nsIn K mainGlobals "tokens" = some (some (.ref f_tokens)))
    (l_tokens : K.lookup f_tokens = some ⟨oc_tokens, od_tokens, .func (PySem.W.fnOf "tokens" "tokens" (defArgs st_tokens) (defBody st_tokens) (defScope st_tokens) .none kV_tokens dc_tokens pm_tokens an_tokens cd_tokens ct_tokens), sl_tokens⟩)
    (c_tokens : PySem.W.codeIn K cd_tokens "tokens" = true)
    (k_tokens : PySem.W.keepIn K (.ref f_tokens) = true)
    (a__token : PySem.W.nsIn K mainGlobals "_token" = some (some (.ref f__token)))
    (l__token : K.lookup f__token = some ⟨oc__token, od__token, .func (PySem.W.fnOf "_token" "_token" (defArgs st__token) (defBody st__token) (defScope st__token) .none kV__token dc__token pm__token an__token cd__token ct__token), sl__token⟩)
    (c__token : PySem.W.codeIn K cd__token "_token" = true)
    (k__token : PySem.W.keepIn K (.ref f__token) = true)
    (a__letters : PySem.W.nsIn K mainGlobals "_letters" = some (some (.ref f__letters)))
    (l__letters : K.lookup f__letters = some ⟨oc__letters, od__letters, .func (PySem.W.fnOf "_letters" "_letters" (defArgs st__letters) (defBody st__letters) (defScope st__letters) .none kV__letters dc__letters pm__letters an__letters cd__letters ct__letters), sl__letters⟩)
    (c__letters : PySem.W.codeIn K cd__letters "_letters" = true)
    (k__letters : PySem.W.keepIn K (.ref f__letters) = true)
    (a__digits : PySem.W.nsIn K mainGlobals "_digits" = some (some (.ref f__digits)))
    (l__digits : K.lookup f__digits = some ⟨oc__digits, od__digits, .func (PySem.W.fnOf "_digits" "_digits" (defArgs st__digits) (defBody st__digits) (defScope st__digits) .none kV__digits dc__digits pm__digits an__digits cd__digits ct__digits), sl__digits⟩)
    (c__digits : PySem.W.codeIn K cd__digits "_digits" = true)
    (k__digits : PySem.W.keepIn K (.ref f__digits) = true)
    (a__word : PySem.W.nsIn K mainGlobals "_word" = some (some (.ref f__word)))
    (l__word : K.lookup f__word = some ⟨oc__word, od__word, .func (PySem.W.fnOf "_word" "_word" (defArgs st__word) (defBody st__word) (defScope st__word) .none kV__word dc__word pm__word an__word cd__word ct__word), sl__word⟩)
    (c__word : PySem.W.codeIn K cd__word "_word" = true)
    (k__word : PySem.W.keepIn K (.ref f__word) = true)
    (a__run_end : PySem.W.nsIn K mainGlobals "_run_end" = some (some (.ref f__run_end)))
    (l__run_end : K.lookup f__run_end = some ⟨oc__run_end, od__run_end, .func (PySem.W.fnOf "_run_end" "_run_end" (defArgs st__run_end) (defBody st__run_end) (defScope st__run_end) .none kV__run_end dc__run_end pm__run_end an__run_end cd__run_end ct__run_end), sl__run_end⟩)
    (c__run_end : PySem.W.codeIn K cd__run_end "_run_end" = true)
    (k__run_end : PySem.W.keepIn K (.ref f__run_end) = true)
    (a_l_draw : PySem.W.nsIn K mainGlobals "_law_draw" = some (some (.ref f_l_draw)))
    (l_l_draw : K.lookup f_l_draw = some ⟨oc_l_draw, od_l_draw, .func (PySem.W.fnOf "_law_draw" "_law_draw" (defArgs st_l_draw) (defBody st_l_draw) (defScope st_l_draw) .none kV_l_draw dc_l_draw pm_l_draw an_l_draw cd_l_draw ct_l_draw), sl_l_draw⟩)
    (c_l_draw : PySem.W.codeIn K cd_l_draw "_law_draw" = true)
    (k_l_draw : PySem.W.keepIn K (.ref f_l_draw) = true)
    (a_l_reserved : PySem.W.nsIn K mainGlobals "_law_reserved" = some (some (.ref f_l_reserved)))
    (l_l_reserved : K.lookup f_l_reserved = some ⟨oc_l_reserved, od_l_reserved, .func (PySem.W.fnOf "_law_reserved" "_law_reserved" (defArgs st_l_reserved) (defBody st_l_reserved) (defScope st_l_reserved) .none kV_l_reserved dc_l_reserved pm_l_reserved an_l_reserved cd_l_reserved ct_l_reserved), sl_l_reserved⟩)
    (c_l_reserved : PySem.W.codeIn K cd_l_reserved "_law_reserved" = true)
    (k_l_reserved : PySem.W.keepIn K (.ref f_l_reserved) = true)
    (a_l_name : PySem.W.nsIn K mainGlobals "_law_name" = some (some (.ref f_l_name)))
    (l_l_name : K.lookup f_l_name = some ⟨oc_l_name, od_l_name, .func (PySem.W.fnOf "_law_name" "_law_name" (defArgs st_l_name) (defBody st_l_name) (defScope st_l_name) .none kV_l_name dc_l_name pm_l_name an_l_name cd_l_name ct_l_name), sl_l_name⟩)
    (c_l_name : PySem.W.codeIn K cd_l_name "_law_name" = true)
    (k_l_name : PySem.W.keepIn K (.ref f_l_name) = true)
    (a_l_symbols : PySem.W.nsIn K mainGlobals "_law_symbols" = some (some (.ref f_l_symbols)))
    (l_l_symbols : K.lookup f_l_symbols = some ⟨oc_l_symbols, od_l_symbols, .func (PySem.W.fnOf "_law_symbols" "_law_symbols" (defArgs st_l_symbols) (defBody st_l_symbols) (defScope st_l_symbols) .none kV_l_symbols dc_l_symbols pm_l_symbols an_l_symbols cd_l_symbols ct_l_symbols), sl_l_symbols⟩)
    (c_l_symbols : PySem.W.codeIn K cd_l_symbols "_law_symbols" = true)
    (k_l_symbols : PySem.W.keepIn K (.ref f_l_symbols) = true)
    (a_l_token : PySem.W.nsIn K mainGlobals "_law_token" = some (some (.ref f_l_token)))
    (l_l_token : K.lookup f_l_token = some ⟨oc_l_token, od_l_token, .func (PySem.W.fnOf "_law_token" "_law_token" (defArgs st_l_token) (defBody st_l_token) (defScope st_l_token) .none kV_l_token dc_l_token pm_l_token an_l_token cd_l_token ct_l_token), sl_l_token⟩)
    (c_l_token : PySem.W.codeIn K cd_l_token "_law_token" = true)
    (k_l_token : PySem.W.keepIn K (.ref f_l_token) = true)
    (a_l_need_space : PySem.W.nsIn K mainGlobals "_law_need_space" = some (some (.ref f_l_need_space)))
    (l_l_need_space : K.lookup f_l_need_space = some ⟨oc_l_need_space, od_l_need_space, .func (PySem.W.fnOf "_law_need_space" "_law_need_space" (defArgs st_l_need_space) (defBody st_l_need_space) (defScope st_l_need_space) .none kV_l_need_space dc_l_need_space pm_l_need_space an_l_need_space cd_l_need_space ct_l_need_space), sl_l_need_space⟩)
    (c_l_need_space : PySem.W.codeIn K cd_l_need_space "_law_need_space" = true)
    (k_l_need_space : PySem.W.keepIn K (.ref f_l_need_space) = true)
    (a_l_text : PySem.W.nsIn K mainGlobals "_law_text" = some (some (.ref f_l_text)))
    (l_l_text : K.lookup f_l_text = some ⟨oc_l_text, od_l_text, .func (PySem.W.fnOf "_law_text" "_law_text" (defArgs st_l_text) (defBody st_l_text) (defScope st_l_text) .none kV_l_text dc_l_text pm_l_text an_l_text cd_l_text ct_l_text), sl_l_text⟩)
    (c_l_text : PySem.W.codeIn K cd_l_text "_law_text" = true)
    (k_l_text : PySem.W.keepIn K (.ref f_l_text) = true)
    (a_law : PySem.W.nsIn K mainGlobals "law" = some (some (.ref f_law)))
    (l_law : K.lookup f_law = some ⟨oc_law, od_law, .func (PySem.W.fnOf "law" "law" (defArgs st_law) (defBody st_law) (defScope st_law) .none kV_law dc_law pm_law an_law cd_law ct_law), sl_law⟩)
    (c_law : PySem.W.codeIn K cd_law "law" = true)
    (k_law : PySem.W.keepIn K (.ref f_law) = true)
    (g_LETTERS : PySem.W.nsIn K mainGlobals "LETTERS" = some (some (.str (tx [97, 98, 99, 100, 101, 102, 103, 104, 105, 106, 107, 108, 109, 110, 111, 112, 113, 114, 115, 116, 117, 118, 119, 120, 121, 122]) t_LETTERS)))
    (g_DIGITS : PySem.W.nsIn K mainGlobals "DIGITS" = some (some (.str (tx [48, 49, 50, 51, 52, 53, 54, 55, 56, 57]) t_DIGITS)))
    (g_NAME_CHARACTERS : PySem.W.nsIn K mainGlobals "NAME_CHARACTERS" = some (some (.str (tx [97, 98, 99, 100, 101, 102, 103, 104, 105, 106, 107, 108, 109, 110, 111, 112, 113, 114, 115, 116, 117, 118, 119, 120, 121, 122, 95, 48, 49, 50, 51, 52, 53, 54, 55, 56, 57]) t_NAME_CHARACTERS)))
    (g_RESERVED : PySem.W.nsIn K mainGlobals "RESERVED" = some (some (.ref A_RESERVED)))
    (gl_RESERVED : K.lookup A_RESERVED = some o_RESERVED)
    (gc_RESERVED : o_RESERVED.cls = .type "tuple")
    (gd_RESERVED : o_RESERVED.data = .seq #[.str (tx [115, 101, 108, 101, 99, 116]) u0_RESERVED, .str (tx [115, 117, 109]) u1_RESERVED, .str (tx [99, 111, 117, 110, 116]) u2_RESERVED, .str (tx [102, 114, 111, 109]) u3_RESERVED, .str (tx [97, 116]) u4_RESERVED, .str (tx [100, 97, 121]) u5_RESERVED, .str (tx [97, 115]) u6_RESERVED, .str (tx [119, 104, 101, 114, 101]) u7_RESERVED, .str (tx [98, 121]) u8_RESERVED, .str (tx [97, 110, 100]) u9_RESERVED, .str (tx [111, 114]) u10_RESERVED, .str (tx [110, 111, 116]) u11_RESERVED, .str (tx [105, 110]) u12_RESERVED] n_RESERVED)
    (g_LONGEST : PySem.W.nsIn K mainGlobals "LONGEST" = some (some (.int (12) t_LONGEST)))
    (g_LONG_SYMBOLS : PySem.W.nsIn K mainGlobals "LONG_SYMBOLS" = some (some (.ref A_LONG_SYMBOLS)))
    (gl_LONG_SYMBOLS : K.lookup A_LONG_SYMBOLS = some o_LONG_SYMBOLS)
    (gc_LONG_SYMBOLS : o_LONG_SYMBOLS.cls = .type "tuple")
    (gd_LONG_SYMBOLS : o_LONG_SYMBOLS.data = .seq #[.str (tx [33, 61]) u0_LONG_SYMBOLS, .str (tx [60, 61]) u1_LONG_SYMBOLS, .str (tx [62, 61]) u2_LONG_SYMBOLS] n_LONG_SYMBOLS)
    (g_SHORT_SYMBOLS : PySem.W.nsIn K mainGlobals "SHORT_SYMBOLS" = some (some (.str (tx [40, 41, 44, 46, 43, 45, 42, 61, 60, 62]) t_SHORT_SYMBOLS)))
    (g_MOST_DIGITS : PySem.W.nsIn K mainGlobals "MOST_DIGITS" = some (some (.int (6) t_MOST_DIGITS)))
    (z_all : PySem.W.nsIn K mainGlobals "all" = some none)
    (z_int : PySem.W.nsIn K mainGlobals "int" = some none)
    (z_isinstance : PySem.W.nsIn K mainGlobals "isinstance" = some none)
    (z_len : PySem.W.nsIn K mainGlobals "len" = some none)
    (z_list : PySem.W.nsIn K mainGlobals "list" = some none)
    (z_max : PySem.W.nsIn K mainGlobals "max" = some none)
    (z_range : PySem.W.nsIn K mainGlobals "range" = some none)
    (z_repr : PySem.W.nsIn K mainGlobals "repr" = some none)
    (z_str : PySem.W.nsIn K mainGlobals "str" = some none)
    (z_tuple : PySem.W.nsIn K mainGlobals "tuple" = some none)
    : ∃ fd : FuncData, (∀ (s : Shared) (v : Value), BindsTo s fd ⟨[v], []⟩ [("_law_script", v)]) ∧ Fun K "law" "law" st_law fa fd ∧ TopOk P w K mg 4 ["_law_script", "_law_stream", "_law_turn", "_law_some", "_law_text_here", "_law_positions", "_law_due", "_law_again", "_law_found", "_law_k"] "law" st_law fa (fun a ns H => SqL K H a (ns.map V.int)) := by
  have e := hfa.symm.trans (PySem.W.mg_of X G a_law)
  cases e
  have Z : Zs mg := ⟨PySem.W.mg_none_of X G z_all, PySem.W.mg_none_of X G z_int, PySem.W.mg_none_of X G z_isinstance, PySem.W.mg_none_of X G z_len, PySem.W.mg_none_of X G z_list, PySem.W.mg_none_of X G z_max, PySem.W.mg_none_of X G z_range, PySem.W.mg_none_of X G z_repr, PySem.W.mg_none_of X G z_str, PySem.W.mg_none_of X G z_tuple⟩
  have F_frozen := fun_mk (st := st_frozen) l_frozen c_frozen k_frozen
  have D_frozen : DefK K mg "frozen" st_frozen ["thing"] f_frozen _ := ⟨PySem.W.mg_of X G a_frozen, F_frozen, F_frozen.binds (ps := ["thing"]) fun _ _ _ _ _ _ us hl => match us, hl with | [_], _ => rfl⟩
  have F_is_word := fun_mk (st := st_is_word) l_is_word c_is_word k_is_word
  have D_is_word : DefK K mg "is_word" st_is_word ["thing"] f_is_word _ := ⟨PySem.W.mg_of X G a_is_word, F_is_word, F_is_word.binds (ps := ["thing"]) fun _ _ _ _ _ _ us hl => match us, hl with | [_], _ => rfl⟩
  have F_tokens := fun_mk (st := st_tokens) l_tokens c_tokens k_tokens
  have D_tokens : DefK K mg "tokens" st_tokens ["text"] f_tokens _ := ⟨PySem.W.mg_of X G a_tokens, F_tokens, F_tokens.binds (ps := ["text"]) fun _ _ _ _ _ _ us hl => match us, hl with | [_], _ => rfl⟩
  have F__token := fun_mk (st := st__token) l__token c__token k__token
  have D__token : DefK K mg "_token" st__token ["text", "start"] f__token _ := ⟨PySem.W.mg_of X G a__token, F__token, F__token.binds (ps := ["text", "start"]) fun _ _ _ _ _ _ us hl => match us, hl with | [_, _], _ => rfl⟩
  have F__letters := fun_mk (st := st__letters) l__letters c__letters k__letters
  have D__letters : DefK K mg "_letters" st__letters ["text", "start"] f__letters _ := ⟨PySem.W.mg_of X G a__letters, F__letters, F__letters.binds (ps := ["text", "start"]) fun _ _ _ _ _ _ us hl => match us, hl with | [_, _], _ => rfl⟩
  have F__digits := fun_mk (st := st__digits) l__digits c__digits k__digits
  have D__digits : DefK K mg "_digits" st__digits ["text", "start"] f__digits _ := ⟨PySem.W.mg_of X G a__digits, F__digits, F__digits.binds (ps := ["text", "start"]) fun _ _ _ _ _ _ us hl => match us, hl with | [_, _], _ => rfl⟩
  have F__word := fun_mk (st := st__word) l__word c__word k__word
  have D__word : DefK K mg "_word" st__word ["text", "start"] f__word _ := ⟨PySem.W.mg_of X G a__word, F__word, F__word.binds (ps := ["text", "start"]) fun _ _ _ _ _ _ us hl => match us, hl with | [_, _], _ => rfl⟩
  have F__run_end := fun_mk (st := st__run_end) l__run_end c__run_end k__run_end
  have D__run_end : DefK K mg "_run_end" st__run_end ["text", "start", "characters"] f__run_end _ := ⟨PySem.W.mg_of X G a__run_end, F__run_end, F__run_end.binds (ps := ["text", "start", "characters"]) fun _ _ _ _ _ _ us hl => match us, hl with | [_, _, _], _ => rfl⟩
  have F_l_draw := fun_mk (st := st_l_draw) l_l_draw c_l_draw k_l_draw
  have D_l_draw : DefK K mg "_law_draw" st_l_draw ["_law_stream", "_law_many"] f_l_draw _ := ⟨PySem.W.mg_of X G a_l_draw, F_l_draw, F_l_draw.binds (ps := ["_law_stream", "_law_many"]) fun _ _ _ _ _ _ us hl => match us, hl with | [_, _], _ => rfl⟩
  have F_l_reserved := fun_mk (st := st_l_reserved) l_l_reserved c_l_reserved k_l_reserved
  have D_l_reserved : DefK K mg "_law_reserved" st_l_reserved [] f_l_reserved _ := ⟨PySem.W.mg_of X G a_l_reserved, F_l_reserved, F_l_reserved.binds (ps := []) fun _ _ _ _ _ _ us hl => match us, hl with | [], _ => rfl⟩
  have F_l_name := fun_mk (st := st_l_name) l_l_name c_l_name k_l_name
  have D_l_name : DefK K mg "_law_name" st_l_name ["_law_stream"] f_l_name _ := ⟨PySem.W.mg_of X G a_l_name, F_l_name, F_l_name.binds (ps := ["_law_stream"]) fun _ _ _ _ _ _ us hl => match us, hl with | [_], _ => rfl⟩
  have F_l_symbols := fun_mk (st := st_l_symbols) l_l_symbols c_l_symbols k_l_symbols
  have D_l_symbols : DefK K mg "_law_symbols" st_l_symbols [] f_l_symbols _ := ⟨PySem.W.mg_of X G a_l_symbols, F_l_symbols, F_l_symbols.binds (ps := []) fun _ _ _ _ _ _ us hl => match us, hl with | [], _ => rfl⟩
  have F_l_token := fun_mk (st := st_l_token) l_l_token c_l_token k_l_token
  have D_l_token : DefK K mg "_law_token" st_l_token ["_law_stream"] f_l_token _ := ⟨PySem.W.mg_of X G a_l_token, F_l_token, F_l_token.binds (ps := ["_law_stream"]) fun _ _ _ _ _ _ us hl => match us, hl with | [_], _ => rfl⟩
  have F_l_need_space := fun_mk (st := st_l_need_space) l_l_need_space c_l_need_space k_l_need_space
  have D_l_need_space : DefK K mg "_law_need_space" st_l_need_space ["_law_one", "_law_other"] f_l_need_space _ := ⟨PySem.W.mg_of X G a_l_need_space, F_l_need_space, F_l_need_space.binds (ps := ["_law_one", "_law_other"]) fun _ _ _ _ _ _ us hl => match us, hl with | [_, _], _ => rfl⟩
  have F_l_text := fun_mk (st := st_l_text) l_l_text c_l_text k_l_text
  have D_l_text : DefK K mg "_law_text" st_l_text ["_law_stream", "_law_some"] f_l_text _ := ⟨PySem.W.mg_of X G a_l_text, F_l_text, F_l_text.binds (ps := ["_law_stream", "_law_some"]) fun _ _ _ _ _ _ us hl => match us, hl with | [_, _], _ => rfl⟩
  have F_law := fun_mk (st := st_law) l_law c_law k_law
  have D_law : DefK K mg "law" st_law ["_law_script"] fa _ := ⟨PySem.W.mg_of X G a_law, F_law, F_law.binds (ps := ["_law_script"]) fun _ _ _ _ _ _ us hl => match us, hl with | [_], _ => rfl⟩

  have CG : CGs K mg := ⟨t_LETTERS, PySem.W.mg_of X G g_LETTERS, t_DIGITS, PySem.W.mg_of X G g_DIGITS, t_NAME_CHARACTERS, PySem.W.mg_of X G g_NAME_CHARACTERS, A_RESERVED, PySem.W.mg_of X G g_RESERVED, fun H => .inr ⟨o_RESERVED, _, n_RESERVED, gl_RESERVED, gc_RESERVED, gd_RESERVED, by show 13 ≤ sizeLine; decide, (.cons ⟨_, rfl⟩ (.cons ⟨_, rfl⟩ (.cons ⟨_, rfl⟩ (.cons ⟨_, rfl⟩ (.cons ⟨_, rfl⟩ (.cons ⟨_, rfl⟩ (.cons ⟨_, rfl⟩ (.cons ⟨_, rfl⟩ (.cons ⟨_, rfl⟩ (.cons ⟨_, rfl⟩ (.cons ⟨_, rfl⟩ (.cons ⟨_, rfl⟩ (.cons ⟨_, rfl⟩ .nil)))))))))))))⟩, t_LONGEST, PySem.W.mg_of X G g_LONGEST, A_LONG_SYMBOLS, PySem.W.mg_of X G g_LONG_SYMBOLS, fun H => .inr ⟨o_LONG_SYMBOLS, _, n_LONG_SYMBOLS, gl_LONG_SYMBOLS, gc_LONG_SYMBOLS, gd_LONG_SYMBOLS, by show 3 ≤ sizeLine; decide, (.cons ⟨_, rfl⟩ (.cons ⟨_, rfl⟩ (.cons ⟨_, rfl⟩ .nil)))⟩, t_SHORT_SYMBOLS, PySem.W.mg_of X G g_SHORT_SYMBOLS, t_MOST_DIGITS, PySem.W.mg_of X G g_MOST_DIGITS⟩
  refine ⟨PySem.W.fnOf "law" "law" (defArgs st_law) (defBody st_law) (defScope st_law) .none kV_law dc_law pm_law an_law cd_law ct_law, fun s v => .of_eq rfl, F_law, fun cd base s H a ns KB NB hr hS => ?_⟩

  have G__run_end : FnOk P w K mg base CX0 1 f__run_end _ ["text", "start", "characters"] (sp__run_end K) := ok__run_end (P := P) (w := w) (base := base) D__run_end Z CG  
  have G__letters : FnOk P w K mg base CX0 2 f__letters _ ["text", "start"] (sp__letters K) := ok__letters (P := P) (w := w) (base := base) D__letters Z CG D__run_end G__run_end 
  have G__digits : FnOk P w K mg base CX0 2 f__digits _ ["text", "start"] (sp__digits K) := ok__digits (P := P) (w := w) (base := base) D__digits Z CG D__run_end G__run_end 
  have G_is_word : FnOk P w K mg base CX0 1 f_is_word _ ["thing"] (sp_is_word K) := ok_is_word (P := P) (w := w) (base := base) D_is_word Z CG  
  have G__word : FnOk P w K mg base CX0 2 f__word _ ["text", "start"] (sp__word K) := ok__word (P := P) (w := w) (base := base) D__word Z CG D_is_word G_is_word 
  have G__token : FnOk P w K mg base CX0 3 f__token _ ["text", "start"] (sp__token K) := ok__token (P := P) (w := w) (base := base) D__token Z CG D__letters G__letters D__digits G__digits D__word G__word 
  have G_tokens : FnOk P w K mg base CX0 4 f_tokens _ ["text"] (sp_tokens K) := ok_tokens (P := P) (w := w) (base := base) D_tokens Z CG D__token G__token 
  have G_l_draw : FnOk P w K mg base CX0 1 f_l_draw _ ["_law_stream", "_law_many"] (sp_l_draw K) := ok_l_draw (P := P) (w := w) (base := base) D_l_draw Z CG  
  have G_l_reserved : FnOk P w K mg base CX0 1 f_l_reserved _ [] (sp_l_reserved K) := ok_l_reserved (P := P) (w := w) (base := base) D_l_reserved Z CG  
  have G_l_name : FnOk P w K mg base CX0 2 f_l_name _ ["_law_stream"] (sp_l_name K) := ok_l_name (P := P) (w := w) (base := base) D_l_name Z CG D_l_draw G_l_draw D_l_reserved G_l_reserved 
  have G_l_symbols : FnOk P w K mg base CX0 1 f_l_symbols _ [] (sp_l_symbols K) := ok_l_symbols (P := P) (w := w) (base := base) D_l_symbols Z CG  
  have G_l_token : FnOk P w K mg base CX0 3 f_l_token _ ["_law_stream"] (sp_l_token K) := ok_l_token (P := P) (w := w) (base := base) D_l_token Z CG D_l_draw G_l_draw D_l_reserved G_l_reserved D_l_name G_l_name D_l_symbols G_l_symbols 
  have G_l_need_space : FnOk P w K mg base CX0 1 f_l_need_space _ ["_law_one", "_law_other"] (sp_l_need_space K) := ok_l_need_space (P := P) (w := w) (base := base) D_l_need_space Z CG  
  have G_l_text : FnOk P w K mg base CX0 2 f_l_text _ ["_law_stream", "_law_some"] (sp_l_text K) := ok_l_text (P := P) (w := w) (base := base) D_l_text Z CG D_l_draw G_l_draw D_l_need_space G_l_need_space 
  exact top_law (P := P) (w := w) (base := base) Z CG D_tokens G_tokens D_l_draw G_l_draw D_l_token G_l_token D_l_text G_l_text hr hS
theorem walk {l : PySem.W.OpenLaw} {q : Program} {loose : List Str} {XP : (Str → Option Value) → Heap → Prop} {YP : World → Heap → Prop} {d : DefRec} {K : Params → PySem.W.Frag} (hn : l.most = some 63) (hdf : d.params.defaults = []) (hnm : d.name = "law")
    (hY : ∀ (w : World) (h : Heap), YP w h → (K w.params).In h)
    (F : ∀ (w : World) (mg : Str → Option Value) (fa : Addr) (h : Heap), (K w.params).In h → h.Ns mainGlobals mg → mg "law" = some (.ref fa) →
      ∃ fd : FuncData, (∀ (s : Shared) (v : Value), BindsTo s fd ⟨[v], []⟩ [("_law_script", v)]) ∧ Fun (K w.params) "law" "law" st_law fa fd ∧ TopOk l.prog w (K w.params) mg 4 ["_law_script", "_law_stream", "_law_turn", "_law_some", "_law_text_here", "_law_positions", "_law_due", "_law_again", "_law_found", "_law_k"] "law" st_law fa (fun a ns H => SqL (K w.params) H a (ns.map V.int))) :
    PySem.W.WalkO q loose XP YP l.row.toRowW d [] (fun f vs => PySem.call f vs) :=
  top_walk (n := 63) (k := 4) (N := ["_law_script", "_law_stream", "_law_turn", "_law_some", "_law_text_here", "_law_positions", "_law_due", "_law_again", "_law_found", "_law_k"]) (p := "_law_script") (st := st_law) (ok := fun K a ns H => SqL K H a (ns.map V.int)) hn (by decide) hdf sc_law ⟨rfl, by decide, by decide⟩ hY (fun w mg fa h a b c => by rw [hnm] at c ⊢; exact F w mg fa h a b c) fun _ _ _ _ _ h => h
end K48
open PySem PySem.W PyProof.Rows in
set_option maxRecDepth 100000 in
set_option maxHeartbeats 0 in
theorem PySem.Challenge.cw_hushgrain_k48_tokens_of_texts_holds : PySem.Challenge.rw_hushgrain_k48_tokens_of_texts.Holds := by
  w_on; o_law; k_head; (case hw => w_witness2)
  k_fill
  refine K48.walk (l := PySem.Challenge.rw_hushgrain_k48_tokens_of_texts) rfl rfl rfl (fun w h Y => PySem.W.kIn_of Y) ?F
  case F =>
    intro w mg fa h KX G hmg
    refine' K48.all_mk KX G hmg ?a_frozen ?l_frozen ?c_frozen ?k_frozen ?a_is_word ?l_is_word ?c_is_word ?k_is_word ?a_tokens ?l_tokens ?c_tokens ?k_tokens ?a__token ?l__token ?c__token ?k__token ?a__letters ?l__letters ?c__letters ?k__letters ?a__digits ?l__digits ?c__digits ?k__digits ?a__word ?l__word ?c__word ?k__word ?a__run_end ?l__run_end ?c__run_end ?k__run_end ?a_l_draw ?l_l_draw ?c_l_draw ?k_l_draw ?a_l_reserved ?l_l_reserved ?c_l_reserved ?k_l_reserved ?a_l_name ?l_l_name ?c_l_name ?k_l_name ?a_l_symbols ?l_l_symbols ?c_l_symbols ?k_l_symbols ?a_l_token ?l_l_token ?c_l_token ?k_l_token ?a_l_need_space ?l_l_need_space ?c_l_need_space ?k_l_need_space ?a_l_text ?l_l_text ?c_l_text ?k_l_text ?a_law ?l_law ?c_law ?k_law ?g_LETTERS ?g_DIGITS ?g_NAME_CHARACTERS ?g_RESERVED ?gl_RESERVED ?gc_RESERVED ?gd_RESERVED ?g_LONGEST ?g_LONG_SYMBOLS ?gl_LONG_SYMBOLS ?gc_LONG_SYMBOLS ?gd_LONG_SYMBOLS ?g_SHORT_SYMBOLS ?g_MOST_DIGITS ?z_all ?z_int ?z_isinstance ?z_len ?z_list ?z_max ?z_range ?z_repr ?z_str ?z_tuple
    (case a_frozen => k_is)
    (case l_frozen => k_is)
    (case c_frozen => k_is)
    (case k_frozen => k_is)
    (case a_is_word => k_is)
    (case l_is_word => k_is)
    (case c_is_word => k_is)
    (case k_is_word => k_is)
    (case a_tokens => k_is)
    (case l_tokens => k_is)
    (case c_tokens => k_is)
    (case k_tokens => k_is)
    (case a__token => k_is)
    (case l__token => k_is)
    (case c__token => k_is)
    (case k__token => k_is)
    (case a__letters => k_is)
    (case l__letters => k_is)
    (case c__letters => k_is)
    (case k__letters => k_is)
    (case a__digits => k_is)
    (case l__digits => k_is)
    (case c__digits => k_is)
    (case k__digits => k_is)
    (case a__word => k_is)
    (case l__word => k_is)
    (case c__word => k_is)
    (case k__word => k_is)
    (case a__run_end => k_is)
    (case l__run_end => k_is)
    (case c__run_end => k_is)
    (case k__run_end => k_is)
    (case a_l_draw => k_is)
    (case l_l_draw => k_is)
    (case c_l_draw => k_is)
    (case k_l_draw => k_is)
    (case a_l_reserved => k_is)
    (case l_l_reserved => k_is)
    (case c_l_reserved => k_is)
    (case k_l_reserved => k_is)
    (case a_l_name => k_is)
    (case l_l_name => k_is)
    (case c_l_name => k_is)
    (case k_l_name => k_is)
    (case a_l_symbols => k_is)
    (case l_l_symbols => k_is)
    (case c_l_symbols => k_is)
    (case k_l_symbols => k_is)
    (case a_l_token => k_is)
    (case l_l_token => k_is)
    (case c_l_token => k_is)
    (case k_l_token => k_is)
    (case a_l_need_space => k_is)
    (case l_l_need_space => k_is)
    (case c_l_need_space => k_is)
    (case k_l_need_space => k_is)
    (case a_l_text => k_is)
    (case l_l_text => k_is)
    (case c_l_text => k_is)
    (case k_l_text => k_is)
    (case a_law => k_is)
    (case l_law => k_is)
    (case c_law => k_is)
    (case k_law => k_is)
    (case g_LETTERS => k_is)
    (case g_DIGITS => k_is)
    (case g_NAME_CHARACTERS => k_is)
    (case g_RESERVED => k_is)
    (case gl_RESERVED => k_is)
    (case gc_RESERVED => rfl)
    (case gd_RESERVED => rfl)
    (case g_LONGEST => k_is)
    (case g_LONG_SYMBOLS => k_is)
    (case gl_LONG_SYMBOLS => k_is)
    (case gc_LONG_SYMBOLS => rfl)
    (case gd_LONG_SYMBOLS => rfl)
    (case g_SHORT_SYMBOLS => k_is)
    (case g_MOST_DIGITS => k_is)
    (case z_all => k_is)
    (case z_int => k_is)
    (case z_isinstance => k_is)
    (case z_len => k_is)
    (case z_list => k_is)
    (case z_max => k_is)
    (case z_range => k_is)
    (case z_repr => k_is)
    (case z_str => k_is)
    (case z_tuple => k_is)
