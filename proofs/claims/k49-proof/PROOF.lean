import PyProof.Rows.All
import Wide.All
import OpenK.AllK
import Wide.FinOn
import HandS.ForMost
import HandS.ForExc
import HandS.IsInst
import HandS.Wide
import HandS.Gcd
import HandS.Zip
import HandS.Rev
import HandS.TupAny
import HandS.Strs
import HandS.SortInts
import HandS.ExcInit
import HandS.Nested
import HandS.Walk
import KE.GoesEnum
import HandS.SetFor
import KE.KExcSuper
import HandS.TupMul
import HandS.Style
import HandS.EndBits
import PyProof.ReprRoads
import HandS.StrMore
import HandS.Text
import PyProof.StrBlock2
import PyProof.Rows.StrMul
import PyProof.StrLawsIn
import HandS.ExcField
import HandS.ExcIs
import KE.KExcIs
import HandS.RevRange
import HandS.Conv
import PyProof.ReprLen
import KE.DataAny
import KE.KIndexOf
import HandS.Flow
import HandS.TupLe
import HandS.Dict
import HandS.Small
import KE.KDictDisplayH
import HandS.Defaults
import KE.GoesMore
import KE.GoesZip
import HandS.TupLen
import Flt.RightSqrt
import PyProof.NeKinds
import KE.IntTextLaws
import HandS.OwnEq
import PyProof.InstNe
import HandS.Lambda
import HandS.EndTab
import HandS.ExcOwn
import HandS.Words
import KE.KMinKey
import HandS.SortKw
import PySem.Challenge.RW_hushgrain_k49_texts_without_tokens
import PyProof.Rows.ReprOcc
import PyProof.P3Eq
import KE.KDictZip
import KE.KItemsList
import KE.KMathG
import PyProof.NoPylong
import PyProof.Calls
import HandS.EndOwn
import HandS.Exc
import HandS.RaiseMore
set_option Elab.async false
set_option linter.all false
set_option maxRecDepth 100000
set_option maxHeartbeats 2000000
namespace Hg
open PySem PySem.Spec PyProof.Rows L2
section
variable {X : Cx}
/-! ### operators of several kinds at once -/
abbrev rAddI : R2 := rI0 fun i j => .int (i + j)
abbrev rAddS : R2 := fun x y H Q => ∃ i j, x = .str i ∧ y = .str j ∧ i.length + j.length ≤ sizeLine ∧ Q (.str (i ++ j)) H
def rPlus (K : PySem.W.Frag) : R2 := fun x y H Q => rAddI x y H Q ∨ (rCat x y H Q ∨ (rCatA K x y H Q ∨ rAddS x y H Q))
theorem oAdd : OpR X (binaryOp .Add) (rPlus X.K) := op_add.or (op_cat.or (op_catA.or op_add_str))
abbrev rMulI : R2 := rI CMulW fun i j => .int (i * j)
theorem oMul : OpR X (binaryOp .Mult) rMulI := op_mulW
/-- // by any divisor but 0 below 2 ^ 9000 in size -/
def CDivA (_ j : Int) : Prop := j ≠ 0 ∧ j.natAbs.log2 < 9000
abbrev rDivI : R2 := rI CDivA fun i j => .int (i.fdiv j)
theorem oDiv : OpR X (binaryOp .FloorDiv) rDivI := opI fun i j _ _ _ _ _ hc q =>
  PyProof.Rows.floordiv_int hc.1 q (.inl (PyProof.noPylong_of_log2 hc.2))
abbrev rModI : R2 := rI (fun _ j => j ≠ 0) fun i j => .int (i.fmod j)
theorem oMod : OpR X (binaryOp .Mod) rModI := op_modN
def rEqA (K : PySem.W.Frag) : R2 := fun x y H Q => rEq x y H Q ∨ rEqD K x y H Q
def rNeA (K : PySem.W.Frag) : R2 := fun x y H Q => rNe x y H Q ∨ rNeD K x y H Q
theorem oEq (hu : X.A.units + 64 < cLine) : OpR X (compareOp .Eq) (rEqA X.K) := op_eq.or (op_eqD hu)
theorem oNe (hu : X.A.units + 64 < cLine) : OpR X (compareOp .NotEq) (rNeA X.K) := op_ne.or (op_neD hu)
/-! ### isqrt -/
end
end Hg
set_option maxHeartbeats 4000000
namespace Hg
open PySem PySem.Spec PyProof.Rows L2
/-! ### a list or a tuple, by a flag -/
def SqK (K : PySem.W.Frag) : Bool → Hp → Addr → List V → Prop
  | true => SqT K
  | false => SqL K
def ItK (K : PySem.W.Frag) : Bool → Addr → It
  | true => Itt K
  | false => Itl K
theorem SqK.inj {X : Cx} {pins : List (Addr × Obj)} {σ : L2.St} {H : Hp} {s : Shared} {k : Bool} {a : Addr} {xs ys : List V} (I : Inv X pins σ H s) (h : SqK X.K k H a xs) (h' : SqK X.K k H a ys) : xs = ys := by
  cases k with
  | true => exact I.tuple_inj h h'
  | false => exact I.list_inj h h'
theorem walk_k {K : PySem.W.Frag} {k : Bool} {a : Addr} {xs : List V} : Walk (ItK K k a) xs.length (fun H => SqK K k H a xs) (YAt xs) := by
  cases k with
  | true => exact ⟨fun i _ hi q => ⟨xs, xs[i], q, by simp [hi]⟩, fun _ q => ⟨xs, q, Nat.le_refl _⟩, fun i H v H' _ q y => ⟨y.1, y.2 xs q⟩⟩
  | false => exact ⟨fun i _ hi q => ⟨xs, xs[i], q, by simp [hi]⟩, fun _ q => ⟨xs, q, Nat.le_refl _⟩, fun i H v H' _ q y => ⟨y.1, y.2 xs q⟩⟩
def iSeq (K : PySem.W.Frag) (te : TE) : TI := fun σ H R => te σ H fun x H1 => ∃ (k : Bool) (a : Addr) (xs : List V), x = .ref a ∧ SqK K k H1 a xs ∧ R (ItK K k a) H1
section
variable {X : Cx} {tg : Expr}
theorem pi_seq {e : Expr} {te : TE} (he : PE X e te) : PI X tg e (iSeq X.K te) := by
  refine ⟨fun pins s σ H R I h => thn (he.run pins s σ H _ I h) ?_⟩
  rintro v s1 ⟨x, H1, I1, r1, k, a, xs, rfl, hq, q⟩
  cases (show v = Value.ref a from r1)
  have one : ∀ b ∈ [s1.heap.objs.size], FpOk X pins H1 b := fun b hb => by
    rw [List.mem_singleton.mp hb]
    exact I1.fpOk (Nat.le_refl _) I1.fresh
  have up : ∀ o, Inv X pins σ H1 { s1 with heap := s1.heap.push o, toks := s1.toks } := fun o => I1.kept (t' := s1.toks) fun b u e => Heap.get?_push_of_some _ e
  cases k with
  | true =>
    obtain ⟨its, rv, p, hz⟩ := I1.tuple hq
    exact wpAny_pyIter_tuple (show s1.heap.IsTuple a its.toArray from p) ⟨_, [s1.heap.objs.size], _, _, H1, rfl, up _, turn_tuple a _, ⟨_, Heap.get?_push_size _ rfl, rfl, rfl⟩, one, q⟩
  | false =>
    obtain ⟨its, rv, p, hz⟩ := I1.list hq
    exact wpAny_pyIter_list p.isList ⟨_, [s1.heap.objs.size], _, _, H1, rfl, up _, turn_list a _, ⟨_, Heap.get?_push_size _ rfl, rfl, rfl⟩, one, q⟩
end
/-! ### zip of two of them -/
end Hg
set_option maxHeartbeats 8000000
namespace Hg
open PySem PySem.Spec PyProof.Rows L2
end Hg
set_option maxHeartbeats 4000000
namespace Hg
open PySem PySem.Spec PyProof.Rows L2
/-- what the top has left of an error class at C whose __init__ stands at fI, its class cell at cc, its code at cda -/
structure ErrK (P : Program) (K : PySem.W.Frag) (mg : Str → Option Value) (C fI cc cda : Addr) : Prop where
  oex : OexC K C
  code : ∃ (ccl : Value) (cdd : Option Addr) (vs : Array Value) (ccs : Array (Option Value)) (tf : Tok) (fl : Str), K.lookup cda = some ⟨ccl, cdd, .fields vs, ccs⟩ ∧ vs[2]? = some (.str fl tf) ∧ ((P.main.file : Str) == fl) = true
  cell : ∃ (cl : Value) (cld : Option Addr) (csl : Array (Option Value)), K.lookup cc = some ⟨cl, cld, .cell (some (.ref C)), csl⟩
  cls : ∃ cd, PySem.W.clsIn K C = some cd
  own : PySem.W.mroIn K C (.ref C) = some true
  ve : PySem.W.subIn K (.ref C) (.type "ValueError") = some true
  sup : PySem.W.ks_superIn K C C "__init__" = some (some (.builtin "ValueError.__init__"))
  opq : PySem.W.nsIn K cStatics "thirdparty.any" = some none
  zsup : mg "super" = none
  top : (P.main.scope.names.lookup ("super" : Str)).isSome = false
section
variable {P : Program} {w : World} {K : PySem.W.Frag} {mg : Str → Option Value} {base : Heap} {CX : CXT} {C fI cc cda : Addr}
variable {qual : Str} {params : Arguments} {rest : List Stmt} {scope : Scope} {doc pm ct oc : Value} {od : Option Addr} {osl : Array (Option Value)} {N ps : List Str} {k : Nat} {sp : Sp}
def nfOf (qual : Str) (params : Arguments) (body : List Stmt) (scope : Scope) (cc cda : Addr) : NdefX.NF := ⟨"__init__", qual, params, body, scope, [("__class__", cc)], cda⟩
theorem cls_data {h : Heap} {cd : ClassData} (X : K.In h) (e : PySem.W.clsIn K C = some cd) : ∃ o, h.get? C = some o ∧ o.data = .cls cd := by
  unfold PySem.W.clsIn at e
  split at e
  · cases e
    exact ⟨_, X _ _ (by assumption), rfl⟩
  · cases e
theorem exo_inst {h : Heap} {x t1 : Addr} (e : h.get? x = some ({ cls := .ref C, dict := none, data := .fields #[.ref t1, .none, .none, .none, .bool false, .none] } : Obj)) :
    PySem.W.InstAt h x { cls := .ref C, dict := none, data := .fields #[.ref t1, .none, .none, .none, .bool false, .none] } C none := ⟨e, rfl, rfl, trivial⟩
/-- the class cell as the captured name -/
theorem cells_at (T : ErrK P K mg C fI cc cda) {h : Heap} {H : Hp} (X : K.In h) (hn : H cc = none) : NdefX.CellsAt [("__class__", cc)] ["__class__"] [some (.ref C)] h H := by
  obtain ⟨cl, cld, csl, e⟩ := T.cell
  have hc : h.IsCell cc (some (.ref C)) := ⟨_, X _ _ e, rfl⟩
  have key : ∀ y c, List.lookup y [(("__class__" : Str), cc)] = some c → y = "__class__" ∧ c = cc := fun y c q => by
    simp only [List.lookup] at q
    split at q
    · exact ⟨by simpa using (by assumption : (y == ("__class__" : Str)) = true), (Option.some.inj q).symm⟩
    · cases q
  refine ⟨rfl, fun y c q => ?_, fun x y c a b => ((key x c a).1).trans ((key y c b).1).symm, fun i y q => ?_⟩
  · obtain ⟨_, rfl⟩ := key y c q
    exact ⟨hn, _, hc⟩
  · cases i with
    | zero =>
      have e2 : y = "__class__" := (Option.some.inj q).symm
      subst e2
      refine ⟨cc, by simp [List.lookup], fun v hv => ?_⟩
      have e3 : v = .ref C := (Option.some.inj (Option.some.inj hv)).symm
      subst e3
      exact ⟨.ref C, rfl, hc⟩
    | succ n => simp at q
/-- the equation of the tree super().__init__('text'), by rfl where the places are written -/
def SupEq (F : NdefX.NF) (fI L : Addr) (txt : Str) (jj : Nat) (p0 p1 p2 p3 p4 : Pos) (pl : Sem Bool) : Prop :=
  eval (.Call (.Attribute (.Call (.Name "super" p0) [] [] p1) "__init__" p2) [.Constant (.str txt) jj p3] [] p4) (NdefX.envF F fI L) = (do
    let ov ← attributeBase (.Call (.Name "super" p0) [] [] p1) "__init__" (NdefX.envF F fI L) (eval (.Call (.Name "super" p0) [] [] p1) (NdefX.envF F fI L))
    standAt p2.atName
    let (f, first) ← holding [ov] (getMethod ov "__init__" pl)
    callWith p4 f first (backTo p4 (starEach [.Constant (.str txt) jj p3] (NdefX.envF F fI L))) [])
/-- super().__init__('text') as the first row of an error's __init__: behind it all that was tracked stands -/
theorem super_run (T : ErrK P K mg C fI cc cda) {body : List Stmt} {txt : Str} {jj : Nat} {p0 p1 p2 p3 p4 p5 : Pos}
    {A : Around} {outer : List Env} {s : Shared} {H H0 : Hp} {E : XK} {s1 : Shared} {ws : List (Option V)} {a : Addr}
    (S : NdefX.NScope N ps ["__class__"] scope) (lf : K.lookup fI = some ⟨oc, od, .func ((nfOf qual params body scope cc cda).fd doc pm ct), osl⟩)
    (par : ∃ ar, (params.posonlyargs ++ params.args).head? = some ar ∧ ar.arg = "self") (hself : N[0]? = some ("self" : Str)) (hks : scope.names.lookup ("super" : Str) = some .globalImplicit) (hkc : scope.names.lookup ("__class__" : Str) = some .free) (hka : scope.names.lookup ("self" : Str) = some .local)
    (I : Inv (NdefX.ncx CX P w K mg base N (nfOf qual params body scope cc cda) fI A outer s H0 E) [] ws H s1) (hw : ws[0]? = some (some (.ref a))) (ea : H a = some (exo a C none))
    {Q : Flow → Shared → Prop} {E1 : Value → Shared → Prop} {pl : Sem Bool} (he : ∀ L, SupEq (nfOf qual params body scope cc cda) fI L txt jj p0 p1 p2 p3 p4 pl)
    (q : ∀ s2, Inv (NdefX.ncx CX P w K mg base N (nfOf qual params body scope cc cda) fI A outer s H0 E) [] ws H s2 → Q .next s2) :
    PySem.wpAt (model P w) (A.deeper (NdefX.envF (nfOf qual params body scope cc cda) fI s.heap.objs.size)) (.func body (NdefX.envF (nfOf qual params body scope cc cda) fI s.heap.objs.size))
      (exec (.Expr (.Call (.Attribute (.Call (.Name "super" p0) [] [] p1) "__init__" p2) [.Constant (.str txt) jj p3] [] p4) p5) (NdefX.envF (nfOf qual params body scope cc cda) fI s.heap.objs.size)) Q E1 s1 := by
  obtain ⟨ccl, cdd, cvs, ccs, tf, fl, lcode, hv2, hfile⟩ := T.code
  obtain ⟨cl, cld, csl, lcell⟩ := T.cell
  obtain ⟨cd, hcd⟩ := T.cls
  obtain ⟨ar, har, hars⟩ := par
  have X : K.In s1.heap := I.kIn
  obtain ⟨oD, hD1, hD2⟩ := cls_data X hcd
  obtain ⟨m, hns, hloc⟩ := I.loc
  obtain ⟨u, ru, hu⟩ := hloc 0 "self" (.ref a) hself hw (.inl hka)
  cases (show u = Value.ref a from ru)
  have hm : m "self" = some (.ref a) := by
    rcases hu with ⟨_, z⟩ | ⟨z, _⟩
    · exact z
    · rcases z with z | z
      · have z2 := hka.symm.trans z
        cases z2
      · have z2 := hka.symm.trans z
        cases z2
  obtain ⟨t1, ho⟩ := exo_at I.hok ea
  have hloc0 : (NdefX.envF (nfOf qual params body scope cc cda) fI s.heap.objs.size).kindOf "self" = some .local := hka
  refine PySem.ks_wpAt_Expr_any (PySem.ks_wpAt_MethodCall ?_ (he s.heap.objs.size)) I.quiet rfl
  refine PySem.ks_wpAt_super_base (ar := ar) (vs := cvs) (file := fl) (tf := tf) (cc := cda) hks hkc (by decide) rfl (X _ _ lf) rfl har rfl (X _ _ lcode) rfl hv2 hfile T.top ?_
  obtain ⟨mb, hb1, hb2⟩ := I.mod.blt
  have hg : (NdefX.envF (nfOf qual params body scope cc cda) fI s.heap.objs.size).kindOf "super" = some .globalImplicit := hks
  refine PySem.W.ks_loadName_global S.kind hg (Calls.loadGlobal_builtin (I.mod.glob.keeps I.bk) T.zsup (hb1.keeps I.bk) ((hb2 _ (by decide +kernel)).trans PyProof.Rows.Boot.«super») ⟨rfl, ?_⟩)
  refine wpAny_loadName_free S.kind hkc rfl ⟨_, X _ _ lcell, rfl⟩ ?_
  rw [hars]
  refine wpAny_loadName_local S.kind hka hns hm ?_
  obtain ⟨hp, g, d, t, os⟩ := s1
  refine PySem.ks_wpAny_isType_cls hD1 hD2 ⟨rfl, ?_⟩
  refine PySem.ks_wpAny_call_super hD1 hD2 ho rfl (fun c z => by cases z) (PySem.W.looks_mroIn X T.own) (fun h2 e2 k2 => ?_)
  have I2 := I.kept (h' := h2) (t' := t) k2
  have X2 : K.In h2 := I2.kIn
  have ho2 := k2 _ _ ho
  have hin : PySem.W.Looks (model P w) h2 (isInstance (.ref a) (.type "ValueError")) true := (exo_inst ho2).type.andThen (PySem.W.looks_subIn X2 T.ve)
  have hsup := T.sup
  unfold PySem.W.ks_superIn at hsup
  rw [hcd, Option.bind_some] at hsup
  have hac : a ≠ C := PySem.W.ks_ne X2 (exo_inst ho2) hcd
  refine PySem.W.kxs_getMethod PySem.W.kxs_ValueError e2 (PySem.W.looks_opaque X2 T.opq) (l₀ := cd.mro) (fun A Q E s k q => wpAny_bind ((PySem.W.looks_clsIn X2 hcd) A _ E s k (wpAny_pure q))) rfl X2 hsup hin hac (by decide) ?_
  have k3 : ∀ b o, h2.get? b = some o → (h2.push (PySem.W.kxs_mw "ValueError.__init__" a)).get? b = some o := fun b o e => Heap.get?_push_of_some _ e
  have e3 : (h2.push (PySem.W.kxs_mw "ValueError.__init__" a)).get? h2.objs.size = some (PySem.W.kxs_mw "ValueError.__init__" a) := Heap.get?_push_at rfl rfl
  have I3 := I2.kept (h' := h2.push (PySem.W.kxs_mw "ValueError.__init__" a)) (t' := t + 1) k3
  refine PySem.W.kxs_callWith (i := "ValueError.__init__") (x := a) rfl ?_
  have hst : starEach [Expr.Constant (.str txt) jj p3] (NdefX.envF (nfOf qual params body scope cc cda) fI s.heap.objs.size) = (false, eval (Expr.Constant (.str txt) jj p3) (NdefX.envF (nfOf qual params body scope cc cda) fI s.heap.objs.size)) :: starEach [] (NdefX.envF (nfOf qual params body scope cc cda) fI s.heap.objs.size) := rfl
  rw [hst]
  refine PySem.Calls.evalArgs_plain (PyProof.Rows.args_cons (PySem.Calls.Constant_str (PyProof.Rows.args_nil ⟨e3, ?_⟩)) rfl)
  have ho3 := k3 _ _ ho2
  obtain ⟨nm, qn, NN, bs, bm, sn, sub, ab, col, dd, k0, k1, k2', k3', k5, hC, hbm⟩ := T.oex.cls
  have hC3 := k3 _ _ (X2 _ _ hC)
  refine wpAny_call (codeAny_of_tree ?_)
  show PySem.wpAny _ _ (callAny (.ref h2.objs.size) ⟨_, []⟩) _ _ _
  simp only [callAny]
  refine wpAny_bind (wpAny_load e3 ?_)
  have mw1 : (Value.type "method-wrapper" == Value.type "method" || Value.type "method-wrapper" == Value.type "builtin_function_or_method" || Value.type "method-wrapper" == Value.type "method-wrapper") = true := by decide
  simp only [PySem.W.kxs_mw, mw1, if_true]
  refine PySem.W.KFB.if_so (by decide) (wpAny_bind (PySem.W.check_bound_init F.excBase_ValueError.toExcCallFacts hC3 ho3 rfl ?_))
  refine wpAny_bind (wpAny_pure (wpAny_pure ⟨plainId_quiet F.excBase_ValueError.init.plain _, codeAny_builtin F.excBase_ValueError.initEntry ?_⟩))
  refine PySem.W.exc_init_tree (cls := .ref C) (t0 := t1) (dv := none) (c2 := .none) (c3 := .none) (b4 := .bool false) ho3 (by rw [sizeLine_eq]; exact (by decide : 1 ≤ 16777216)) fun h5 k5 e5 _ => ?_
  have I5 := I3.write (t' := t + 1 + 1) (x := a) (e := a) (o := exo a C none) (by rw [ea]; exact True.intro) (.inl rfl) k5 ⟨_, e5⟩ (exo_ok e5)
  have eu : upd H a (exo a C none) = H := by
    funext b
    by_cases hb : b = a
    · rw [hb, upd_same, ea]
    · rw [upd_ne hb]
  rw [eu] at I5
  exact q _ I5
end
end Hg
set_option maxHeartbeats 4000000
namespace Hg
open PySem PySem.Spec PyProof.Rows L2
section
variable {P : Program} {w : World} {K : PySem.W.Frag} {mg : Str → Option Value} {base : Heap} {C fI cc cda : Addr}
variable {qual : Str} {params : Arguments} {rest : List Stmt} {scope : Scope} {doc pm ct oc : Value} {od : Option Addr} {osl : Array (Option Value)} {N ps : List Str} {k : Nat} {sp : Sp}
def supRow (txt : Str) (jj : Nat) (p0 p1 p2 p3 p4 p5 : Pos) : Stmt := .Expr (.Call (.Attribute (.Call (.Name "super" p0) [] [] p1) "__init__" p2) [.Constant (.str txt) jj p3] [] p4) p5
/-- THE RULE for the __init__ of an error class whose first row is super().__init__('text'): sp speaks of .ref a :: .., a the fresh exception -/
theorem fn_err (T : ErrK P K mg C fI cc cda) {txt : Str} {jj : Nat} {p0 p1 p2 p3 p4 p5 : Pos} {pl : Sem Bool}
    (S : NdefX.NScope N ps ["__class__"] scope) (lf : K.lookup fI = some ⟨oc, od, .func ((nfOf qual params (supRow txt jj p0 p1 p2 p3 p4 p5 :: rest) scope cc cda).fd doc pm ct), osl⟩)
    (hcode : PySem.W.codeIn K (.ref cda) qual = true)
    (par : ∃ ar, (params.posonlyargs ++ params.args).head? = some ar ∧ ar.arg = "self") (hps : ps[0]? = some ("self" : Str)) (hks : scope.names.lookup ("super" : Str) = some .globalImplicit)
    (he : ∀ L, SupEq (nfOf qual params (supRow txt jj p0 p1 p2 p3 p4 p5 :: rest) scope cc cda) fI L txt jj p0 p1 p2 p3 p4 pl)
    (len : ∀ vs H Q E, sp vs H Q E → vs.length = ps.length) (hself : ∀ vs H Q E, sp vs H Q E → ∃ a us, vs = .ref a :: us ∧ H a = some (exo a C none))
    (hbody : ∀ (A : Around) (outer : List Env) (s : Shared) (H : Hp) (vs : List V) (Q : VK) (E : XK), Room k (A.deeper (NdefX.envF (nfOf qual params (supRow txt jj p0 p1 p2 p3 p4 p5 :: rest) scope cc cda) fI s.heap.objs.size)) → sp vs H Q E →
      ∃ t, PSs (NdefX.ncx CX0 P w K mg base N (nfOf qual params (supRow txt jj p0 p1 p2 p3 p4 p5 :: rest) scope cc cda) fI A outer s H E) rest t ∧ t { nx := fun _ H' => Q .non H', rt := Q } (NdefX.startF N vs [some (.ref C)]) H) :
    FnOk P w K mg base CX0 (k + 1) fI ((nfOf qual params (supRow txt jj p0 p1 p2 p3 p4 p5 :: rest) scope cc cda).fd doc pm ct) ps sp := by
  refine ⟨len, fun A outer s H args us vs Q E hr e0 hb r hsp => ?_⟩
  have hl := len _ _ _ _ hsp
  have X : K.In s.heap := e0.mod.kin.keeps fun b o e => (e0.bs b o e).1
  have lim : s.heap.NoLimit := e0.mod.nolimit.keeps fun b o e => (e0.bs b o e).1
  have Hcc : H cc = none := by
    obtain ⟨cl, cld, csl, lc⟩ := T.cell
    exact (e0.bs _ _ (e0.mod.kin _ _ lc)).2
  have CA := cells_at T X Hcc
  have hka : ∀ y ∈ ps.zip us, scope.names.lookup y.1 = some .local := fun ⟨n, _⟩ hy => S.par n (List.of_mem_zip hy).1
  refine PySem.ks_codeAny_call_defAt hr.depth (X _ _ lf) rfl lim (PySem.W.codeRec_of X hcode) rfl hb S.nocell hka (fun h₁ hns kp => ?_) S.co S.gen S.kind
  obtain ⟨a, us', rfl, ea⟩ := hself _ _ _ _ hsp
  have I : Inv (NdefX.ncx CX0 P w K mg base N (nfOf qual params (supRow txt jj p0 p1 p2 p3 p4 p5 :: rest) scope cc cda) fI A outer s H E) [] (NdefX.startF N (.ref a :: us') [some (.ref C)]) H { s with heap := h₁, toks := s.toks + (ps.zip us).length } := NdefX.inv_startN S hr.hd e0 hl r CA hns kp
  have hN0 : N[0]? = some ("self" : Str) := by
    have q : (N.take (ps.length + 1))[0]? = (ps ++ [("__class__" : Str)])[0]? := congrArg (fun l : List Str => l[0]?) S.pre
    rw [List.getElem?_take_of_lt (by omega)] at q
    rw [q]
    cases ps with
    | nil => simp at hps
    | cons p r => exact hps
  have hpar : scope.names.lookup ("self" : Str) = some .local := S.par _ (List.mem_of_getElem? hps)
  refine PySem.ks_wpAt_execs_cons (super_run T S lf par hN0 hks (S.frk _ (by simp)) hpar I (by simp [NdefX.startF]) ea he fun s2 I2 => ?_)
  obtain ⟨t, ht, hq⟩ := hbody A outer s H (.ref a :: us') Q E (hr.deeper _) hsp
  refine PySem.wpAt_of_wpAny (PySem.wpAny_mono (ht.run [] _ _ H _ I2 hq) (fun fl s' hs => ?_) fun e s' hs => hs)
  have fin : ∀ {σ' : L2.St} {H' : Hp} {v : V} {u : Value}, Inv (NdefX.ncx CX0 P w K mg base N (nfOf qual params (supRow txt jj p0 p1 p2 p3 p4 p5 :: rest) scope cc cda) fI A outer s H E) [] σ' H' s' → L2.RelV v u → Q v H' → CE outer P w H s Q u s' :=
    fun {σ' H' v u} J rv q => ⟨v, H', J.os, J.bare, J.base, J.hok, rv, q⟩
  cases fl with
  | ret u =>
    obtain ⟨v, σ', H', J, rv, q⟩ := hs
    exact fin J rv q
  | next =>
    obtain ⟨σ', H', J, q⟩ := hs
    exact fin (v := V.non) (u := Value.none) J rfl q
  | brk =>
    obtain ⟨_, _, _, q⟩ := hs
    exact False.elim q
  | cont =>
    obtain ⟨_, _, _, q⟩ := hs
    exact False.elim q
end
end Hg
set_option maxHeartbeats 4000000
namespace Hg
open PySem PySem.Spec PyProof.Rows L2
end Hg
set_option maxHeartbeats 4000000
namespace Hg
open PySem PySem.Spec PyProof.Rows L2
/-! ### a def of the text, its global name, its arguments -/
structure DefK (K : PySem.W.Frag) (mg : Str → Option Value) (x : Str) (st : Stmt) (ps : List Str) (f : Addr) (fd : FuncData) : Prop where
  mg : mg x = some (.ref f)
  fn : Fun K x x st f fd
  bd : Binds K fd ps []
/-! ### heaps -/
def Ex (H H' : Hp) : Prop := ∀ a o, H a = some o → H' a = some o
theorem Ex.refl (H : Hp) : Ex H H := fun _ _ h => h
theorem Ex.trans {A B C : Hp} (x : Ex A B) (y : Ex B C) : Ex A C := fun a o h => y a o (x a o h)
theorem Ex.new {H : Hp} {p : Addr} {o : HO} (h : H p = none) : Ex H (upd H p o) := fun a u e => (upd_ne (ne_of_none e h)).trans e
theorem Ex.up {G H : Hp} {p : Addr} {o : HO} (x : Ex G H) (h : G p = none) : Ex G (upd H p o) := fun a u e => (upd_ne (ne_of_none e h)).trans (x _ _ e)
theorem Ex.free {H H' : Hp} (x : Ex H H') {p : Addr} (h : H' p = none) : H p = none := by
  cases e : H p with
  | none => rfl
  | some o =>
    rw [x p o e] at h
    cases h
theorem Ex.seq {K : PySem.W.Frag} {k : Bool} {H H' : Hp} {a : Addr} {xs : List V} (e : Ex H H') (h : SqK K k H a xs) : SqK K k H' a xs := by
  have rd : ∀ {u : HO}, Rd H a u → Rd H' a u := fun {u} z => z.elim (fun z => .inl (e _ _ z)) fun ⟨o, z⟩ => .inr ⟨o, e _ _ z⟩
  cases k with
  | true => exact Or.imp rd id h
  | false => exact Or.imp rd id h
theorem SqK.lst {K : PySem.W.Frag} {H : Hp} {a : Addr} {xs : List V} (h : H a = some (.lst xs)) : SqK K false H a xs := .inl (.inl h)
theorem SqK.tup {K : PySem.W.Frag} {H : Hp} {a : Addr} {xs : List V} (h : H a = some (.tup xs)) : SqK K true H a xs := .inl (.inl h)
theorem SqK.or {K : PySem.W.Frag} {k : Bool} {H : Hp} {a : Addr} {xs : List V} (h : SqK K k H a xs) : SqL K H a xs ∨ SqT K H a xs := by
  cases k with
  | true => exact .inr h
  | false => exact .inl h
/-! ### the drawing stream of a law: at s the list [at q the script's rest, n, c, k] -/
structure Strm (s q : Addr) (B : Nat) (H : Hp) : Prop where
  ne : s ≠ q
  st : ∃ (n c k : Int) (ns : List Int), H s = some (.lst [.ref q, .int n, .int c, .int k]) ∧ H q = some (.lst (ns.map V.int)) ∧ 0 ≤ n ∧ 0 ≤ c ∧ c ≤ (B : Int) ∧ 0 ≤ k ∧ k < 2147483647
/-- G: what lies beside the stream -/
structure Ov (s q : Addr) (B : Nat) (G H : Hp) : Prop where
  sub : Ex G H
  gs : G s = none
  gq : G q = none
  str : Strm s q B H
section
variable {s q : Addr} {B : Nat} {G H : Hp}
theorem Ov.weak (x : Ov s q B G H) {G' : Hp} (e : Ex G' G) : Ov s q B G' H := ⟨e.trans x.sub, e.free x.gs, e.free x.gq, x.str⟩
theorem Ov.more (x : Ov s q B G H) {B' : Nat} (h : B ≤ B') : Ov s q B' G H := by
  obtain ⟨a, b, c, d, n, k, l, ns, e1, e2, e3, e4, e5, e6⟩ := x
  exact ⟨a, b, c, d, n, k, l, ns, e1, e2, e3, e4, by omega, e6⟩
theorem Ov.hs (x : Ov s q B G H) : ∃ o, H s = some o := let ⟨_, _, _, _, e, _⟩ := x.str.st; ⟨_, e⟩
theorem Ov.hq (x : Ov s q B G H) : ∃ o, H q = some o := let ⟨_, _, _, _, _, e, _⟩ := x.str.st; ⟨_, e⟩
/-- a new object beside the stream -/
theorem Ov.new (x : Ov s q B G H) {p : Addr} {o : HO} (hp : H p = none) : Ov s q B (upd G p o) (upd H p o) := by
  have gp : G p = none := x.sub.free hp
  obtain ⟨os, hs⟩ := x.hs
  obtain ⟨oq, hq⟩ := x.hq
  have ns : s ≠ p := ne_of_none hs hp
  have nq : q ≠ p := ne_of_none hq hp
  obtain ⟨ne, n, k, l, ms, e1, e2, e3⟩ := x.str
  refine ⟨fun a u e => ?_, (upd_ne ns).trans x.gs, (upd_ne nq).trans x.gq, ne, n, k, l, ms, (upd_ne ns).trans e1, (upd_ne nq).trans e2, e3⟩
  by_cases h : a = p
  · subst h
    rw [upd_same] at e ⊢
    exact e
  · rw [upd_ne h] at e ⊢
    exact x.sub _ _ e
/-- a new object that nobody keeps -/
theorem Ov.drop (x : Ov s q B G H) {p : Addr} {o : HO} (hp : H p = none) : Ov s q B G (upd H p o) := (x.new hp).weak (Ex.new (x.sub.free hp))
/-- an object of G is changed -/
theorem Ov.put (x : Ov s q B G H) {p : Addr} {o u : HO} (hp : G p = some u) : Ov s q B (upd G p o) (upd H p o) := by
  have ns : s ≠ p := fun e => by rw [← e, x.gs] at hp; cases hp
  have nq : q ≠ p := fun e => by rw [← e, x.gq] at hp; cases hp
  obtain ⟨ne, n, k, l, ms, e1, e2, e3⟩ := x.str
  refine ⟨fun a u e => ?_, (upd_ne ns).trans x.gs, (upd_ne nq).trans x.gq, ne, n, k, l, ms, (upd_ne ns).trans e1, (upd_ne nq).trans e2, e3⟩
  by_cases h : a = p
  · subst h
    rw [upd_same] at e ⊢
    exact e
  · rw [upd_ne h] at e ⊢
    exact x.sub _ _ e
end
/-! ### data of ints -/
theorem dpAll_ints {K : PySem.W.Frag} {H : Hp} : ∀ ns : List Int, DpAll K H (ns.map V.int) (ns.map PyData.int)
  | [] => .nil
  | n :: ns => .cons (.int n) (dpAll_ints ns)
theorem dp_l {K : PySem.W.Frag} {H : Hp} {a : Addr} {ns : List Int} (h : SqL K H a (ns.map V.int)) : Dp K H (.ref a) (.list (ns.map PyData.int)) := .lst h (dpAll_ints ns)
theorem dp_t {K : PySem.W.Frag} {H : Hp} {a : Addr} {ns : List Int} (h : SqT K H a (ns.map V.int)) : Dp K H (.ref a) (.tuple (ns.map PyData.int)) := .tup h (dpAll_ints ns)
theorem lay_ints : ∀ ns : List Int, PyData.canLayAll0 (ns.map PyData.int) = true
  | [] => rfl
  | n :: ns => by simp [PyData.canLayAll0, PyData.canLay0, lay_ints ns]
end Hg
set_option maxHeartbeats 4000000
namespace Hg
open PySem PySem.Spec PyProof.Rows L2
theorem depth_ints : ∀ ns : List Int, PyData.depthAll (ns.map PyData.int) ≤ 1
  | [] => by simp [PyData.depthAll]
  | n :: ns => by
    have := depth_ints ns
    simp [PyData.depthAll, PyData.depth]
    omega
theorem shaped_l (ns : List Int) : SeqAt.shaped (.list (ns.map PyData.int)) = true := by
  have := depth_ints ns
  simp [SeqAt.shaped, PyData.canLay0, PyData.depth, lay_ints]
  omega
theorem shaped_t (ns : List Int) : SeqAt.shaped (.tuple (ns.map PyData.int)) = true := by
  have := depth_ints ns
  simp [SeqAt.shaped, PyData.canLay0, PyData.depth, lay_ints]
  omega
theorem eqv_ints : ∀ xs ys : List Int, PyData.eqvAll (xs.map PyData.int) (ys.map PyData.int) = decide (xs = ys)
  | [], [] => by simp [PyData.eqvAll]
  | [], y :: ys => by simp [PyData.eqvAll]
  | x :: xs, [] => by simp [PyData.eqvAll]
  | x :: xs, y :: ys => by
    have := eqv_ints xs ys
    by_cases h : x = y
    · simp [PyData.eqvAll, PyData.eqv, this, h]
    · simp [PyData.eqvAll, PyData.eqv, this, h]
theorem eqv_l (xs ys : List Int) : PyData.eqv (.list (xs.map PyData.int)) (.list (ys.map PyData.int)) = decide (xs = ys) := by
  rw [PyData.eqv]
  exact eqv_ints xs ys
theorem eqv_t (xs ys : List Int) : PyData.eqv (.tuple (xs.map PyData.int)) (.tuple (ys.map PyData.int)) = decide (xs = ys) := by
  rw [PyData.eqv]
  exact eqv_ints xs ys
/-! ### items at a place -/
theorem at_lt {α : Type} {xs : List α} {i : Int} (h0 : 0 ≤ i) (h1 : i < xs.length) : ∃ v, atI xs i = some v ∧ v ∈ xs := by
  obtain ⟨j, rfl⟩ := Int.eq_ofNat_of_zero_le h0
  have hj : j < xs.length := by omega
  exact ⟨xs[j], atI_nat (by simp [hj]), List.getElem_mem ..⟩
/-! ### sets of ints -/
end Hg
set_option maxHeartbeats 4000000
namespace Hg
open PySem PySem.Spec PyProof.Rows L2
def picked {α : Type} (keep : Nat → Bool) (val : Nat → α) (n : Nat) : List α := ((List.range n).filter keep).map val
theorem picked_succ {α : Type} (keep : Nat → Bool) (val : Nat → α) (n : Nat) : picked keep val (n + 1) = if keep n = true then picked keep val n ++ [val n] else picked keep val n := by
  unfold picked
  rw [List.range_succ, List.filter_append]
  by_cases h : keep n = true
  · simp [h]
  · simp [h]
theorem picked_len {α : Type} (keep : Nat → Bool) (val : Nat → α) (n : Nat) : (picked keep val n).length ≤ n := by
  unfold picked
  rw [List.length_map]
  exact Nat.le_trans (List.length_filter_le _ _) (by simp)
theorem picked_all {α : Type} (val : Nat → α) (n : Nat) : picked (fun _ => true) val n = (List.range n).map val := by
  unfold picked
  rw [List.filter_eq_self.mpr fun _ _ => rfl]
theorem map_range {α β : Type} (xs : List α) (f : α → β) (val : Nat → β) (h : ∀ i x, xs[i]? = some x → val i = f x) : (List.range xs.length).map val = xs.map f := by
  apply List.ext_getElem?
  intro i
  rw [List.getElem?_map, List.getElem?_map]
  by_cases hi : i < xs.length
  · rw [List.getElem?_range hi]
    simp [hi]
    exact h i _ (by simp [hi])
  · simp [hi]
section
variable {J : It} {n : Nat} {G : Hp → Prop} {Y : Nat → Hp → V → Hp → Prop}
/-- a list comprehension whose element changes nothing that stands -/
theorem lc_pure (w : Walk J n G Y) {g : TG} {tt : TT} {te : TE} {vs : List Nat} {σ : L2.St} {H1 : Hp} {D : Addr} {Qd : Hp → Prop} (hD : H1 D = none) (keep : Nat → Bool) (val : Nat → V) (hn : n ≤ 1000000) (hG : ∀ H, Ex H1 H → G H)
    (hs : ∀ i x Hc Hy, i < n → Ex H1 Hc → Y i Hc x Hy → ∀ (Qe : VK) (Qn : Hp → Prop), (keep i = true → ∀ H4, Ex Hc H4 → Qe (val i) H4) → (keep i = false → ∀ H3, Ex Hc H3 → Qn H3) →
      g x (wipe σ vs) Hy fun σ2 H2 => wipe σ2 vs = wipe σ vs ∧ tt σ2 H2 fun b H3 => if b = true then te σ2 H3 Qe else Qn H3)
    (hd : ∀ H, Ex H1 H → H D = some (.lst (picked keep val n)) → Qd H) :
    ∃ W : Nat → Nat → Hp → Prop, (∃ m, W 0 m (upd H1 D (.lst []))) ∧ ∀ i m H, W i m H →
      (J.stop i H ∧ Qd H) ∨ (J.go i H ∧ ∃ Nx : Hp → Prop, (∀ H', Nx H' → ∃ m', m' < m ∧ W (i + 1) m' H') ∧ ∀ x H', J.yld i H x H' → g x (wipe σ vs) H' fun σ2 H2 => wipe σ2 vs = wipe σ vs ∧ tt σ2 H2 fun b H3 =>
        if b = true then te σ2 H3 fun y H4 => ∃ acc, H4 D = some (.lst acc) ∧ acc.length < sizeLine ∧ Nx (upd H4 D (.lst (acc ++ [y]))) else Nx H3) := by
  refine lc_it w (fun i H => Ex H1 H ∧ H D = some (.lst (picked keep val i))) ⟨Ex.new hD, upd_same⟩ (fun i H _ p => hG H p.1) (fun i x Hc Hy hi p y => ?_) (fun H p => hd H p.1 p.2)
  refine hs i x Hc Hy hi p.1 y _ _ (fun hk H4 e => ?_) (fun hk H3 e => ?_)
  · refine ⟨_, e _ _ p.2, Nat.lt_of_le_of_lt (picked_len _ _ _) ?_, (p.1.trans e).up hD, ?_⟩
    · rw [sizeLine_eq]
      omega
    · rw [upd_same, picked_succ, if_pos hk]
  · refine ⟨p.1.trans e, ?_⟩
    rw [picked_succ, if_neg (by rw [hk]; decide)]
    exact e _ _ p.2
end
end Hg
set_option maxHeartbeats 4000000
namespace Hg
open PySem PySem.Spec PyProof.Rows L2
/-! ### the rules with the written part said (within a comprehension's block it must not hang on the block) -/
section
variable {X : Cx} {K : PySem.W.Frag}
theorem kAdd (hK : X.K = K := by rfl) : OpR X (binaryOp .Add) (rPlus K) := hK ▸ oAdd
theorem kEq (hu : X.A.units + 64 < cLine) (hK : X.K = K := by rfl) : OpR X (compareOp .Eq) (rEqA K) := hK ▸ oEq hu
theorem kNe (hu : X.A.units + 64 < cLine) (hK : X.K = K := by rfl) : OpR X (compareOp .NotEq) (rNeA K) := hK ▸ oNe hu
theorem kIx (hK : X.K = K := by rfl) : IxR X (rIx K) := hK ▸ ix_seq
theorem kIn (hK : X.K = K := by rfl) : OpR X (compareOp .In) (rIn K false) := hK ▸ op_in_seq
theorem kIsi (hK : X.K = K := by rfl) : CallR X (.builtin "isinstance") (rIsi K) := hK ▸ call_isi
def rLenK (K : PySem.W.Frag) : List V → Hp → VK → Prop := fun xs H Q => ∃ p ys, xs = [.ref p] ∧ (SqL K H p ys ∨ SqT K H p ys) ∧ Q (.int ys.length) H
theorem kLen (hK : X.K = K := by rfl) : CallR X (.builtin "len") (rLenK K) := hK ▸ call_len_seq
theorem kAll (hc : X.calm = true) (hK : X.K = K := by rfl) : CallR X (.builtin "all") (rAll K) := hK ▸ cr_all hc
def rTupK (K : PySem.W.Frag) : List V → Hp → VK → Prop := fun xs H Q => ∃ p ys, xs = [.ref p] ∧ ((SqL K H p ys ∧ ∀ l, H l = none → Q (.ref l) (upd H l (.tup ys))) ∨ (SqT K H p ys ∧ Q (.ref p) H))
theorem kTup (hK : X.K = K := by rfl) : CallR X (.type "tuple") (rTupK K) := hK ▸ call_tuple_of
def rLstK (K : PySem.W.Frag) : List V → Hp → VK → Prop := fun xs H Q => ∃ p ys, xs = [.ref p] ∧ (SqL K H p ys ∨ SqT K H p ys) ∧ ∀ l, H l = none → Q (.ref l) (upd H l (.lst ys))
theorem kLst (hK : X.K = K := by rfl) : CallR X (.type "list") (rLstK K) := hK ▸ call_list_of
theorem kSeq {tg e : Expr} {te : TE} (he : PE X e te) (hK : X.K = K := by rfl) : PI X tg e (iSeq K te) := hK ▸ pi_seq he
theorem kPgT {es : List Expr} {k : Nat} {pos : Pos} {t : TGs} {n : Nat} (hc : X.calm = true) (h : PGs X es t) (hK : X.K = K := by rfl)
    (hn : (assignEach es X.env).length = n := by rfl) (hst : (assignEach es X.env).findIdx? (·.1) = none := by rfl) : PG X (.Tuple es k pos) (gTup K n t) := hK ▸ pg_tup hc h hn hst
end
end Hg
set_option maxHeartbeats 4000000
namespace Hg
open PySem PySem.Spec PyProof.Rows L2
/-- a block cut behind its first row -/
theorem cut {t u : TS} {D : Ends} {σ : L2.St} {H : Hp} (R : L2.St → Hp → Prop) (h2 : ∀ σ' H', R σ' H' → u D σ' H') (h1 : ∀ N : L2.St → Hp → Prop, (∀ σ' H', R σ' H' → N σ' H') → t { D with nx := N } σ H) : tSeq t u D σ H := h1 _ h2
theorem ixk {K : PySem.W.Frag} {k : Bool} {H : Hp} {p : Addr} {xs : List V} {i : Int} {v : V} {Q : VK} (h : SqK K k H p xs) (e : atI xs i = some v) (q : Q v H) : rIx K (.ref p) (.int i) H Q := by
  cases k with
  | true => exact .inr (.inl ⟨p, xs, i, v, rfl, rfl, h, e, q⟩)
  | false => exact .inl ⟨p, xs, i, v, rfl, rfl, h, e, q⟩
theorem ixl {K : PySem.W.Frag} {H : Hp} {p : Addr} {xs : List V} {i : Int} {v : V} {Q : VK} (h : H p = some (.lst xs)) (e : atI xs i = some v) (q : Q v H) : rIx K (.ref p) (.int i) H Q := ixk (k := false) (SqK.lst h) e q
theorem ixt {K : PySem.W.Frag} {H : Hp} {p : Addr} {xs : List V} {i : Int} {v : V} {Q : VK} (h : H p = some (.tup xs)) (e : atI xs i = some v) (q : Q v H) : rIx K (.ref p) (.int i) H Q := ixk (k := true) (SqK.tup h) e q
section
variable {s q : Addr} {B B' : Nat} {G H : Hp}
theorem Ov.setS (x : Ov s q B G H) {ns : List Int} (hq : H q = some (.lst (ns.map V.int))) {n c k : Int} (h0 : 0 ≤ n) (h1 : 0 ≤ c) (h2 : c ≤ (B' : Int)) (h3 : 0 ≤ k) (h4 : k < 2147483647) : Ov s q B' G (upd H s (.lst [.ref q, .int n, .int c, .int k])) := by
  refine ⟨fun a o e => ?_, x.gs, x.gq, x.str.ne, n, c, k, ns, upd_same, (upd_ne (Ne.symm x.str.ne)).trans hq, h0, h1, h2, h3, h4⟩
  have ns : a ≠ s := fun z => by rw [z, x.gs] at e; cases e
  exact (upd_ne ns).trans (x.sub _ _ e)
theorem Ov.setQ (x : Ov s q B G H) (ns : List Int) : Ov s q B G (upd H q (.lst (ns.map V.int))) := by
  obtain ⟨ne, n, c, k, ms, e1, e2, e3⟩ := x.str
  refine ⟨fun a o e => ?_, x.gs, x.gq, ne, n, c, k, ns, (upd_ne ne).trans e1, upd_same, e3⟩
  have nq : a ≠ q := fun z => by rw [z, x.gq] at e; cases e
  exact (upd_ne nq).trans (x.sub _ _ e)
/-- nothing that stands is changed -/
theorem Ov.ex (x : Ov s q B G H) {H' : Hp} (e : Ex H H') : Ov s q B G H' := by
  obtain ⟨a, b, c, d, n, k, l, ns, e1, e2, e3⟩ := x
  exact ⟨a.trans e, b, c, d, n, k, l, ns, e _ _ e1, e _ _ e2, e3⟩
/-- draw(stream, m): what a law's draw keeps -/
def spDraw : Sp := fun vs H Q _ => ∃ (s q : Addr) (B : Nat) (G : Hp) (m : Int), vs = [.ref s, .int m] ∧ Ov s q B G H ∧ B < 1000000 ∧ 0 < m ∧ m.natAbs < 2 ^ 8000 ∧ ∀ (r : Int) (H' : Hp), 0 ≤ r → r < m → Ov s q (B + 1) G H' → Q (.int r) H'
end
end Hg
set_option maxHeartbeats 4000000
namespace Hg
open PySem PySem.Spec PyProof.Rows L2
open AutoSeq1 (wpAny_loadPart')
/-! ### enumerate over a list or a tuple -/
end Hg
set_option maxHeartbeats 4000000
namespace Hg
open PySem PySem.Spec PyProof.Rows L2
open AutoSeq1 (wpAny_loadPart')
end Hg
set_option maxHeartbeats 4000000
set_option exponentiation.threshold 10000
namespace Hg
open PySem PySem.Spec PyProof.Rows L2
/-! ### kinds -/
def kinds : List String := ["NoneType", "bool", "int", "str", "tuple", "list"]
inductive Kd (H : Hp) : V → String → Prop
  | non : Kd H .non "NoneType"
  | bl (b : Bool) : Kd H (.bl b) "bool"
  | int (i : Int) : Kd H (.int i) "int"
  | str (x : Str) : Kd H (.str x) "str"
  | tup {a : Addr} {xs : List V} : H a = some (.tup xs) → Kd H (.ref a) "tuple"
  | lst {a : Addr} {xs : List V} : H a = some (.lst xs) → Kd H (.ref a) "list"
theorem Kd.mem {H : Hp} {v : V} {n : String} (h : Kd H v n) : n ∈ kinds := by cases h <;> simp [kinds]
theorem Kd.ty {K : PySem.W.Frag} {H : Hp} {v : V} {n : String} (h : Kd H v n) : TyX K H v (.type n) := by
  cases h with
  | non => exact .base .non
  | bl b => exact .base (.bl b)
  | int i => exact .base (.int i)
  | str x => exact .base (.str x)
  | tup e => exact .base (.tup e)
  | lst e => exact .base (.lst e)
theorem Kd.ex {H H' : Hp} {v : V} {n : String} (e : Ex H H') (h : Kd H v n) : Kd H' v n := by
  cases h with
  | non => exact .non
  | bl b => exact .bl b
  | int i => exact .int i
  | str x => exact .str x
  | tup q => exact .tup (e _ _ q)
  | lst q => exact .lst (e _ _ q)
def isI : V → Bool
  | .int _ => true
  | _ => false
theorem kit_tup : ∀ n ∈ kinds, kitB n "tuple" = some (n == "tuple") := by
  intro n h
  simp only [kinds, List.mem_cons, List.not_mem_nil, or_false] at h
  rcases h with h | h | h | h | h | h <;> subst h <;> decide +kernel
/-! ### gcd -/
def gcdI (a b : Int) : Int := ((Nat.gcd a.natAbs b.natAbs : Nat) : Int)
def gfold (ns : List Int) : Int := ns.foldl gcdI 0
/-- what is_form is asked: no tuple, or a tuple of known kinds -/
def Frm (H : Hp) (v : V) (size : Int) (b : Bool) : Prop :=
  (∃ n, Kd H v n ∧ n ≠ "tuple" ∧ b = false) ∨ ∃ (a : Addr) (xs : List V), v = .ref a ∧ H a = some (.tup xs) ∧ xs.length ≤ 1000 ∧ (∀ x ∈ xs, ∃ n, Kd H x n) ∧ b = (decide ((xs.length : Int) = size) && xs.all isI)
def big (x : Int) : Prop := x.natAbs < 2 ^ 3000
theorem eqv_nil (ns : List Int) : (!PyData.eqv (.list (ns.map PyData.int)) (.list [])) = !decide (ns = []) := by
  rw [show ([] : List PyData) = ([] : List Int).map PyData.int from rfl, eqv_l]
theorem seq0 (n : Nat) : seqIndex? 0 (n + 1) = some 0 := by
  unfold seqIndex?
  simp
theorem menu {vs : List V} {r : Int} (h0 : 0 ≤ r) {n : Nat} (h1 : r < n) (hn : vs.length = n) : ∃ v, atI vs r = some v ∧ v ∈ vs := at_lt h0 (by omega)
/-! ### what lies beside the stream -/
def beside (s q : Addr) (H : Hp) : Hp := fun a => if a = s ∨ a = q then none else H a
theorem beside_of {s q a : Addr} {H : Hp} (h1 : a ≠ s) (h2 : a ≠ q) : beside s q H a = H a := by
  unfold beside
  rw [if_neg (by rintro (h | h) <;> contradiction)]
section
variable {s q : Addr} {B : Nat} {G H : Hp}
/-- all that lies beside the stream is kept -/
theorem Ov.all (x : Ov s q B G H) : Ov s q B (beside s q H) H ∧ Ex G (beside s q H) := by
  refine ⟨⟨fun a o e => ?_, by simp [beside], by simp [beside], x.str⟩, fun a o e => ?_⟩
  · unfold beside at e
    split at e
    · cases e
    · exact e
  · rw [beside_of (fun z => by rw [z, x.gs] at e; cases e) (fun z => by rw [z, x.gq] at e; cases e)]
    exact x.sub _ _ e
theorem Ov.tup (x : Ov s q B G H) {a : Addr} {xs : List V} (h : H a = some (.tup xs)) : beside s q H a = some (.tup xs) := by
  obtain ⟨ne, n, k, l, ms, e1, e2, e3⟩ := x.str
  rw [beside_of (fun z => by rw [z, e1] at h; cases h) (fun z => by rw [z, e2] at h; cases h)]
  exact h
/-- a new object is known -/
theorem Ov.fresh (x : Ov s q B G H) {H' : Hp} (e : Ex H H') {a : Addr} (hn : H a = none) {o : HO} (h : H' a = some o) : beside s q H' a = some o := by
  obtain ⟨ne, n, k, l, ms, e1, e2, e3⟩ := x.str
  rw [beside_of (fun z => by rw [z, e1] at hn; cases hn) (fun z => by rw [z, e2] at hn; cases hn)]
  exact h
end
section
variable {s q : Addr} {B B1 : Nat} {G H H1 : Hp}
theorem Ov.l (O1 : Ov s q B1 (beside s q H) H1) {a : Addr} {o : HO} (n1 : a ≠ s) (n2 : a ≠ q) (h : H a = some o) : H1 a = some o := O1.sub _ _ ((beside_of n1 n2).trans h)
theorem Ov.g (O : Ov s q B G H) (O1 : Ov s q B1 (beside s q H) H1) : Ov s q B1 G H1 := O1.weak O.all.2
theorem Ov.ns (x : Ov s q B G H) {p : Addr} (hp : H p = none) : p ≠ s ∧ p ≠ q := by
  obtain ⟨os, hs⟩ := x.hs
  obtain ⟨oq, hq⟩ := x.hq
  exact ⟨fun e => (ne_of_none hs hp) e.symm, fun e => (ne_of_none hq hp) e.symm⟩
end
/-- rows: tuples of ints -/
def RowsIn (H : Hp) (as : List Addr) (R : List (List Int)) : Prop := as.length = R.length ∧ ∀ (i : Nat) (a : Addr) (r : List Int), as[i]? = some a → R[i]? = some r → H a = some (.tup (r.map V.int))
theorem RowsIn.mono {H H' : Hp} {as : List Addr} {R : List (List Int)} (h : RowsIn H as R) (k : ∀ a xs, H a = some (.tup xs) → H' a = some (.tup xs)) : RowsIn H' as R := ⟨h.1, fun i a r h1 h2 => k _ _ (h.2 i a r h1 h2)⟩
theorem RowsIn.nil {H : Hp} : RowsIn H [] [] := ⟨rfl, fun i a r h => by simp at h⟩
theorem RowsIn.snoc {H : Hp} {as : List Addr} {R : List (List Int)} (h : RowsIn H as R) {a : Addr} {r : List Int} (ha : H a = some (.tup (r.map V.int))) : RowsIn H (as ++ [a]) (R ++ [r]) := by
  refine ⟨by simp [h.1], fun i b x h1 h2 => ?_⟩
  by_cases hi : i < as.length
  · rw [List.getElem?_append_left hi] at h1
    rw [List.getElem?_append_left (by rw [← h.1]; exact hi)] at h2
    exact h.2 i b x h1 h2
  · rw [List.getElem?_append_right (by omega)] at h1
    rw [List.getElem?_append_right (by rw [← h.1]; omega)] at h2
    have e : i - as.length = 0 := by
      have := (List.getElem?_eq_some_iff.mp h1).1
      simp at this; omega
    rw [← h.1, e] at h2
    rw [e] at h1
    cases h1
    cases h2
    exact ha
theorem RowsIn.set {H : Hp} {as : List Addr} {R : List (List Int)} (h : RowsIn H as R) {k : Nat} {a : Addr} {r : List Int} (ha : H a = some (.tup (r.map V.int))) : RowsIn H (as.set k a) (R.set k r) := by
  refine ⟨by simp [h.1], fun i b x h1 h2 => ?_⟩
  by_cases hi : k = i
  · subst hi
    by_cases hk : k < as.length
    · rw [List.getElem?_set_self hk] at h1
      rw [List.getElem?_set_self (by rw [← h.1]; exact hk)] at h2
      cases h1
      cases h2
      exact ha
    · rw [List.getElem?_eq_none (by simp; omega)] at h1
      cases h1
  · rw [List.getElem?_set_ne hi] at h1 h2
    exact h.2 i b x h1 h2
theorem RowsIn.get {H : Hp} {as : List Addr} {R : List (List Int)} (h : RowsIn H as R) {i : Nat} (hi : i < R.length) : ∃ a, as[i]? = some a ∧ R[i]? = some R[i] ∧ H a = some (.tup (R[i].map V.int)) := by
  have hi' : i < as.length := by rw [h.1]; exact hi
  exact ⟨as[i], by simp [hi'], by simp [hi], h.2 i _ _ (by simp [hi']) (by simp [hi])⟩
theorem tk_put {H : Hp} {L : Addr} {ys : List V} {o : HO} (hL : H L = some (.lst ys)) (a : Addr) (xs : List V) (h : H a = some (.tup xs)) : upd H L o a = some (.tup xs) := (upd_ne (fun e => by rw [e, hL] at h; cases h)).trans h
/-! ### tuples put together and cut -/
/-! ### the law -/
theorem strm_new {H : Hp} {q0 s0 : Addr} {ns : List Int} (hq : H q0 = none) (hs : upd H q0 (.lst (ns.map V.int)) s0 = none) : Ov s0 q0 0 H (upd (upd H q0 (.lst (ns.map V.int))) s0 (.lst [.ref q0, .int 0, .int 0, .int 0])) := by
  have nq : q0 ≠ s0 := fun e => by rw [← e, upd_same] at hs; cases hs
  have hs' : H s0 = none := by rw [upd_ne (Ne.symm nq)] at hs; exact hs
  exact ⟨(Ex.new hq).trans (Ex.new hs), hs', hq, Ne.symm nq, 0, 0, 0, ns, upd_same, (upd_ne nq).trans upd_same, by decide, by decide, by decide, by decide, by decide⟩
/-! ### tests -/
section
variable {A B : Prop}
theorem iteD {p : Prop} [Decidable p] (h1 : p → A) (h2 : ¬ p → B) : if decide p = true then A else B := by
  by_cases h : p
  · rw [decide_eq_true h]; exact iteT (h1 h)
  · rw [decide_eq_false h]; exact iteF (h2 h)
theorem iteDT {p : Prop} [Decidable p] (h : p) (a : A) : if decide p = true then A else B := iteD (fun _ => a) fun n => absurd h n
theorem iteDF {p : Prop} [Decidable p] (h : ¬ p) (b : B) : if decide p = true then A else B := iteD (fun y => absurd y h) fun _ => b
theorem iteN {p : Prop} [Decidable p] (h1 : ¬ p → A) (h2 : p → B) : if (!decide p) = true then A else B := by
  by_cases h : p
  · rw [decide_eq_true h]; exact iteF (h2 h)
  · rw [decide_eq_false h]; exact iteT (h1 h)
theorem iteNF {p : Prop} [Decidable p] (h : p) (b : B) : if (!decide p) = true then A else B := iteN (fun y => absurd h y) fun _ => b
theorem iteV {x y : Int} (h1 : x = y → A) (h2 : x ≠ y → B) : if decide (V.int x = V.int y) = true then A else B := iteD (fun h => h1 (by simpa using h)) fun h => h2 (by simpa using h)
theorem iteB {b : Bool} (h1 : b = true → A) (h2 : b = false → B) : if b = true then A else B := by
  cases b with
  | true => exact iteT (h1 rfl)
  | false => exact iteF (h2 rfl)
theorem iteBN {b : Bool} (h1 : b = false → A) (h2 : b = true → B) : if (!b) = true then A else B := by
  cases b with
  | true => exact iteF (h2 rfl)
  | false => exact iteT (h1 rfl)
end
/-! ### rules with K said -/
end Hg
set_option maxHeartbeats 4000000
namespace Hg
open PySem PySem.Spec PyProof.Rows L2
theorem rep_flat {α : Type} (x : α) : ∀ k : Nat, (List.replicate k [x]).flatten = List.replicate k x
  | 0 => rfl
  | k + 1 => by rw [List.replicate_succ, List.replicate_succ, List.flatten_cons, rep_flat x k]; rfl
/-- rows as data -/
theorem dp_rows {K : PySem.W.Frag} {H : Hp} : ∀ (as : List Addr) (R : List (List Int)), RowsIn H as R → DpAll K H (as.map V.ref) (R.map fun r => .tuple (r.map PyData.int))
  | [], [], _ => .nil
  | [], r :: R, h => absurd h.1 (by simp)
  | a :: as, [], h => absurd h.1 (by simp)
  | a :: as, r :: R, h => .cons (dp_t (SqT.of (h.2 0 a r rfl rfl))) (dp_rows as R ⟨by simpa using h.1, fun i b x h1 h2 => h.2 (i + 1) b x (by simpa using h1) (by simpa using h2)⟩)
end Hg
set_option maxHeartbeats 4000000
namespace Hg
open PySem PySem.Spec PyProof.Rows L2
/-! ### the law at the top: what is under way there is known (nothing), so that repr and str of data can be told -/
abbrev topEnv (st : Stmt) (x : Str) (s : Shared) (fa : Addr) (cd : Value) : Env := envOfC x (defScope st) s.heap.objs.size fa cd
abbrev topCx (P : Program) (w : World) (K : PySem.W.Frag) (mg : Str → Option Value) (base : Heap) (N : List Str) (x : Str) (st : Stmt) (fa : Addr) (cd : Value) (s : Shared) (H : Hp) : Cx :=
  cxOf CX0 P w K mg base N x (defScope st) fa cd callerA [] s H E0
/-- the law's body, read where it is called -/
def TopOk (P : Program) (w : World) (K : PySem.W.Frag) (mg : Str → Option Value) (k : Nat) (N : List Str) (x : Str) (st : Stmt) (fa : Addr) (ok : Addr → List Int → Hp → Prop) : Prop :=
  ∀ (cd : Value) (base : Heap) (s : Shared) (H : Hp) (a : Addr) (ns : List Int), K.In base → base.Ns mainGlobals mg → Room k (callerA.deeper (topEnv st x s fa cd)) → ok a ns H →
    ∃ t, PSs (topCx P w K mg base N x st fa cd s H).nox (defBody st) t ∧ t { nx := fun _ _ => False, rt := fun v _ => v = .bl true } (start N [.ref a]) H
/-- one run of it -/
theorem TopOk.run {P : Program} {w : World} {K : PySem.W.Frag} {mg : Str → Option Value} {k : Nat} {N : List Str} {x p : Str} {st : Stmt} {fa : Addr} {ok : Addr → List Int → Hp → Prop} (T : TopOk P w K mg k N x st fa ok)
    {fd : FuncData} (F : Fun K x x st fa fd) (S : FnScope N [p] (defScope st)) (R : Room (k + 1) callerA) {base : Heap} {s : Shared} {H : Hp} {a : Addr} {ns : List Int} (e0 : Env0 P w K mg base callerA [] s H)
    (hb : BindsTo s fd ⟨[.ref a], []⟩ [(p, .ref a)]) (q : ok a ns H) :
    codeAny (model P w) callerA (.call (.ref fa) ⟨[.ref a], []⟩) (fun r s' => ∃ H', r = .ok (.ret (.bool true)) ∧ s'.os = s.os ∧ AllBare s'.gens ∧ Un [] [] H H' s.heap s'.heap ∧ HOk P w H' s'.heap) s := by
  obtain ⟨oc, od, kV, doc, pm, an, cd, ct, osl, efd, look, code⟩ := F.ex
  subst efd
  have stays : ∀ b o, base.get? b = some o → s.heap.get? b = some o := fun b o e => (e0.bs b o e).1
  have inS : K.In s.heap := e0.mod.kin.keeps stays
  have kinds : ∀ y ∈ [p].zip [Value.ref a], (defScope st).names.lookup y.1 = some .local ∨ ((defScope st).names.lookup y.1 = some .cell ∧ ((cellsFrom (s.heap.objs.size + 1) (defScope st).names []).lookup y.1).isSome = true) := by
    intro y hy
    have ey : y = (p, Value.ref a) := by simpa using hy
    subst ey
    exact (S.par p (by simp)).imp id fun c => ⟨c, PySem.W.cellsFrom_some _ _ _ (.inl c)⟩
  refine codeAny_call_function R.depth (inS _ _ look) rfl S.co S.gen rfl (PySem.W.codeRec_of inS code) (hb _ _ _ _ (wpAny_newFunctionEnv_cells S.kind kinds ?_))
  rintro _ rfl s2 entered
  refine ⟨(e0.mod.nolimit.keeps stays).keeps entered.toInCall.keep, codeAny_func ?_⟩
  obtain ⟨t, ht, hq⟩ := T cd base s H a ns e0.mod.kin e0.mod.glob (R.deeper _) q
  have start1 := inv_start (CX := CX0) (E := E0) (us := [.ref a]) (vs := [.ref a]) S R.hd e0 rfl (.cons rfl .nil) entered
  refine wpAny_mono (ht.nox.run [] s2 _ H _ start1 hq) (fun fl s' z => ?_) fun e s' z => ?_
  · rcases fl with _ | _ | _ | u
    · obtain ⟨_, _, _, z⟩ := z
      exact z.elim
    · obtain ⟨_, _, _, z⟩ := z
      exact z.elim
    · obtain ⟨_, _, _, z⟩ := z
      exact z.elim
    · obtain ⟨v, σ', H', J, rv, ev⟩ := z
      subst ev
      cases (show u = Value.bool true from rv)
      exact ⟨H', rfl, J.os, J.bare, J.base, J.hok⟩
  · exact wpAny_mono z (fun _ _ n => (n : False).elim) fun _ _ n => (n : False).elim
/-- at the heap behind the top -/
theorem TopOk.call {P : Program} {w : World} {K : PySem.W.Frag} {mg mb : Str → Option Value} {k : Nat} {N : List Str} {x p : Str} {st : Stmt} {fa a : Addr} {fd : FuncData} {s : Shared} {vs : List Value} {ns : List Int} {ok : Addr → List Int → Hp → Prop}
    (T : TopOk P w K mg k N x st fa ok) (F : Fun K x x st fa fd) (S : FnScope N [p] (defScope st)) (R : Room (k + 1) callerA)
    (inS : K.In s.heap) (gl : s.heap.Ns mainGlobals mg) (bl : s.heap.Ns builtinsNs mb) (boot : ∀ y : Str, y ≠ "__name__" → mb y = bootBuiltins y) (nl : s.heap.NoLimit) (gens : s.gens = #[])
    (ha : s.heap.get? a = some { cls := .type "list", data := .seq vs.toArray }) (iv : IntsAre vs ns) (len : ns.length ≤ sizeLine) (bind : ∀ (s : Shared) (u : Value), BindsTo s fd ⟨[u], []⟩ [(p, u)])
    (good : ∀ H : Hp, SqL K H a (ns.map V.int) → ok a ns H) :
    codeAny (model P w) callerA (.call (.ref fa) ⟨[.ref a], []⟩) (fun r s' => r = .ok (.ret (.bool true)) ∧ OldK s.heap s'.heap ∧ s'.os = s.os ∧ AllBare s'.gens) s := by
  have rel := vals_ints iv
  have go : ∀ H : Hp, (∀ b u, H b = some u → b = a ∧ u = .frz { cls := .type "list", data := .seq vs.toArray } (.lst (ns.map V.int)) ∧ K.lookup a = none) → SqL K H a (ns.map V.int) →
      codeAny (model P w) callerA (.call (.ref fa) ⟨[.ref a], []⟩) (fun r s' => r = .ok (.ret (.bool true)) ∧ OldK s.heap s'.heap ∧ s'.os = s.os ∧ AllBare s'.gens) s := by
    intro H only seq
    have hok : HOk P w H s.heap := by
      intro b u z
      obtain ⟨rfl, rfl, _⟩ := only b u z
      exact ⟨ha, by rw [List.length_map]; exact len, vs, _, rel, ha⟩
    have noDict : ∀ {b : Addr} {o : Obj} {es : Array DictEntry} {n : Nat}, s.heap.get? b = some o → o.data = .dict es n → H b = none := by
      intro b o es n e d
      cases z : H b with
      | none => rfl
      | some u =>
        obtain ⟨rfl, _, _⟩ := only b u z
        rw [ha] at e
        cases e
        cases d
    have names : ∀ {b : Addr} {m : Str → Option Value}, s.heap.Ns b m → (hidT s.heap H).Ns b m := by
      rintro b m ⟨o, es, n, e, d, rest⟩
      exact ⟨o, es, n, hidT_get e (noDict e d), d, rest⟩
    have inB : K.In (hidT s.heap H) := by
      intro b o e
      refine hidT_get (inS b o e) ?_
      cases z : H b with
      | none => rfl
      | some u =>
        obtain ⟨rfl, _, z'⟩ := only b u z
        rw [z'] at e
        cases e
    obtain ⟨ml, l1, l2⟩ := nl
    have e0 : Env0 P w K mg (hidT s.heap H) callerA [] s H :=
      { frames := rfl, mod := ⟨inB, names gl, ⟨mb, names bl, boot⟩, ml, names l1, l2⟩, bs := fun b o e => of_hidT e, bsz := by rw [hidT_size]; exact Nat.le_refl _, funs := trivial,
        frf := fun b z => absurd (show b ∈ ([] : List Addr) from z) (by simp), hok := hok, bare := .of_eq gens }
    refine codeAny_mono (T.run F S R e0 (bind s (.ref a)) (good H seq)) ?_
    rintro r s' ⟨H', rfl, eos, bare, un, hok'⟩
    refine ⟨rfl, OldK.of_keep ?_, eos, bare⟩
    intro b o e
    cases z : H b with
    | none => exact un.keep b o e z (by simp) (by simp)
    | some u =>
      obtain ⟨rfl, rfl, _⟩ := only b u z
      obtain ⟨g, _⟩ := hok' b _ (un.frzs b _ _ z)
      rw [ha] at e
      cases e
      exact g
  cases look : K.lookup a with
  | some o =>
    have e := inS a o look
    rw [ha] at e
    cases e
    exact go (fun _ => none) (fun b u z => by cases z) (.inr ⟨_, vs.toArray, _, look, rfl, rfl, rfl, by rw [List.size_toArray, iv.length]; exact len, by simpa using rel⟩)
  | none =>
    refine go (fun b => if b = a then some (.frz { cls := .type "list", data := .seq vs.toArray } (.lst (ns.map V.int))) else none) (fun b u z => ?_) (.inl (.inr ⟨_, if_pos rfl⟩))
    by_cases e : b = a
    · rw [if_pos e] at z
      cases z
      exact ⟨e, rfl, look⟩
    · rw [if_neg e] at z
      cases z
/-! ### repr and str of data -/
def rReprD (K : PySem.W.Frag) : List V → Hp → VK → Prop := fun vs H Q => ∃ (a : Addr) (d : PyData), vs = [.ref a] ∧ Dp K H (.ref a) d ∧ d.showable = true ∧ d.hasDict = false ∧ d.depth ≤ 20 ∧ d.shown.length ≤ sizeLine ∧ Q (.str d.shown) H
theorem cr_reprD {X : Cx} (hg : X.A.guards = some []) (hu : X.A.units + 64 < cLine) : CallR X (.builtin "repr") (rReprD X.K) := by
  intro pins s σ H vs us Q I r h
  obtain ⟨a, d, rfl, dp, h1, h2, h3, h4, q⟩ := h
  obtain ⟨u, rfl, ru⟩ := Vals.one r
  cases (show u = Value.ref a from ru)
  obtain ⟨as, rd⟩ := Dp.reads I d _ _ dp ru
  refine repr_of_reads' rd h1 (fun z => by rw [h2] at z; cases z) hg (by omega) (fun _ _ e => e) (fun h' u tk hk => ?_) h4
  exact ⟨.str d.shown, H, I.kept (t' := tk) hk, ⟨u, rfl⟩, q⟩
theorem kRepr {X : Cx} {K : PySem.W.Frag} (hg : X.A.guards = some []) (hu : X.A.units + 64 < cLine) (hK : X.K = K := by rfl) : CallR X (.builtin "repr") (rReprD K) := hK ▸ cr_reprD hg hu
end Hg
set_option maxHeartbeats 4000000
namespace Hg
open PySem PySem.Spec PyProof.Rows L2
/-! ### texts: by their codes -/
abbrev tx (l : List Nat) : Str := ⟨l.toArray⟩
theorem tx_len (l : List Nat) : (tx l).length = l.length := List.size_toArray ..
theorem tx_inj {l m : List Nat} (h : tx l = tx m) : l = m := by
  have := congrArg (fun s : Str => s.cps.toList) h
  simpa using this
theorem tx_eq {l m : List Nat} : decide (V.str (tx l) = V.str (tx m)) = decide (l = m) := by
  by_cases h : l = m
  · subst h; simp
  · have : V.str (tx l) ≠ V.str (tx m) := fun e => h (tx_inj (V.str.inj e))
    rw [decide_eq_false h, decide_eq_false this]
theorem tx_app (l m : List Nat) : tx l ++ tx m = tx (l ++ m) := by
  show (⟨l.toArray ++ m.toArray⟩ : Str) = _
  rw [List.append_toArray]
/-! ### text * int -/
def rMulS : R2 := fun x y H Q => ∃ (l : List Nat) (k : Nat), x = .str (tx l) ∧ y = .int k ∧ l.length ≤ 1000 ∧ k ≤ 1000 ∧ Q (.str (tx (List.replicate k l).flatten)) H
theorem foldl_app (its : List Nat) : ∀ (m : Nat) (acc : List Nat), (List.foldl (fun x1 x2 => x1 ++ x2) acc.toArray (List.replicate m its.toArray)) = (acc ++ (List.replicate m its).flatten).toArray
  | 0, acc => by simp
  | m + 1, acc => by
    rw [List.replicate_succ, List.foldl_cons, List.append_toArray, foldl_app its m, List.replicate_succ, List.flatten_cons, List.append_assoc]
theorem txMul (l : List Nat) (k : Nat) : Txt.mul (tx l) (k : Int) = tx (List.replicate k l).flatten := by
  unfold Txt.mul
  by_cases h : k = 0
  · subst h; rfl
  · rw [if_neg (by omega)]
    split
    · rename_i c
      rw [Bool.or_eq_true, beq_iff_eq, beq_iff_eq] at c
      rcases c with c | c
      · have : k = 1 := by omega
        subst this
        simp
      · rw [tx_len] at c
        have : l = [] := List.eq_nil_of_length_eq_zero c
        subst this
        simp
    · rw [Int.toNat_natCast]
      have := foldl_app l k []
      rw [List.nil_append] at this
      exact congrArg Str.mk this
theorem op_mulS {X : Cx} : OpR X (binaryOp .Mult) rMulS := by
  intro pins s σ H x y v u Q I rx ry h
  obtain ⟨l, k, rfl, rfl, hl, hk, q⟩ := h
  obtain ⟨t, rfl⟩ := rx
  obtain ⟨t2, rfl⟩ := ry
  refine PySem.SB.mul (mulOk_of 1000 1000 (by rw [tx_len]; exact hl) (by omega) (by omega) (by decide) (by decide)) fun t' tk => ?_
  rw [txMul]
  exact ⟨.str _, H, I.tok _, ⟨_, rfl⟩, q⟩
theorem rep1 (c : Nat) (k : Nat) : (List.replicate k [c]).flatten = List.replicate k c := rep_flat c k
/-! ### index, slice, sum, in -/
theorem ixs {K : PySem.W.Frag} {H : Hp} {l : List Nat} {i c : Nat} {Q : VK} (h : l[i]? = some c) (hl : l.length ≤ 100000) (q : Q (.str (tx [c])) H) : rIx K (.str (tx l)) (.int i) H Q :=
  .inr (.inr ⟨tx l, i, c, rfl, rfl, by rw [tx_len, sizeLine_eq]; omega, atI_nat (by simpa using h), q⟩)
theorem kSlS {X : Cx} : SlR X rSlS := sl_str
theorem cutS_tx {l : List Nat} {a b : Nat} : cutS (tx l) (some (a : Int)) (some (b : Int)) = tx ((l.drop a).take (b - a)) := by
  unfold cutS
  rw [HT.sIx_nat, HT.sIx_nat, tx_len]
  show (⟨((l.drop (min a l.length)).take (min b l.length - min a l.length)).toArray⟩ : Str) = _
  congr 2
  by_cases ha : a ≤ l.length
  · rw [Nat.min_eq_left ha]
    by_cases hb : b ≤ l.length
    · rw [Nat.min_eq_left hb]
    · have e : min b l.length = l.length := by omega
      rw [e, List.take_of_length_le (by simp), List.take_of_length_le (by simp; omega)]
  · have e : min a l.length = l.length := by omega
    rw [e, List.drop_length, List.drop_of_length_le (by omega)]
    simp
theorem sl_s {H : Hp} {l : List Nat} {a b : Nat} {Q : VK} (hl : l.length ≤ 100000) (q : Q (.str (tx ((l.drop a).take (b - a)))) H) : rSlS (.str (tx l)) (some (a : Int)) (some (b : Int)) H Q :=
  ⟨tx l, rfl, by rw [tx_len, sizeLine_eq]; omega, by rw [cutS_tx]; exact q⟩
theorem cat_s {K : PySem.W.Frag} {H : Hp} {l m : List Nat} {Q : VK} (hl : l.length + m.length ≤ 100000) (q : Q (.str (tx (l ++ m))) H) : rPlus K (.str (tx l)) (.str (tx m)) H Q :=
  .inr (.inr (.inr ⟨tx l, tx m, rfl, rfl, by rw [tx_len, tx_len, sizeLine_eq]; omega, by rw [tx_app]; exact q⟩))
abbrev sV (ls : List (List Nat)) : List V := ls.map fun l => V.str (tx l)
theorem inV_sV (a : List Nat) : ∀ ls : List (List Nat), inV (.str (tx a)) (sV ls) = decide (a ∈ ls)
  | [] => by simp [inV]
  | l :: ls => by
    have ih := inV_sV a ls
    unfold inV at ih ⊢
    show ((V.str (tx l) :: sV ls).any fun y => eqV y (V.str (tx a))) = _
    rw [List.any_cons, ih]
    have e : eqV (.str (tx l)) (.str (tx a)) = decide (l = a) := by
      show (tx l == tx a) = _
      by_cases h : l = a
      · subst h; simp
      · have : tx l ≠ tx a := fun e => h (tx_inj e)
        rw [decide_eq_false h]
        exact beq_eq_false_iff_ne.mpr this
    rw [e]
    by_cases h1 : l = a
    · subst h1; simp
    · have h2 : ¬ a = l := fun e => h1 e.symm
      simp [h1, h2]
theorem flat_sV (ls : List (List Nat)) : (sV ls).all flatV = true := by
  rw [List.all_eq_true]
  intro x hx
  obtain ⟨l, _, rfl⟩ := List.mem_map.mp hx
  rfl
theorem in_l {K : PySem.W.Frag} {H : Hp} {p : Addr} {a : List Nat} {ls : List (List Nat)} {Q : VK} (h : SqL K H p (sV ls) ∨ SqT K H p (sV ls)) (q : Q (.bl (decide (a ∈ ls))) H) : rIn K false (.str (tx a)) (.ref p) H Q :=
  ⟨p, _, rfl, h, rfl, flat_sV ls, by rw [if_neg Bool.false_ne_true, inV_sV]; exact q⟩
/-! ### find of one sign from a place -/
theorem occ_none_at (s sub : Str) (hi : Nat) : ∀ (l : List Nat) (free : Nat), (∀ i ∈ l, ¬ (i + sub.length ≤ hi ∧ Builtin.Str.subAt s sub i = true)) → (forIn l ((#[] : Array Nat), free) (StrLaws.occBody s sub hi 1)).run.fst = #[]
  | [], free, _ => rfl
  | a :: l, free, h => by
    rw [List.forIn_cons]
    unfold StrLaws.occBody
    rw [if_neg (fun c => h a (List.mem_cons_self ..) ⟨c.1.2, c.2⟩)]
    exact occ_none_at s sub hi l free fun i hi' => h i (List.mem_cons_of_mem _ hi')
theorem occ_full (s sub : Str) (hi : Nat) : ∀ (l : List Nat) (x free : Nat), (forIn l ((#[x] : Array Nat), free) (StrLaws.occBody s sub hi 1)).run.fst = #[x]
  | [], x, free => rfl
  | a :: l, x, free => by
    rw [List.forIn_cons]
    unfold StrLaws.occBody
    rw [if_neg (fun c => absurd c.1.1.1 (by simp))]
    exact occ_full s sub hi l x free
theorem occ_first (s sub : Str) (hi : Nat) : ∀ (l : List Nat) (free : Nat) (k : Nat) (r : List Nat) (pre : List Nat), l = pre ++ k :: r → (∀ i ∈ l, free ≤ i) → (∀ i ∈ pre, ¬ (i + sub.length ≤ hi ∧ Builtin.Str.subAt s sub i = true)) → k + sub.length ≤ hi → Builtin.Str.subAt s sub k = true →
    (forIn l ((#[] : Array Nat), free) (StrLaws.occBody s sub hi 1)).run.fst = #[k] := by
  intro l free k r pre
  induction pre generalizing l free with
  | nil =>
    rintro rfl hf _ h1 h2
    rw [List.nil_append, List.forIn_cons]
    unfold StrLaws.occBody
    rw [if_pos ⟨⟨⟨by simp, hf k (by simp)⟩, h1⟩, h2⟩]
    exact occ_full s sub hi r k _
  | cons a pre ih =>
    rintro rfl hf hp h1 h2
    rw [List.cons_append, List.forIn_cons]
    unfold StrLaws.occBody
    rw [if_neg (fun c => hp a (by simp) ⟨c.1.2, c.2⟩)]
    exact ih _ free rfl (fun i hi => hf i (by rw [List.cons_append]; exact List.mem_cons_of_mem _ hi)) (fun i hi => hp i (by simp [hi])) h1 h2
theorem subAt_tx {l : List Nat} {c i : Nat} : Builtin.Str.subAt (tx l) (tx [c]) i = decide (l[i]? = some c) := by
  unfold Builtin.Str.subAt
  show ((l.toArray.extract i (i + 1)) == #[c]) = _
  have e1 : l.toArray.extract i (i + 1) = ((l.drop i).take 1).toArray := by
    rw [List.extract_toArray]
    congr 1
    rw [List.extract_eq_take_drop]
    congr 1
    omega
  rw [e1]
  have e2 : (((l.drop i).take 1).toArray == #[c]) = decide ((l.drop i).take 1 = [c]) := by
    by_cases h : (l.drop i).take 1 = [c]
    · rw [h]; simp
    · rw [decide_eq_false h]
      refine beq_eq_false_iff_ne.mpr fun e => h ?_
      have := congrArg Array.toList e
      simpa using this
  rw [e2]
  congr 1
  apply propext
  by_cases hi : i < l.length
  · rw [List.drop_eq_getElem_cons hi, List.getElem?_eq_getElem hi, List.take_succ_cons, List.take_zero]
    constructor
    · intro h
      injection h with h
      rw [h]
    · intro h
      rw [Option.some.inj h]
  · rw [List.drop_of_length_le (by omega), List.getElem?_eq_none (by omega)]
    simp
theorem find_tx {l pre r : List Nat} {c i : Nat} (hi : i ≤ l.length) (h : l.drop i = pre ++ c :: r) (hp : c ∉ pre) : Txt.find3 (tx l) (tx [c]) (i : Int) = ((i + pre.length : Nat) : Int) := by
  have hl : l.length - i = pre.length + (r.length + 1) := by
    have := congrArg List.length h
    rw [List.length_drop, List.length_append, List.length_cons] at this
    exact this
  have at_ : ∀ j, l[i + j]? = (pre ++ c :: r)[j]? := by
    intro j
    rw [← h, List.getElem?_drop]
  have occ : Builtin.Str.occurrences (tx l) (tx [c]) i (tx l).length 1 = [i + pre.length] := by
    rw [StrLaws.occ_eq, tx_len]
    have e : List.range' i (l.length + 1 - i) = List.range' i pre.length ++ (i + pre.length) :: List.range' (i + pre.length + 1) (r.length + 1) := by
      have a1 := List.range'_append (s := i) (m := pre.length) (n := r.length + 2) (step := 1)
      rw [show l.length + 1 - i = pre.length + (r.length + 2) by omega, ← a1, Nat.one_mul, List.range'_succ]
    have key := occ_first (tx l) (tx [c]) l.length _ i (i + pre.length) _ _ e (fun j hj => by have := List.mem_range'.mp hj; omega) (fun j hj z => ?_) ?_ ?_
    · rw [key]
    · obtain ⟨k, hk, rfl⟩ := List.mem_range'.mp hj
      have z2 := z.2
      rw [subAt_tx, decide_eq_true_eq, Nat.one_mul, at_ k, List.getElem?_append_left hk] at z2
      exact hp (List.mem_of_getElem? z2)
    · rw [tx_len]
      show i + pre.length + 1 ≤ l.length
      omega
    · rw [subAt_tx, decide_eq_true_eq, at_ pre.length, List.getElem?_append_right (Nat.le_refl _), Nat.sub_self]
      rfl
  unfold Txt.find3
  have ef : fromIndex (tx l).length (i : Int) = i := by
    unfold fromIndex
    rw [if_neg (by omega)]
    omega
  rw [ef, occ]
end Hg
namespace Hn
/-! ### sums -/
abbrev Vc := Nat → Int
def sm : Nat → (Nat → Int) → Int
  | 0, _ => 0
  | k + 1, f => sm k f + f k
theorem sm_congr {f g : Nat → Int} : ∀ {k : Nat}, (∀ i, i < k → f i = g i) → sm k f = sm k g
  | 0, _ => rfl
  | k + 1, h => by
    show sm k f + f k = sm k g + g k
    rw [sm_congr (fun i hi => h i (by omega)), h k (by omega)]
theorem sm_zero {f : Nat → Int} {k : Nat} (h : ∀ i, i < k → f i = 0) : sm k f = 0 := by
  rw [sm_congr (g := fun _ => 0) h]
  induction k with
  | zero => rfl
  | succ k ih => show sm k _ + 0 = 0; rw [ih fun i hi => h i (by omega)]; rfl
theorem sm_add (f g : Nat → Int) : ∀ k, sm k (fun i => f i + g i) = sm k f + sm k g
  | 0 => rfl
  | k + 1 => by
    show sm k _ + (f k + g k) = (sm k f + f k) + (sm k g + g k)
    rw [sm_add f g k]; omega
theorem sm_mul (a : Int) (f : Nat → Int) : ∀ k, sm k (fun i => a * f i) = a * sm k f
  | 0 => by simp [sm]
  | k + 1 => by
    show sm k _ + a * f k = a * (sm k f + f k)
    rw [sm_mul a f k, Int.mul_add]
theorem sm_mulr (a : Int) (f : Nat → Int) (k : Nat) : sm k (fun i => f i * a) = sm k f * a := by
  rw [Int.mul_comm, ← sm_mul]
  exact sm_congr fun i _ => Int.mul_comm _ _
theorem sm_swap (f : Nat → Nat → Int) (m : Nat) : ∀ k, sm k (fun i => sm m fun s => f i s) = sm m fun s => sm k fun i => f i s
  | 0 => (sm_zero fun _ _ => rfl).symm
  | k + 1 => by
    show sm k _ + sm m (fun s => f k s) = sm m fun s => (sm k fun i => f i s) + f k s
    rw [sm_swap f m k, sm_add]
theorem sm_one {f : Nat → Int} {k j : Nat} (hj : j < k) (h : ∀ i, i < k → i ≠ j → f i = 0) : sm k f = f j := by
  induction k with
  | zero => omega
  | succ k ih =>
    show sm k f + f k = f j
    by_cases e : j = k
    · subst e
      rw [sm_zero fun i hi => h i (by omega) (by omega)]; omega
    · rw [ih (by omega) fun i hi => h i (by omega), h k (by omega) (by omega)]; omega
theorem sm_abs {f : Nat → Int} {B : Nat} : ∀ {k : Nat}, (∀ i, i < k → (f i).natAbs ≤ B) → (sm k f).natAbs ≤ k * B
  | 0, _ => by simp [sm]
  | k + 1, h => by
    have h1 := sm_abs (k := k) fun i hi => h i (by omega)
    have h2 := h k (by omega)
    have : (k + 1) * B = k * B + B := Nat.succ_mul k B
    show (sm k f + f k).natAbs ≤ _
    omega
/-! ### pigeonholes -/
theorem pigeon : ∀ (m : Nat) (f : Nat → Nat), (∀ i, i < m + 1 → f i < m) → ∃ i j, i < j ∧ j < m + 1 ∧ f i = f j
  | 0, f, h => absurd (h 0 (by omega)) (by omega)
  | m + 1, f, h => by
    by_cases hc : ∃ i, i < m + 1 ∧ f i = f (m + 1)
    · obtain ⟨i, hi, e⟩ := hc
      exact ⟨i, m + 1, hi, by omega, e⟩
    · have hne : ∀ i, i < m + 1 → f i ≠ f (m + 1) := fun i hi e => hc ⟨i, hi, e⟩
      obtain ⟨i, j, h1, h2, h3⟩ := pigeon m (fun i => if f (m + 1) < f i then f i - 1 else f i) (fun i hi => by
        have a := h i (by omega)
        have b := h (m + 1) (by omega)
        have c := hne i hi
        show (if f (m + 1) < f i then f i - 1 else f i) < m
        split <;> omega)
      refine ⟨i, j, h1, by omega, ?_⟩
      have a := hne i (by omega)
      have b := hne j (by omega)
      change (if f (m + 1) < f i then f i - 1 else f i) = (if f (m + 1) < f j then f j - 1 else f j) at h3
      split at h3 <;> split at h3 <;> omega
theorem pigeon' {m N : Nat} (hm : m < N) (f : Nat → Nat) (h : ∀ i, i < N → f i < m) : ∃ i j, i < j ∧ j < N ∧ f i = f j := by
  obtain ⟨i, j, a, b, c⟩ := pigeon m f fun i hi => h i (by omega)
  exact ⟨i, j, a, by omega, c⟩
def enc (b : Nat) : Nat → (Nat → Nat) → Nat
  | 0, _ => 0
  | k + 1, f => enc b k f * b + f k
theorem enc_lt {b : Nat} {f : Nat → Nat} : ∀ {k : Nat}, (∀ i, i < k → f i < b) → enc b k f < b ^ k
  | 0, _ => by simp [enc]
  | k + 1, h => by
    have h1 := enc_lt (k := k) fun i hi => h i (by omega)
    have h2 := h k (by omega)
    show enc b k f * b + f k < b ^ (k + 1)
    rw [Nat.pow_succ]
    have : (enc b k f + 1) * b ≤ b ^ k * b := Nat.mul_le_mul_right b h1
    rw [Nat.succ_mul] at this
    omega
theorem enc_inj {b : Nat} {f g : Nat → Nat} : ∀ {k : Nat}, (∀ i, i < k → f i < b) → (∀ i, i < k → g i < b) → enc b k f = enc b k g → ∀ i, i < k → f i = g i
  | 0, _, _, _, i, hi => by omega
  | k + 1, hf, hg, e, i, hi => by
    change enc b k f * b + f k = enc b k g * b + g k at e
    have a := hf k (by omega)
    have c := hg k (by omega)
    have e2 : f k = g k := by
      have := congrArg (· % b) e
      simp only [Nat.add_mod, Nat.mul_mod_left, Nat.zero_add, Nat.mod_mod] at this
      rwa [Nat.mod_eq_of_lt a, Nat.mod_eq_of_lt c] at this
    have e1 : enc b k f = enc b k g := by
      have : enc b k f * b = enc b k g * b := by omega
      exact Nat.eq_of_mul_eq_mul_right (by omega) this
    by_cases h : i = k
    · rw [h]; exact e2
    · exact enc_inj (fun i hi => hf i (by omega)) (fun i hi => hg i (by omega)) e1 i (by omega)
def dig (b : Nat) : Nat → Nat → Nat → Nat
  | 0, _, _ => 0
  | k + 1, d, i => if i = k then d % b else dig b k (d / b) i
theorem dig_lt {b : Nat} (hb : 0 < b) : ∀ (k d i : Nat), dig b k d i < b
  | 0, d, i => hb
  | k + 1, d, i => by
    unfold dig
    split
    · exact Nat.mod_lt _ hb
    · exact dig_lt hb k _ i
theorem dig_inj {b : Nat} (hb : 0 < b) : ∀ {k d e : Nat}, d < b ^ k → e < b ^ k → (∀ i, i < k → dig b k d i = dig b k e i) → d = e
  | 0, d, e, h1, h2, _ => by simp at h1 h2; omega
  | k + 1, d, e, h1, h2, h => by
    rw [Nat.pow_succ] at h1 h2
    have a := h k (by omega)
    unfold dig at a
    rw [if_pos rfl, if_pos rfl] at a
    have q : d / b = e / b := by
      refine dig_inj hb (k := k) ((Nat.div_lt_iff_lt_mul hb).mpr h1) ((Nat.div_lt_iff_lt_mul hb).mpr h2) fun i hi => ?_
      have := h i (by omega)
      unfold dig at this
      rwa [if_neg (by omega), if_neg (by omega)] at this
    rw [← Nat.div_add_mod d b, ← Nat.div_add_mod e b, q, a]
/-- t equations in k > t unknowns have a small solution -/
theorem siegel {k t M : Nat} (htk : t < k) (hM : 1 ≤ M) (A : Nat → Nat → Int) (hA : ∀ e i, e < t → i < k → (A e i).natAbs ≤ M) :
    ∃ x : Nat → Int, (∃ i, i < k ∧ x i ≠ 0) ∧ (∀ i, i < k → (x i).natAbs ≤ (2 * k * M) ^ t) ∧ ∀ e, e < t → sm k (fun i => A e i * x i) = 0 := by
  have hk : 0 < k := by omega
  have hc1 : 1 ≤ 2 * k * M := Nat.le_trans (Nat.le_trans hM (Nat.le_mul_of_pos_left M hk)) (by rw [Nat.mul_assoc]; omega)
  generalize hX : (2 * k * M) ^ t = X
  have hX1 : 1 ≤ X := by rw [← hX]; exact Nat.pow_pos (by omega)
  have key : (2 * k * M * X + 1) ^ t < (X + 1) ^ k := by
    have h1 : 2 * k * M * X + 1 ≤ 2 * k * M * (X + 1) := by rw [Nat.mul_add]; omega
    have h2 : (2 * k * M * X + 1) ^ t ≤ X * (X + 1) ^ t := by
      refine Nat.le_trans (Nat.pow_le_pow_left h1 t) ?_
      rw [Nat.mul_pow, hX]
      exact Nat.le_refl _
    have h3 : X * (X + 1) ^ t < (X + 1) ^ (t + 1) := by
      rw [Nat.pow_succ, Nat.mul_comm]
      exact Nat.mul_lt_mul_of_pos_left (by omega) (Nat.pow_pos (by omega))
    exact Nat.lt_of_le_of_lt h2 (Nat.lt_of_lt_of_le h3 (Nat.pow_le_pow_right (by omega) (by omega)))
  let val : Nat → Nat → Int := fun d e => sm k (fun i => A e i * (dig (X + 1) k d i : Nat))
  have hval : ∀ d e, e < t → (val d e).natAbs ≤ k * (M * X) := fun d e he => sm_abs fun i hi => by
    rw [Int.natAbs_mul, Int.natAbs_natCast]
    exact Nat.mul_le_mul (hA e i he hi) (Nat.le_of_lt_succ (dig_lt (by omega) k d i))
  have hshift : ∀ d e, e < t → (val d e + (k * (M * X) : Nat)).toNat < 2 * k * M * X + 1 := fun d e he => by
    have := hval d e he
    have e2 : 2 * k * M * X = k * (M * X) + k * (M * X) := by
      rw [← Nat.two_mul, ← Nat.mul_assoc, ← Nat.mul_assoc]
    omega
  obtain ⟨d, d', hlt, hd', hcol⟩ := pigeon' key (fun d => enc (2 * k * M * X + 1) t fun e => (val d e + (k * (M * X) : Nat)).toNat) (fun d _ => enc_lt fun e he => hshift d e he)
  have heq : ∀ e, e < t → val d e = val d' e := fun e he => by
    have := enc_inj (fun e he => hshift d e he) (fun e he => hshift d' e he) hcol e he
    have a := hval d e he
    have b := hval d' e he
    omega
  refine ⟨fun i => (dig (X + 1) k d i : Nat) - (dig (X + 1) k d' i : Nat), ?_, fun i hi => ?_, fun e he => ?_⟩
  · apply Classical.byContradiction
    intro hn
    have : d = d' := dig_inj (b := X + 1) (by omega) (by omega) hd' fun i hi => by
      apply Classical.byContradiction
      intro h
      exact hn ⟨i, hi, fun z => h (by have z : ((dig (X + 1) k d i : Nat) : Int) - (dig (X + 1) k d' i : Nat) = 0 := z; omega)⟩
    omega
  · have a := dig_lt (b := X + 1) (by omega) k d i
    have b := dig_lt (b := X + 1) (by omega) k d' i
    show (((dig (X + 1) k d i : Nat) : Int) - (dig (X + 1) k d' i : Nat)).natAbs ≤ X
    omega
  · have := heq e he
    have e2 : sm k (fun i => A e i * ((dig (X + 1) k d i : Nat) - (dig (X + 1) k d' i : Nat))) = val d e - val d' e := by
      have e3 : (fun i => A e i * (((dig (X + 1) k d i : Nat) : Int) - ((dig (X + 1) k d' i : Nat) : Int))) = fun i => A e i * (dig (X + 1) k d i : Nat) + (-1) * (A e i * (dig (X + 1) k d' i : Nat)) := by
        funext i
        rw [Int.mul_sub]; omega
      rw [e3, sm_add, sm_mul]
      show val d e + -1 * val d' e = _
      omega
    rw [e2]; omega
end Hn
namespace Hn
/-! ### spans -/
inductive Sp (R : Vc → Prop) : Vc → Prop
  | zero : Sp R (fun _ => 0)
  | add {u v : Vc} (k : Int) : R u → Sp R v → Sp R (fun j => k * u j + v j)
theorem Sp.cast {R : Vc → Prop} {u v : Vc} (h : Sp R u) (e : ∀ j, u j = v j) : Sp R v := (funext e : u = v) ▸ h
theorem Sp.of {R : Vc → Prop} {u : Vc} (h : R u) : Sp R u := (Sp.add 1 h .zero).cast fun j => by omega
theorem Sp.plus {R : Vc → Prop} {u v : Vc} (hu : Sp R u) (hv : Sp R v) : Sp R (fun j => u j + v j) := by
  induction hu with
  | zero => exact hv.cast fun j => (Int.zero_add _).symm
  | add k h _ ih => exact (Sp.add k h ih).cast fun j => (Int.add_assoc _ _ _).symm
theorem Sp.mul {R : Vc → Prop} {u : Vc} (a : Int) (hu : Sp R u) : Sp R (fun j => a * u j) := by
  induction hu with
  | zero => exact Sp.zero.cast fun j => by simp
  | add k h _ ih => exact (Sp.add (a * k) h ih).cast fun j => by grind
theorem Sp.comb {R : Vc → Prop} {u v : Vc} (a b : Int) (hu : Sp R u) (hv : Sp R v) : Sp R (fun j => a * u j + b * v j) := (hu.mul a).plus (hv.mul b)
theorem Sp.trans {R R' : Vc → Prop} (h : ∀ u, R u → Sp R' u) {v : Vc} (hv : Sp R v) : Sp R' v := by
  induction hv with
  | zero => exact .zero
  | add k h1 _ ih => exact ((h _ h1).mul k).plus ih
theorem Sp.mono {R R' : Vc → Prop} (h : ∀ u, R u → R' u) {v : Vc} (hv : Sp R v) : Sp R' v := hv.trans fun u hu => .of (h u hu)
theorem Sp.sum {R : Vc → Prop} {T : Nat → Vc} (z : Nat → Int) : ∀ {m : Nat}, (∀ s, s < m → Sp R (T s)) → Sp R (fun j => sm m fun s => z s * T s j)
  | 0, _ => .zero
  | m + 1, h => (Sp.sum z (m := m) fun s hs => h s (by omega)).plus ((h m (by omega)).mul (z m))
theorem Sp.at0 {R : Vc → Prop} {v : Vc} (h : Sp R v) {i : Nat} (hR : ∀ u, R u → u i = 0) : v i = 0 := by
  induction h with
  | zero => rfl
  | @add u v k h1 _ ih =>
    show k * u i + v i = 0
    rw [hR _ h1, ih]; omega
theorem Sp.form {R : Vc → Prop} {v : Vc} (h : Sp R v) {k : Nat} {x : Nat → Int} {c : Nat → Nat} (hR : ∀ u, R u → sm k (fun i => x i * u (c i)) = 0) : sm k (fun i => x i * v (c i)) = 0 := by
  induction h with
  | zero => exact sm_zero fun i _ => by simp
  | @add u v a h1 _ ih =>
    have e : sm k (fun i => x i * (a * u (c i) + v (c i))) = a * sm k (fun i => x i * u (c i)) + sm k (fun i => x i * v (c i)) := by
      rw [← sm_mul, ← sm_add]
      exact sm_congr fun i _ => by grind
    rw [e, hR _ h1, ih]; omega
/-! ### few rows or a form -/
theorem dich {k M : Nat} (hM : 1 ≤ M) (R : Vc → Prop) (c : Nat → Nat) (hR : ∀ u, R u → ∀ i, i < k → (u (c i)).natAbs ≤ M) :
    (∃ x : Nat → Int, (∃ i, i < k ∧ x i ≠ 0) ∧ (∀ i, i < k → (x i).natAbs ≤ (2 * k * M) ^ k) ∧ ∀ u, R u → sm k (fun i => x i * u (c i)) = 0) ∨
    ∃ us : Nat → Vc, (∀ s, s < k → R (us s)) ∧ ∀ y : Nat → Int, (∀ i, i < k → sm k (fun s => y s * us s (c i)) = 0) → ∀ s, s < k → y s = 0 := by
  have step : ∀ t, t ≤ k → (∃ x : Nat → Int, (∃ i, i < k ∧ x i ≠ 0) ∧ (∀ i, i < k → (x i).natAbs ≤ (2 * k * M) ^ k) ∧ ∀ u, R u → sm k (fun i => x i * u (c i)) = 0) ∨
      ∃ us : Nat → Vc, (∀ s, s < t → R (us s)) ∧ ∀ y : Nat → Int, (∀ i, i < k → sm t (fun s => y s * us s (c i)) = 0) → ∀ s, s < t → y s = 0 := by
    intro t
    induction t with
    | zero => intro _; exact .inr ⟨fun _ _ => 0, fun s hs => by omega, fun y _ s hs => by omega⟩
    | succ t ih =>
      intro ht
      rcases ih (by omega) with h | ⟨us, hu, hi⟩
      · exact .inl h
      obtain ⟨x, x0, xb, xe⟩ := siegel (k := k) (t := t) (M := M) (by omega) hM (fun e i => us e (c i)) fun e i he hi => hR _ (hu e he) i hi
      by_cases hall : ∀ u, R u → sm k (fun i => x i * u (c i)) = 0
      · refine .inl ⟨x, x0, fun i hi => Nat.le_trans (xb i hi) (Nat.pow_le_pow_right ?_ (by omega)), hall⟩
        have : 0 < k := by omega
        exact Nat.mul_pos (by omega) hM
      · obtain ⟨u, h1⟩ := Classical.not_forall.mp hall
        obtain ⟨ru, h2⟩ := Classical.not_imp.mp h1
        refine .inr ⟨fun s => if s = t then u else us s, fun s hs => ?_, fun y hy => ?_⟩
        · dsimp only
          split
          · exact ru
          · exact hu s (by omega)
        · have eT : ∀ i, sm (t + 1) (fun s => y s * (if s = t then u else us s) (c i)) = sm t (fun s => y s * us s (c i)) + y t * u (c i) := fun i => by
            show sm t _ + y t * (if t = t then u else us t) (c i) = _
            rw [if_pos rfl]
            congr 1
            exact sm_congr fun s hs => by rw [if_neg (by omega)]
          have z : sm k (fun i => x i * (sm t (fun s => y s * us s (c i)) + y t * u (c i))) = 0 := sm_zero fun i hi => by
            rw [← eT i, hy i hi]; omega
          have e1 : sm k (fun i => x i * (sm t (fun s => y s * us s (c i)) + y t * u (c i))) = sm k (fun i => sm t fun s => y s * (us s (c i) * x i)) + y t * sm k (fun i => x i * u (c i)) := by
            rw [← sm_mul, ← sm_add]
            refine sm_congr fun i _ => ?_
            rw [Int.mul_add, ← sm_mul]
            have : sm t (fun s => x i * (y s * us s (c i))) = sm t fun s => y s * (us s (c i) * x i) := sm_congr fun s _ => by grind
            rw [this]; grind
          have e2 : sm k (fun i => sm t fun s => y s * (us s (c i) * x i)) = 0 := by
            rw [sm_swap]
            refine sm_zero fun s hs => ?_
            rw [sm_mul, xe s hs]; omega
          rw [e1, e2, Int.zero_add] at z
          have yt : y t = 0 := (Int.mul_eq_zero.mp z).resolve_right h2
          have rest := hi y fun i hi => by
            have := eT i
            rw [hy i hi, yt] at this
            omega
          intro s hs
          by_cases e : s = t
          · rw [e]; exact yt
          · exact rest s (by omega)
  exact step k (Nat.le_refl k)
/-! ### an echelon of steps -/
structure Tri (m : Nat) (T : Nat → Vc) (c : Nat → Nat) : Prop where
  lo : ∀ s i, s < m → i < s → T s (c i) = 0
  nz : ∀ s, s < m → T s (c s) ≠ 0
theorem Tri.form {m : Nat} {T : Nat → Vc} {c : Nat → Nat} (h : Tri m T c) {x : Nat → Int} : ∀ {k : Nat}, k ≤ m → (∀ s, s < k → sm k (fun i => x i * T s (c i)) = 0) → ∀ i, i < k → x i = 0
  | 0, _, _, i, hi => by omega
  | k + 1, hk, hs, i, hi => by
    have e := hs k (by omega)
    change sm k (fun i => x i * T k (c i)) + x k * T k (c k) = 0 at e
    rw [sm_zero fun i hi => by rw [h.lo k i (by omega) hi, Int.mul_zero], Int.zero_add] at e
    have xk : x k = 0 := (Int.mul_eq_zero.mp e).resolve_right (h.nz k (by omega))
    by_cases e : i = k
    · rw [e]; exact xk
    · refine Tri.form h (k := k) (by omega) (fun s hs2 => ?_) i (by omega)
      have := hs s (by omega)
      change sm k _ + x k * T s (c k) = 0 at this
      rw [xk] at this
      omega
/-- the first coordinates of a combination that begins with zeros are zero -/
theorem Tri.coef {m : Nat} {T : Nat → Vc} {c : Nat → Nat} (h : Tri m T c) {z : Nat → Int} {v : Vc} (hv : ∀ j, v j = sm m fun s => z s * T s j) : ∀ {k : Nat}, k ≤ m → (∀ i, i < k → v (c i) = 0) → ∀ i, i < k → z i = 0
  | 0, _, _, i, hi => by omega
  | k + 1, hk, hz, i, hi => by
    have rest := Tri.coef h hv (k := k) (by omega) (fun i hi => hz i (by omega))
    by_cases e : i = k
    · subst e
      have a := hv (c i)
      rw [hz i (by omega)] at a
      have : sm m (fun s => z s * T s (c i)) = z i * T i (c i) := sm_one (by omega) fun s hs hne => by
        by_cases hlt : s < i
        · rw [rest s hlt, Int.zero_mul]
        · rw [h.lo s i hs (by omega), Int.mul_zero]
      rw [this] at a
      exact (Int.mul_eq_zero.mp a.symm).resolve_right (h.nz i (by omega))
    · exact rest i (by omega)
structure Gens (m : Nat) (T : Nat → Vc) (R : Vc → Prop) : Prop where
  ts : ∀ s, s < m → Sp R (T s)
  rs : ∀ u, R u → ∃ z : Nat → Int, ∀ j, u j = sm m fun s => z s * T s j
theorem Gens.sp {m : Nat} {T : Nat → Vc} {R : Vc → Prop} (h : Gens m T R) {v : Vc} (hv : Sp R v) : ∃ z : Nat → Int, ∀ j, v j = sm m fun s => z s * T s j := by
  induction hv with
  | zero => exact ⟨fun _ => 0, fun j => (sm_zero fun s _ => by simp).symm⟩
  | @add u v k h1 _ ih =>
    obtain ⟨a, ha⟩ := h.rs _ h1
    obtain ⟨b, hb⟩ := ih
    exact ⟨fun s => k * a s + b s, fun j => by
      show k * u j + v j = _
      rw [ha, hb, ← sm_mul, ← sm_add]
      exact sm_congr fun s _ => by grind⟩
theorem piv_bound {m M n : Nat} {T : Nat → Vc} {c : Nat → Nat} {R : Vc → Prop} (hM : 1 ≤ M) (h : Tri m T c) (g : Gens m T R) (hR : ∀ u, R u → ∀ i, i < m → (u (c i)).natAbs ≤ M) (hmn : m ≤ n) {s : Nat} (hs : s < m) : (T s (c s)).natAbs ≤ (2 * n * M) ^ (n + 1) := by
  have k1 : s + 1 ≤ m := hs
  rcases dich (k := s + 1) hM R c fun u hu i hi => hR u hu i (by omega) with ⟨x, ⟨i, hi, hx⟩, _, xv⟩ | ⟨us, ru, ind⟩
  · exact absurd (h.form k1 (fun s' hs' => Sp.form (g.ts s' (by omega)) xv) i hi) hx
  · obtain ⟨y, ⟨i0, hi0, hy0⟩, yb, ye⟩ := siegel (k := s + 1) (t := s) (M := M) (by omega) hM (fun e t => us t (c e)) fun e t he ht => hR _ (ru t ht) e (by omega)
    have hw : Sp R (fun j => sm (s + 1) fun t => y t * us t j) := Sp.sum y fun t ht => .of (ru t ht)
    obtain ⟨z, hz⟩ := g.sp hw
    have w0 : ∀ i, i < s → (fun j => sm (s + 1) fun t => y t * us t j) (c i) = 0 := fun i hi => by
      have := ye i hi
      show sm (s + 1) (fun t => y t * us t (c i)) = 0
      rw [← this]
      exact sm_congr fun t _ => Int.mul_comm _ _
    have z0 := h.coef hz (k := s) (by omega) w0
    have wne : sm (s + 1) (fun t => y t * us t (c s)) ≠ 0 := fun e => hy0 (ind y (fun i hi => by
      by_cases e2 : i = s
      · rw [e2]; exact e
      · exact w0 i (by omega)) i0 hi0)
    have wc : sm (s + 1) (fun t => y t * us t (c s)) = z s * T s (c s) := by
      rw [show sm (s + 1) (fun t => y t * us t (c s)) = sm m (fun s' => z s' * T s' (c s)) from hz (c s)]
      exact sm_one hs fun s' hs' hne => by
        by_cases hlt : s' < s
        · rw [z0 s' hlt, Int.zero_mul]
        · rw [h.lo s' s hs' (by omega), Int.mul_zero]
    have hb : (sm (s + 1) (fun t => y t * us t (c s))).natAbs ≤ (s + 1) * ((2 * (s + 1) * M) ^ s * M) := sm_abs fun t ht => by
      rw [Int.natAbs_mul]
      exact Nat.mul_le_mul (yb t ht) (hR _ (ru t ht) s hs)
    have hz1 : 1 ≤ (z s).natAbs := by
      apply Classical.byContradiction
      intro hh
      have : z s = 0 := by omega
      rw [wc, this, Int.zero_mul] at wne
      exact wne rfl
    have le1 : (T s (c s)).natAbs ≤ (sm (s + 1) (fun t => y t * us t (c s))).natAbs := by
      rw [wc, Int.natAbs_mul]
      exact Nat.le_mul_of_pos_left _ hz1
    refine Nat.le_trans (Nat.le_trans le1 hb) ?_
    have a1 : 2 * (s + 1) * M ≤ 2 * n * M := Nat.mul_le_mul_right M (by omega)
    have hX : 1 ≤ 2 * n * M := Nat.mul_pos (by omega) hM
    have a2 : (2 * (s + 1) * M) ^ s ≤ (2 * n * M) ^ n := Nat.le_trans (Nat.pow_le_pow_left a1 s) (Nat.pow_le_pow_right hX (by omega))
    have a3 : (s + 1) * M ≤ 2 * n * M := Nat.mul_le_mul_right M (by omega)
    calc (s + 1) * ((2 * (s + 1) * M) ^ s * M) = (2 * (s + 1) * M) ^ s * ((s + 1) * M) := by
          rw [← Nat.mul_assoc, Nat.mul_comm (s + 1), Nat.mul_assoc]
      _ ≤ (2 * n * M) ^ n * (2 * n * M) := Nat.mul_le_mul a2 a3
      _ = (2 * n * M) ^ (n + 1) := (Nat.pow_succ ..).symm
/-- a form on the pivots and one column more -/
theorem form_bound {m M n : Nat} {T : Nat → Vc} {c : Nat → Nat} {R : Vc → Prop} (hM : 1 ≤ M) (h : Tri m T c) (g : Gens m T R) (hR : ∀ u, R u → ∀ i, (u i).natAbs ≤ M) (hmn : m < n) (j : Nat) :
    ∃ (x : Nat → Int) (d : Int), d ≠ 0 ∧ d.natAbs ≤ (2 * n * M) ^ n ∧ (∀ i, i < m → (x i).natAbs ≤ (2 * n * M) ^ n) ∧ ∀ v, Sp R v → sm m (fun i => x i * v (c i)) + d * v j = 0 := by
  have hX : 1 ≤ 2 * n * M := Nat.mul_pos (by omega) hM
  have hpow : (2 * (m + 1) * M) ^ (m + 1) ≤ (2 * n * M) ^ n := Nat.le_trans (Nat.pow_le_pow_left (Nat.mul_le_mul_right M (by omega)) _) (Nat.pow_le_pow_right hX (by omega))
  let c' : Nat → Nat := fun i => if i = m then j else c i
  have e : ∀ (x : Nat → Int) (v : Vc), sm (m + 1) (fun i => x i * v (c' i)) = sm m (fun i => x i * v (c i)) + x m * v j := fun x v => by
    show sm m (fun i => x i * v (c' i)) + x m * v (c' m) = _
    have e1 : c' m = j := if_pos rfl
    rw [e1]
    congr 1
    exact sm_congr fun i hi => by
      have : c' i = c i := if_neg (by omega)
      rw [this]
  rcases dich (k := m + 1) hM R c' fun u hu i hi => hR u hu _ with ⟨x, ⟨i, hi, hx⟩, xb, xv⟩ | ⟨us, ru, ind⟩
  · refine ⟨x, x m, fun hm => ?_, Nat.le_trans (xb m (by omega)) hpow, fun i hi => Nat.le_trans (xb i (by omega)) hpow, fun v hv => ?_⟩
    · have z := h.form (Nat.le_refl m) (x := x) fun s hs => by
        have := Sp.form (g.ts s hs) xv
        rw [e, hm, Int.zero_mul, Int.add_zero] at this
        exact this
      refine hx ?_
      by_cases e2 : i = m
      · rw [e2]; exact hm
      · exact z i (by omega)
    · rw [← e]; exact Sp.form hv xv
  · exfalso
    have hz : ∀ s, ∃ z : Nat → Int, s < m + 1 → ∀ j, us s j = sm m fun l => z l * T l j := fun s => by
      by_cases hs : s < m + 1
      · obtain ⟨z, hz⟩ := g.rs _ (ru s hs)
        exact ⟨z, fun _ => hz⟩
      · exact ⟨fun _ => 0, fun hs' => absurd hs' hs⟩
    obtain ⟨Z, hZ⟩ := Classical.axiomOfChoice hz
    have bnd : ∀ a b : Nat, ∃ B : Nat, ∀ s l, s < a → l < b → (Z s l).natAbs ≤ B := by
      intro a
      induction a with
      | zero => exact fun b => ⟨0, fun s l hs => by omega⟩
      | succ a ih =>
        intro b
        obtain ⟨B, hB⟩ := ih b
        have row : ∃ B', ∀ l, l < b → (Z a l).natAbs ≤ B' := by
          clear hB
          induction b with
          | zero => exact ⟨0, fun l hl => by omega⟩
          | succ b ihb =>
            obtain ⟨B', hB'⟩ := ihb
            refine ⟨B' + (Z a b).natAbs, fun l hl => ?_⟩
            by_cases e : l = b
            · rw [e]; omega
            · have := hB' l (by omega); omega
        obtain ⟨B', hB'⟩ := row
        refine ⟨B + B', fun s l hs hl => ?_⟩
        by_cases e : s = a
        · rw [e]; have := hB' l hl; omega
        · have := hB s l (by omega) hl; omega
    obtain ⟨B, hB⟩ := bnd (m + 1) m
    obtain ⟨y, ⟨i0, hi0, hy0⟩, _, ye⟩ := siegel (k := m + 1) (t := m) (M := B + 1) (by omega) (by omega) (fun l s => Z s l) fun l s hl hs => by have := hB s l hs hl; omega
    refine hy0 (ind y (fun i hi => ?_) i0 hi0)
    have e1 : sm (m + 1) (fun s => y s * us s (c' i)) = sm (m + 1) (fun s => sm m fun l => T l (c' i) * (Z s l * y s)) := sm_congr fun s hs => by
      rw [hZ s hs, ← sm_mul]
      exact sm_congr fun l _ => by grind
    rw [e1, sm_swap]
    refine sm_zero fun l hl => ?_
    rw [sm_mul, ye l hl, Int.mul_zero]
end Hn
namespace Hn
/-! ### rows as lists, steps by columns -/
def fv (l : List Int) : Vc := fun i => l.getD i 0
theorem fv_out {l : List Int} {j : Nat} (h : l.length ≤ j) : fv l j = 0 := by
  unfold fv
  rw [List.getD_eq_getElem?_getD, List.getElem?_eq_none h]; rfl
theorem fv_at {l : List Int} {j : Nat} {x : Int} (h : l[j]? = some x) : fv l j = x := by
  unfold fv
  rw [List.getD_eq_getElem?_getD, h]; rfl
theorem fv_get {l : List Int} {j : Nat} (h : j < l.length) : l[j]? = some (fv l j) := by
  unfold fv
  rw [List.getD_eq_getElem?_getD, List.getElem?_eq_getElem h]; rfl
theorem fv_ext {a b : List Int} (h : a.length = b.length) (e : ∀ j, fv a j = fv b j) : a = b := by
  refine List.ext_getElem? fun j => ?_
  by_cases hj : j < a.length
  · rw [fv_get hj, fv_get (by omega), e]
  · rw [List.getElem?_eq_none (by omega), List.getElem?_eq_none (by omega)]
theorem fv_zip {f : Int → Int → Int} (f0 : f 0 0 = 0) {a b : List Int} (h : a.length = b.length) (j : Nat) : fv (List.zipWith f a b) j = f (fv a j) (fv b j) := by
  by_cases hj : j < a.length
  · refine fv_at ?_
    rw [List.getElem?_zipWith, fv_get hj, fv_get (l := b) (by omega)]
  · rw [fv_out (by rw [List.length_zipWith]; omega), fv_out (l := a) (by omega), fv_out (l := b) (by omega), f0]
theorem fv_map {f : Int → Int} (f0 : f 0 = 0) {a : List Int} (j : Nat) : fv (a.map f) j = f (fv a j) := by
  by_cases hj : j < a.length
  · refine fv_at ?_
    rw [List.getElem?_map, fv_get hj]; rfl
  · rw [fv_out (by rw [List.length_map]; omega), fv_out (l := a) (by omega), f0]
abbrev Steps := List (Option (List Int))
def RowsOf (st : Steps) : Vc → Prop := fun v => ∃ (c : Nat) (l : List Int), st[c]? = some (some l) ∧ v = fv l
def RowsGt (st : Steps) (k : Nat) : Vc → Prop := fun v => ∃ (c : Nat) (l : List Int), k < c ∧ st[c]? = some (some l) ∧ v = fv l
def or1 (R : Vc → Prop) (u : Vc) : Vc → Prop := fun v => R v ∨ v = u
structure Ech (N : Nat) (st : Steps) : Prop where
  len : st.length = N
  row : ∀ (c : Nat) (l : List Int), st[c]? = some (some l) → l.length = N
  lo : ∀ (c : Nat) (l : List Int) (j : Nat), st[c]? = some (some l) → j < c → fv l j = 0
  piv : ∀ (c : Nat) (l : List Int), st[c]? = some (some l) → 0 < fv l c
theorem Ech.lt {N : Nat} {st : Steps} (e : Ech N st) {c : Nat} {x : Option (List Int)} (h : st[c]? = some x) : c < N := by
  rw [← e.len]
  exact (List.getElem?_eq_some_iff.mp h).1
def isStep : Option (Option (List Int)) → Bool
  | some (some _) => true
  | _ => false
def rowAt : Option (Option (List Int)) → List Int
  | some (some l) => l
  | _ => []
theorem isStep_some {x : Option (Option (List Int))} (h : isStep x = true) : x = some (some (rowAt x)) := by
  match x, h with
  | some (some l), _ => rfl
def cols (st : Steps) : List Nat := (List.range st.length).filter fun c => isStep st[c]?
def cI (st : Steps) (i : Nat) : Nat := (cols st).getD i 0
def TI (st : Steps) (i : Nat) : Vc := fv (rowAt st[cI st i]?)
theorem cI_get {st : Steps} {i : Nat} (h : i < (cols st).length) : (cols st)[i]? = some (cI st i) := by
  unfold cI
  rw [List.getD_eq_getElem?_getD, List.getElem?_eq_getElem h]; rfl
theorem cI_step {st : Steps} {i : Nat} (h : i < (cols st).length) : st[cI st i]? = some (some (rowAt st[cI st i]?)) := by
  have := List.mem_of_getElem? (cI_get h)
  exact isStep_some (List.mem_filter.mp this).2
theorem cols_lt {st : Steps} : (cols st).Pairwise (· < ·) := List.Pairwise.filter _ List.pairwise_lt_range
theorem cI_lt {st : Steps} {i j : Nat} (h : i < j) (hj : j < (cols st).length) : cI st i < cI st j := by
  have := List.pairwise_iff_getElem.mp (cols_lt (st := st)) i j (by omega) hj h
  have a := cI_get (st := st) (i := i) (by omega)
  have b := cI_get hj
  rw [List.getElem?_eq_getElem (by omega)] at a
  rw [List.getElem?_eq_getElem hj] at b
  rw [Option.some.inj a, Option.some.inj b] at this
  exact this
theorem cI_of {st : Steps} {c : Nat} {l : List Int} (h : st[c]? = some (some l)) : ∃ i, i < (cols st).length ∧ cI st i = c := by
  have hm : c ∈ cols st := List.mem_filter.mpr ⟨List.mem_range.mpr (List.getElem?_eq_some_iff.mp h).1, by rw [h]; rfl⟩
  obtain ⟨i, hi, e⟩ := List.getElem_of_mem hm
  refine ⟨i, hi, ?_⟩
  have := cI_get hi
  rw [List.getElem?_eq_getElem hi, e] at this
  exact (Option.some.inj this).symm
theorem Ech.tri {N : Nat} {st : Steps} (e : Ech N st) : Tri (cols st).length (TI st) (cI st) :=
  ⟨fun s i hs hi => e.lo _ _ _ (cI_step hs) (cI_lt hi hs), fun s hs => by have := e.piv _ _ (cI_step hs); unfold TI; omega⟩
theorem Ech.m_le {N : Nat} {st : Steps} (e : Ech N st) : (cols st).length ≤ N := by
  rw [← e.len]
  have := List.length_filter_le (fun c => isStep st[c]?) (List.range st.length)
  rwa [List.length_range] at this
theorem Ech.m_lt {N : Nat} {st : Steps} (e : Ech N st) {j : Nat} (hj : j < N) (h : ∀ l, st[j]? ≠ some (some l)) : (cols st).length < N := by
  have h1 : (cols st).length < (List.range st.length).length := by
    refine List.length_filter_lt_length_iff_exists.mpr ⟨j, List.mem_range.mpr (by rw [e.len]; exact hj), fun hh => ?_⟩
    exact h _ (isStep_some hh)
  rwa [List.length_range, e.len] at h1
theorem rows_coef {st : Steps} {v : Vc} (h : RowsOf st v) : ∃ z : Nat → Int, ∀ j, v j = sm (cols st).length fun s => z s * TI st s j := by
  obtain ⟨c, l, hc, rfl⟩ := h
  obtain ⟨i, hi, e⟩ := cI_of hc
  refine ⟨fun s => if s = i then 1 else 0, fun j => ?_⟩
  rw [sm_one hi fun s _ hne => by show (if s = i then (1 : Int) else 0) * TI st s j = 0; rw [if_neg hne, Int.zero_mul]]
  show fv l j = (if i = i then (1 : Int) else 0) * TI st i j
  rw [if_pos rfl, Int.one_mul]
  unfold TI
  rw [e, hc]
  rfl
theorem gens_self (st : Steps) : Gens (cols st).length (TI st) (RowsOf st) := ⟨fun s hs => .of ⟨_, _, cI_step hs, rfl⟩, fun u hu => rows_coef hu⟩
theorem gens_of {st : Steps} {R : Vc → Prop} (h : ∀ v, Sp R v ↔ Sp (RowsOf st) v) : Gens (cols st).length (TI st) R :=
  ⟨fun s hs => (h _).mpr ((gens_self st).ts s hs), fun u hu => (gens_self st).sp ((h u).mp (.of hu))⟩
/-- a vector of the lattice begins at a pivot, with a multiple of it -/
theorem lead {N : Nat} {st : Steps} (e : Ech N st) {v : Vc} (hv : Sp (RowsOf st) v) : (∀ j, v j = 0) ∨ ∃ c l, st[c]? = some (some l) ∧ (∀ j, j < c → v j = 0) ∧ v c ≠ 0 ∧ ∃ q, v c = q * fv l c := by
  obtain ⟨z, hz⟩ := (gens_self st).sp hv
  have tri := e.tri
  have least : ∀ k, k ≤ (cols st).length → (∀ s, s < k → z s = 0) ∨ ∃ s, s < k ∧ z s ≠ 0 ∧ ∀ t, t < s → z t = 0 := by
    intro k
    induction k with
    | zero => exact fun _ => .inl fun s hs => by omega
    | succ k ih =>
      intro hk
      rcases ih (by omega) with h | ⟨s, h1, h2, h3⟩
      · by_cases hz : z k = 0
        · exact .inl fun s hs => by
            by_cases e : s = k
            · rw [e]; exact hz
            · exact h s (by omega)
        · exact .inr ⟨k, by omega, hz, h⟩
      · exact .inr ⟨s, by omega, h2, h3⟩
  rcases least _ (Nat.le_refl _) with h | ⟨s, h1, h2, h3⟩
  · exact .inl fun j => by rw [hz]; exact sm_zero fun s hs => by rw [h s hs, Int.zero_mul]
  · refine .inr ⟨cI st s, rowAt st[cI st s]?, cI_step h1, fun j hj => ?_, ?_⟩
    · rw [hz]
      refine sm_zero fun t ht => ?_
      by_cases hts : t < s
      · rw [h3 t hts, Int.zero_mul]
      · have : cI st s ≤ cI st t := by
          by_cases e : s = t
          · rw [e]; exact Nat.le_refl _
          · exact Nat.le_of_lt (cI_lt (by omega) ht)
        have z0 : TI st t j = 0 := e.lo _ _ _ (cI_step ht) (by omega)
        rw [z0, Int.mul_zero]
    · have ev : v (cI st s) = z s * TI st s (cI st s) := by
        rw [hz]
        refine sm_one h1 fun t ht hne => ?_
        by_cases hts : t < s
        · rw [h3 t hts, Int.zero_mul]
        · rw [tri.lo t s ht (by omega), Int.mul_zero]
      refine ⟨fun h => ?_, z s, ev⟩
      rw [ev] at h
      rcases Int.mul_eq_zero.mp h with h | h
      · exact h2 h
      · exact tri.nz s h1 h
/-! ### the bounds -/
def pB (N M : Nat) : Nat := (2 * N * M) ^ (N + 1)
def zB (N M : Nat) : Nat := (N + 1) * ((2 * N * M) ^ N * M * (pB N M + 1) ^ (N + 1)) + N * ((2 * N * M) ^ N * pB N M)
def bnd (M : Nat) (u : Vc) : Prop := ∀ j, (u j).natAbs ≤ M
theorem Ech.pivB {N M : Nat} {st : Steps} {R : Vc → Prop} (e : Ech N st) (hM : 1 ≤ M) (hR : ∀ u, R u → bnd M u) (h : ∀ v, Sp R v ↔ Sp (RowsOf st) v) {c : Nat} {l : List Int} (hc : st[c]? = some (some l)) : (fv l c).natAbs ≤ pB N M := by
  obtain ⟨i, hi, ei⟩ := cI_of hc
  have := piv_bound hM e.tri (gens_of h) (fun u hu i _ => hR u hu _) e.m_le hi
  unfold TI at this
  rw [ei, hc] at this
  exact this
theorem natAbs_add3 {a b c : Int} {x y z : Nat} (ha : a.natAbs ≤ x) (hb : b.natAbs ≤ y) (hc : c.natAbs ≤ z) : (a + b + c).natAbs ≤ x + y + z := by omega
/-- what is short on the pivots is short -/
theorem Ech.sizeB {N M : Nat} {st : Steps} {R : Vc → Prop} (e : Ech N st) (hM : 1 ≤ M) (hR : ∀ u, R u → bnd M u) (h : ∀ v, Sp R v ↔ Sp (RowsOf st) v) {u v w : Vc} {a : Int} (hu : bnd M u) (hw : Sp R w) (ha : a.natAbs ≤ (pB N M + 1) ^ (N + 1))
    (hv : ∀ j, v j = a * u j + w j) (hs : ∀ c l, st[c]? = some (some l) → (v c).natAbs ≤ pB N M) {j : Nat} (hj : j < N) : (v j).natAbs ≤ zB N M := by
  have hX : 1 ≤ 2 * N * M := Nat.mul_pos (by omega) hM
  have hXN : 1 ≤ (2 * N * M) ^ N := Nat.pow_pos hX
  have hz : pB N M ≤ zB N M := by
    unfold zB
    have : pB N M ≤ N * ((2 * N * M) ^ N * pB N M) := Nat.le_trans (Nat.le_mul_of_pos_left _ hXN) (Nat.le_mul_of_pos_left _ (by omega))
    omega
  by_cases hst : ∃ l, st[j]? = some (some l)
  · obtain ⟨l, hl⟩ := hst
    exact Nat.le_trans (hs j l hl) hz
  · have mlt := e.m_lt hj fun l hl => hst ⟨l, hl⟩
    obtain ⟨x, d, d0, dB, xB, hf⟩ := form_bound hM e.tri (gens_of h) hR mlt j
    have f1 := hf w hw
    generalize hm : (cols st).length = m at *
    generalize hW : (2 * N * M) ^ N = W at *
    have hci : ∀ i, i < m → (v (cI st i)).natAbs ≤ pB N M := fun i hi => hs _ _ (cI_step (by omega))
    -- d v j = a (d u j) - sum x v + a sum x u
    have key : d * v j = a * (d * u j) + -(sm m fun i => x i * v (cI st i)) + a * sm m fun i => x i * u (cI st i) := by
      have e1 : sm m (fun i => x i * v (cI st i)) = a * sm m (fun i => x i * u (cI st i)) + sm m (fun i => x i * w (cI st i)) := by
        rw [← sm_mul, ← sm_add]
        exact sm_congr fun i _ => by rw [hv]; grind
      rw [e1, hv j]
      grind
    have b1 : (a * (d * u j)).natAbs ≤ (pB N M + 1) ^ (N + 1) * (W * M) := by
      rw [Int.natAbs_mul, Int.natAbs_mul]
      exact Nat.mul_le_mul ha (Nat.mul_le_mul dB (hu j))
    have b2 : (-(sm m fun i => x i * v (cI st i))).natAbs ≤ N * (W * pB N M) := by
      rw [Int.natAbs_neg]
      refine Nat.le_trans (sm_abs (B := W * pB N M) fun i hi => ?_) (Nat.mul_le_mul_right _ (by omega))
      rw [Int.natAbs_mul]
      exact Nat.mul_le_mul (xB i hi) (hci i hi)
    have b3 : (a * sm m fun i => x i * u (cI st i)).natAbs ≤ (pB N M + 1) ^ (N + 1) * (N * (W * M)) := by
      rw [Int.natAbs_mul]
      refine Nat.mul_le_mul ha (Nat.le_trans (sm_abs (B := W * M) fun i hi => ?_) (Nat.mul_le_mul_right _ (by omega)))
      rw [Int.natAbs_mul]
      exact Nat.mul_le_mul (xB i hi) (hu _)
    have b4 := natAbs_add3 b1 b2 b3
    rw [← key] at b4
    have hd : (v j).natAbs ≤ (d * v j).natAbs := by
      rw [Int.natAbs_mul]
      exact Nat.le_mul_of_pos_left _ (by omega)
    refine Nat.le_trans hd (Nat.le_trans b4 ?_)
    unfold zB
    rw [hW]
    generalize (pB N M + 1) ^ (N + 1) = Q
    have e5 : (N + 1) * (W * M * Q) = Q * (N * (W * M)) + Q * (W * M) := by grind
    omega
theorem le_mul1 {a b : Int} (hb : 0 ≤ b) (ha : 1 ≤ a) : b ≤ a * b := by
  have := Int.mul_le_mul_of_nonneg_right ha hb
  omega
/-! ### reduced steps: there is one list of them for a lattice -/
def Red (st : Steps) : Prop := ∀ (c : Nat) (l : List Int) (j : Nat) (l' : List Int), st[c]? = some (some l) → c < j → st[j]? = some (some l') → 0 ≤ fv l j ∧ fv l j < fv l' j
theorem Sp.sub {R : Vc → Prop} {u v : Vc} (hu : Sp R u) (hv : Sp R v) : Sp R (fun j => u j - v j) := (hu.comb 1 (-1) hv).cast fun j => by omega
theorem uniq_aux {N : Nat} {a b : Steps} (ea : Ech N a) (eb : Ech N b) (ra : Red a) (rb : Red b) (h : ∀ v, Sp (RowsOf a) v ↔ Sp (RowsOf b) v) {c : Nat} {l : List Int} (hc : a[c]? = some (some l)) : b[c]? = some (some l) := by
  have step : ∀ {a b : Steps} (_ : Ech N a) (_ : Ech N b) (_ : ∀ v, Sp (RowsOf a) v → Sp (RowsOf b) v) {c : Nat} {l : List Int}, a[c]? = some (some l) → ∃ l', b[c]? = some (some l') ∧ ∃ q, fv l c = q * fv l' c := by
    intro a b ea eb h c l hc
    have hp := ea.piv _ _ hc
    rcases lead eb (h _ (.of ⟨c, l, hc, rfl⟩)) with h0 | ⟨c', l', hc', hz, hn, q, hq⟩
    · have := h0 c; omega
    · have : c' = c := by
        rcases Nat.lt_trichotomy c' c with g | g | g
        · exact absurd (ea.lo _ _ _ hc g) hn
        · exact g
        · have := hz c g; omega
      subst this
      exact ⟨l', hc', q, hq⟩
  obtain ⟨l', hc', q, hq⟩ := step ea eb (fun v hv => (h v).mp hv) hc
  obtain ⟨l2, hc2, q2, hq2⟩ := step eb ea (fun v hv => (h v).mpr hv) hc'
  rw [hc] at hc2
  cases hc2
  have hp := ea.piv _ _ hc
  have hp' := eb.piv _ _ hc'
  have hpe : fv l c = fv l' c := by
    have q1 : 0 < q := by
      apply Classical.byContradiction
      intro hh
      have : q * fv l' c ≤ 0 := Int.mul_nonpos_of_nonpos_of_nonneg (by omega) (by omega)
      omega
    have q3 : 0 < q2 := by
      apply Classical.byContradiction
      intro hh
      have : q2 * fv l c ≤ 0 := Int.mul_nonpos_of_nonpos_of_nonneg (by omega) (by omega)
      omega
    have a1 : fv l' c ≤ q * fv l' c := le_mul1 (by omega) (by omega)
    have a2 : fv l c ≤ q2 * fv l c := le_mul1 (by omega) (by omega)
    omega
  have hd : Sp (RowsOf b) (fun j => fv l j - fv l' j) := Sp.sub ((h _).mp (.of ⟨c, l, hc, rfl⟩)) (.of ⟨c, l', hc', rfl⟩)
  have he : ∀ j, fv l j = fv l' j := by
    rcases lead eb hd with h0 | ⟨k, lk, hk, hz, hn, q3, hq3⟩
    · exact fun j => by have := h0 j; omega
    · exfalso
      have hck : c < k := by
        rcases Nat.lt_trichotomy c k with g | g | g
        · exact g
        · subst g; exact absurd (show fv l c - fv l' c = 0 by omega) hn
        · exact absurd (show fv l k - fv l' k = 0 by rw [ea.lo _ _ _ hc g, eb.lo _ _ _ hc' g]; rfl) hn
      obtain ⟨la, hla, qa, hqa⟩ := step eb ea (fun v hv => (h v).mpr hv) hk
      obtain ⟨lb, hlb, qb, hqb⟩ := step ea eb (fun v hv => (h v).mp hv) hla
      rw [hk] at hlb
      cases hlb
      have pk := eb.piv _ _ hk
      have pa := ea.piv _ _ hla
      have hpk : fv la k = fv lk k := by
        have q1 : 0 < qa := by
          apply Classical.byContradiction
          intro hh
          have : qa * fv la k ≤ 0 := Int.mul_nonpos_of_nonpos_of_nonneg (by omega) (by omega)
          omega
        have q2 : 0 < qb := by
          apply Classical.byContradiction
          intro hh
          have : qb * fv lk k ≤ 0 := Int.mul_nonpos_of_nonpos_of_nonneg (by omega) (by omega)
          omega
        have a1 : fv la k ≤ qa * fv la k := le_mul1 (by omega) (by omega)
        have a2 : fv lk k ≤ qb * fv lk k := le_mul1 (by omega) (by omega)
        omega
      have r1 := ra c l k la hc hck hla
      have r2 := rb c l' k lk hc' hck hk
      change fv l k - fv l' k ≠ 0 at hn
      change fv l k - fv l' k = q3 * fv lk k at hq3
      rcases Int.lt_trichotomy q3 0 with g | g | g
      · have : (-q3) * fv lk k ≥ fv lk k := le_mul1 (by omega) (by omega)
        rw [Int.neg_mul] at this
        omega
      · rw [g] at hq3; omega
      · have : q3 * fv lk k ≥ fv lk k := le_mul1 (by omega) (by omega)
        omega
  have : l = l' := fv_ext (by rw [ea.row _ _ hc, eb.row _ _ hc']) he
  rw [hc', this]
theorem uniq {N : Nat} {a b : Steps} (ea : Ech N a) (eb : Ech N b) (ra : Red a) (rb : Red b) (h : ∀ v, Sp (RowsOf a) v ↔ Sp (RowsOf b) v) : a = b := by
  refine List.ext_getElem? fun c => ?_
  by_cases hc : c < N
  · have hca : c < a.length := by rw [ea.len]; exact hc
    have hcb : c < b.length := by rw [eb.len]; exact hc
    have ha : a[c]? = some a[c] := List.getElem?_eq_getElem hca
    have hb : b[c]? = some b[c] := List.getElem?_eq_getElem hcb
    rcases hA : a[c] with _ | l
    · rcases hB : b[c] with _ | l
      · rw [ha, hb, hA, hB]
      · rw [hB] at hb
        have := uniq_aux eb ea rb ra (fun v => (h v).symm) hb
        rw [ha, hA] at this
        cases this
    · rw [hA] at ha
      rw [ha, uniq_aux ea eb ra rb h ha]
  · rw [List.getElem?_eq_none (by rw [ea.len]; omega), List.getElem?_eq_none (by rw [eb.len]; omega)]
end Hn
namespace Hn
def lessL (xs : List Int) (q : Int) (ys : List Int) : List Int := List.zipWith (fun e t => e - q * t) xs ys
def combL (f : Int) (xs : List Int) (g : Int) (ys : List Int) : List Int := List.zipWith (fun e a => f * e + g * a) xs ys
theorem fv_less {xs ys : List Int} {q : Int} (h : xs.length = ys.length) (j : Nat) : fv (lessL xs q ys) j = fv xs j - q * fv ys j := fv_zip (f := fun e t => e - q * t) (by simp) h j
theorem fv_comb {xs ys : List Int} {f g : Int} (h : xs.length = ys.length) (j : Nat) : fv (combL f xs g ys) j = f * fv xs j + g * fv ys j := fv_zip (f := fun e a => f * e + g * a) (by simp) h j
theorem len_less {xs ys : List Int} {q : Int} (h : xs.length = ys.length) : (lessL xs q ys).length = xs.length := by unfold lessL; rw [List.length_zipWith]; omega
theorem len_comb {xs ys : List Int} {f g : Int} (h : xs.length = ys.length) : (combL f xs g ys).length = xs.length := by unfold combL; rw [List.length_zipWith]; omega
theorem bnd_mono {A B : Nat} (h : A ≤ B) {v : Vc} (hv : bnd A v) : bnd B v := fun j => Nat.le_trans (hv j) h
theorem bnd_out {N A : Nat} {l : List Int} (hl : l.length = N) (h : ∀ j, j < N → (fv l j).natAbs ≤ A) : bnd A (fv l) := fun j => by
  by_cases hj : j < N
  · exact h j hj
  · rw [fv_out (by omega)]; simp
/-! ### a row brought below the pivots behind a column -/
structure LowTo (N : Nat) (st : Steps) (c p : Nat) (xs zs : List Int) : Prop where
  len : zs.length = N
  dif : ∃ w : Vc, Sp (RowsGt st c) w ∧ ∀ j, fv zs j = fv xs j + w j
  red : ∀ (k : Nat) (l : List Int), c < k → k < p → st[k]? = some (some l) → 0 ≤ fv zs k ∧ fv zs k < fv l k
theorem LowTo.start {N : Nat} {st : Steps} {c : Nat} {xs : List Int} (h : xs.length = N) : LowTo N st c (c + 1) xs xs :=
  ⟨h, ⟨_, .zero, fun j => by omega⟩, fun k l h1 h2 => by omega⟩
theorem LowTo.none {N : Nat} {st : Steps} {c p : Nat} {xs zs : List Int} (h : LowTo N st c p xs zs) (hp : ∀ l, st[p]? ≠ some (some l)) : LowTo N st c (p + 1) xs zs :=
  ⟨h.len, h.dif, fun k l h1 h2 h3 => by
    by_cases e : k = p
    · exact absurd (e ▸ h3) (hp l)
    · exact h.red k l h1 (by omega) h3⟩
theorem LowTo.some {N : Nat} {st : Steps} (e : Ech N st) {c p : Nat} {xs zs l : List Int} (h : LowTo N st c p xs zs) (hcp : c < p) (hp : st[p]? = some (some l)) : LowTo N st c (p + 1) xs (lessL zs (fv zs p / fv l p) l) := by
  have hl := e.row _ _ hp
  have hll : zs.length = l.length := by rw [h.len, hl]
  refine ⟨by rw [len_less hll, h.len], ?_, fun k l' h1 h2 h3 => ?_⟩
  · obtain ⟨w, hw, ew⟩ := h.dif
    exact ⟨_, hw.comb 1 (-(fv zs p / fv l p)) (.of ⟨p, l, hcp, hp, rfl⟩), fun j => by rw [fv_less hll, ew]; grind⟩
  · rw [fv_less hll]
    by_cases ek : k = p
    · subst ek
      rw [hp] at h3
      cases h3
      have pp := e.piv _ _ hp
      have := Int.emod_nonneg (fv zs k) (b := fv l k) (by omega)
      have := Int.emod_lt_of_pos (fv zs k) pp
      have e3 : fv zs k - fv zs k / fv l k * fv l k = fv zs k % fv l k := by
        have := Int.mul_ediv_add_emod (fv zs k) (fv l k)
        rw [Int.mul_comm] at this
        omega
      omega
    · rw [e.lo p l k hp (by omega), Int.mul_zero, Int.sub_zero]
      exact h.red k l' h1 (by omega) h3
abbrev Low (N : Nat) (st : Steps) (c : Nat) (xs zs : List Int) : Prop := LowTo N st c N xs zs
theorem gt_of {st : Steps} {c : Nat} {v : Vc} (h : RowsGt st c v) : RowsOf st v := let ⟨k, l, _, a, b⟩ := h; ⟨k, l, a, b⟩
theorem gt_low {N : Nat} {st : Steps} (e : Ech N st) {c : Nat} {w : Vc} (hw : Sp (RowsGt st c) w) {j : Nat} (hj : j ≤ c) : w j = 0 := hw.at0 fun u ⟨k, l, h1, h2, h3⟩ => by rw [h3]; exact e.lo _ _ _ h2 (by omega)
theorem Low.lo {N : Nat} {st : Steps} (e : Ech N st) {c p : Nat} {xs zs : List Int} (h : LowTo N st c p xs zs) {j : Nat} (hj : j ≤ c) : fv zs j = fv xs j := by
  obtain ⟨w, hw, ew⟩ := h.dif
  rw [ew, gt_low e hw hj]; omega
/-! ### one row enters -/
structure BR (N M : Nat) (R : Vc → Prop) (st : Steps) : Prop where
  e : Ech N st
  sp : ∀ v, Sp R v ↔ Sp (RowsOf st) v
  zs : ∀ (j : Nat) (l : List Int), st[j]? = some (some l) → bnd (zB N M) (fv l)
  rM : ∀ u, R u → bnd M u
structure RI (N M : Nat) (R : Vc → Prop) (st0 : Steps) (u : List Int) (c : Nat) (st : Steps) (row : List Int) : Prop where
  e : Ech N st
  non : ∀ j : Nat, st[j]? = some none ↔ st0[j]? = some none
  same : ∀ j, c ≤ j → st[j]? = st0[j]?
  rl : row.length = N
  rz : ∀ j, j < c → fv row j = 0
  gen : ∀ v, Sp (or1 (RowsOf st) (fv row)) v ↔ Sp (or1 R (fv u)) v
  al : ∃ (a : Int) (w : Vc), a.natAbs ≤ (pB N M + 1) ^ c ∧ Sp R w ∧ ∀ j, fv row j = a * fv u j + w j
  zs : ∀ (j : Nat) (l : List Int), st[j]? = some (some l) → bnd (zB N M) (fv l)
  pv : ∀ (j : Nat) (l : List Int), st[j]? = some (some l) → (fv l j).natAbs ≤ pB N M
  rb : bnd (zB N M * (1 + zB N M) ^ c) (fv row)
theorem m_le_z (N M : Nat) (hM : 1 ≤ M) : M ≤ zB N M := by
  unfold zB
  have h1 : 1 ≤ (2 * N * M) ^ N := by
    cases N with
    | zero => simp
    | succ n => exact Nat.pow_pos (Nat.mul_pos (by omega) hM)
  have h2 : 1 ≤ (pB N M + 1) ^ (N + 1) := Nat.pow_pos (by omega)
  have h3 : M ≤ (2 * N * M) ^ N * M * (pB N M + 1) ^ (N + 1) := Nat.le_trans (Nat.le_mul_of_pos_left M h1) (Nat.le_mul_of_pos_right _ h2)
  have h4 : M ≤ (N + 1) * ((2 * N * M) ^ N * M * (pB N M + 1) ^ (N + 1)) := Nat.le_trans h3 (Nat.le_mul_of_pos_left _ (by omega))
  omega
theorem sp_or {R R' : Vc → Prop} {u : Vc} (h : ∀ v, Sp R v ↔ Sp R' v) (v : Vc) : Sp (or1 R u) v ↔ Sp (or1 R' u) v := by
  have key : ∀ {R R' : Vc → Prop}, (∀ v, Sp R v → Sp R' v) → ∀ v, Sp (or1 R u) v → Sp (or1 R' u) v := fun h v hv => hv.trans fun x hx => by
    rcases hx with hx | hx
    · exact (h x (.of hx)).mono fun y hy => .inl hy
    · exact .of (.inr hx)
  exact ⟨key (fun v => (h v).mp) v, key (fun v => (h v).mpr) v⟩
section
variable {N M : Nat} {R : Vc → Prop} {st0 : Steps} {u : List Int}
theorem RI.start (b : BR N M R st0) (hM : 1 ≤ M) (hl : u.length = N) (hu : bnd M (fv u)) : RI N M R st0 u 0 st0 u :=
  ⟨b.e, fun _ => Iff.rfl, fun _ _ => rfl, hl, fun j hj => by omega, fun v => sp_or (fun v => (b.sp v).symm) v, ⟨1, _, by simp, .zero, fun j => by omega⟩, b.zs, fun j l h => b.e.pivB hM b.rM b.sp h,
    bnd_mono (by rw [Nat.pow_zero, Nat.mul_one]; exact m_le_z N M hM) hu⟩
variable {c : Nat} {st : Steps} {row : List Int}
theorem RI.toR (b : BR N M R st0) (I : RI N M R st0 u c st row) {v : Vc} (h : Sp (RowsGt st c) v) : Sp R v :=
  h.trans fun x ⟨k, l, h1, h2, h3⟩ => (b.sp x).mpr (.of ⟨k, l, by rw [← I.same k (by omega)]; exact h2, h3⟩)
theorem RI.skip (I : RI N M R st0 u c st row) (h : fv row c = 0) : RI N M R st0 u (c + 1) st row :=
  ⟨I.e, I.non, fun j hj => I.same j (by omega), I.rl, fun j hj => by
      by_cases e : j = c
      · rw [e]; exact h
      · exact I.rz j (by omega), I.gen, by
      obtain ⟨a, w, h1, h2, h3⟩ := I.al
      exact ⟨a, w, Nat.le_trans h1 (Nat.pow_le_pow_right (by omega) (by omega)), h2, h3⟩, I.zs, I.pv, bnd_mono (Nat.mul_le_mul_left _ (Nat.pow_le_pow_right (by omega) (by omega))) I.rb⟩
theorem or1_l {R : Vc → Prop} {u v : Vc} (h : Sp R v) : Sp (or1 R u) v := h.mono fun x hx => .inl hx
theorem or1_r {R : Vc → Prop} {u : Vc} : Sp (or1 R u) u := .of (.inr rfl)
/-- what a vector of the new lattice measures that is reduced behind c -/
theorem RI.size (b : BR N M R st0) (hM : 1 ≤ M) (hu : bnd M (fv u)) (I : RI N M R st0 u c st row) {zs : List Int} (hl : zs.length = N) {a : Int} {w : Vc} (ha : a.natAbs ≤ (pB N M + 1) ^ (N + 1)) (hw : Sp R w) (hv : ∀ j, fv zs j = a * fv u j + w j)
    (h0 : ∀ j, j < c → fv zs j = 0) (h1 : ∀ l, st0[c]? = some (some l) → (fv zs c).natAbs ≤ pB N M) (h2 : ∀ (k : Nat) (l : List Int), c < k → st[k]? = some (some l) → 0 ≤ fv zs k ∧ fv zs k < fv l k) : bnd (zB N M) (fv zs) := by
  refine bnd_out hl fun j hj => b.e.sizeB hM b.rM b.sp hu hw ha hv (fun k l hk => ?_) hj
  rcases Nat.lt_trichotomy k c with g | g | g
  · rw [h0 k g]; simp
  · subst g; exact h1 l hk
  · have hk' : st[k]? = some (some l) := by rw [I.same k (by omega)]; exact hk
    have := h2 k l g hk'
    have := b.e.pivB hM b.rM b.sp hk
    omega
theorem set_at {st : Steps} {c : Nat} {x : Option (List Int)} (h : c < st.length) (j : Nat) : (st.set c x)[j]? = if j = c then some x else st[j]? := by
  rw [List.getElem?_set]
  by_cases e : c = j
  · rw [if_pos e, if_pos e.symm, if_pos h]
  · rw [if_neg e, if_neg (Ne.symm e)]
theorem RI.cN (I : RI N M R st0 u c st row) {l : List Int} (hc : st[c]? = some (some l)) : c < st.length := by rw [I.e.len]; exact I.e.lt hc
theorem RI.merge (b : BR N M R st0) (hM : 1 ≤ M) (hu : bnd M (fv u)) (I : RI N M R st0 u c st row) {l new left : List Int} {g s t p r : Int} (hc : st[c]? = some (some l)) (hg : 0 < g) (ep : fv l c = p * g) (er : fv row c = r * g) (eg : s * fv l c + t * fv row c = g)
    (ht : t.natAbs ≤ 1 + (fv l c).natAbs) (hn : Low N st c (combL s l t row) new) (hf : Low N st c (combL (-r) l p row) left) : RI N M R st0 u (c + 1) (st.set c (some new)) left := by
  have hl := I.e.row _ _ hc
  have hll : l.length = row.length := by rw [I.rl, hl]
  have pl := I.e.piv _ _ hc
  have cN := I.cN hc
  have cN' : c < N := I.e.lt hc
  have one : s * p + t * r = 1 := by
    have : (s * p + t * r) * g = 1 * g := by rw [ep, er] at eg; grind
    exact Int.eq_of_mul_eq_mul_right (by omega) this
  obtain ⟨w1, hw1, e1⟩ := hn.dif
  obtain ⟨w2, hw2, e2⟩ := hf.dif
  have p1 : fv l c = p * g := ep
  have newc : fv new c = g := by rw [Low.lo I.e hn (Nat.le_refl c), fv_comb hll]; exact eg
  have new0 : ∀ j, j < c → fv new j = 0 := fun j hj => by rw [Low.lo I.e hn (by omega), fv_comb hll, I.e.lo _ _ _ hc hj, I.rz j hj]; simp
  have left0 : ∀ j, j < c + 1 → fv left j = 0 := fun j hj => by
    rw [Low.lo I.e hf (by omega), fv_comb hll]
    by_cases e : j = c
    · rw [e, ep, er]; grind
    · rw [I.e.lo _ _ _ hc (by omega), I.rz j (by omega)]; simp
  have lR : Sp R (fv l) := (b.sp _).mpr (.of ⟨c, l, by rw [← I.same c (Nat.le_refl c)]; exact hc, rfl⟩)
  have gle : g.natAbs ≤ pB N M := by
    have h1 := I.pv _ _ hc
    have hp : 0 < p := by
      apply Classical.byContradiction
      intro hh
      have : p * g ≤ 0 := Int.mul_nonpos_of_nonpos_of_nonneg (by omega) (by omega)
      omega
    have : g ≤ p * g := le_mul1 (by omega) (by omega)
    omega
  have ple : p.natAbs ≤ pB N M := by
    have h1 := I.pv _ _ hc
    have h2 : (fv l c).natAbs = p.natAbs * g.natAbs := by rw [ep, Int.natAbs_mul]
    have h3 : p.natAbs ≤ p.natAbs * g.natAbs := Nat.le_mul_of_pos_right _ (by omega)
    omega
  obtain ⟨a, w, ha, hw, hv⟩ := I.al
  have Q1 : 1 ≤ pB N M + 1 := by omega
  have up : ∀ x : Int, x.natAbs ≤ pB N M + 1 → (x * a).natAbs ≤ (pB N M + 1) ^ (c + 1) := fun x hx => by
    rw [Int.natAbs_mul, Nat.pow_succ, Nat.mul_comm]
    exact Nat.mul_le_mul ha hx
  have tb : t.natAbs ≤ pB N M + 1 := by have := I.pv _ _ hc; omega
  have alN : ∀ j, fv new j = (t * a) * fv u j + (s * fv l j + t * w j + w1 j) := fun j => by rw [e1, fv_comb hll, hv]; grind
  have alF : ∀ j, fv left j = (p * a) * fv u j + (-r * fv l j + p * w j + w2 j) := fun j => by rw [e2, fv_comb hll, hv]; grind
  have spN : Sp R (fun j => s * fv l j + t * w j + w1 j) := (lR.comb s t hw).plus (I.toR b hw1)
  have spF : Sp R (fun j => -r * fv l j + p * w j + w2 j) := (lR.comb (-r) p hw).plus (I.toR b hw2)
  have powN : (pB N M + 1) ^ (c + 1) ≤ (pB N M + 1) ^ (N + 1) := Nat.pow_le_pow_right Q1 (by omega)
  have zN : bnd (zB N M) (fv new) := I.size b hM hu hn.len (Nat.le_trans (up t tb) powN) spN alN new0 (fun _ _ => by rw [newc]; exact gle) fun k l' h1 h2 => hn.red k l' h1 (I.e.lt h2) h2
  have zF : bnd (zB N M) (fv left) := I.size b hM hu hf.len (Nat.le_trans (up p (by omega)) powN) spF alF (fun j hj => left0 j (by omega)) (fun _ _ => by rw [left0 c (by omega)]; simp) fun k l' h1 h2 => hf.red k l' h1 (I.e.lt h2) h2
  have at_ : ∀ j x, (st.set c (some new))[j]? = some (some x) → (j = c ∧ x = new) ∨ (j ≠ c ∧ st[j]? = some (some x)) := fun j x h => by
    rw [set_at cN] at h
    by_cases e : j = c
    · rw [if_pos e] at h; cases h; exact .inl ⟨e, rfl⟩
    · rw [if_neg e] at h; exact .inr ⟨e, h⟩
  refine ⟨⟨by rw [List.length_set]; exact I.e.len, fun k x hk => ?_, fun k x j hk hj => ?_, fun k x hk => ?_⟩, fun j => ?_, fun j hj => ?_, hf.len, left0, fun v => ?_, ⟨p * a, _, up p (by omega), spF, alF⟩, fun k x hk => ?_, fun k x hk => ?_, bnd_mono (Nat.le_mul_of_pos_right _ (Nat.pow_pos (by omega))) zF⟩
  · rcases at_ k x hk with ⟨rfl, rfl⟩ | ⟨_, h⟩
    · exact hn.len
    · exact I.e.row _ _ h
  · rcases at_ k x hk with ⟨rfl, rfl⟩ | ⟨_, h⟩
    · exact new0 j hj
    · exact I.e.lo _ _ _ h hj
  · rcases at_ k x hk with ⟨rfl, rfl⟩ | ⟨_, h⟩
    · rw [newc]; exact hg
    · exact I.e.piv _ _ h
  · rw [set_at cN]
    by_cases e : j = c
    · rw [if_pos e, e]
      constructor
      · intro h; cases h
      · intro h
        rw [← I.same c (Nat.le_refl c), hc] at h
        cases h
    · rw [if_neg e]; exact I.non j
  · rw [set_at cN, if_neg (by omega)]; exact I.same j (by omega)
  · rw [← I.gen v]
    have gt' : ∀ {w : Vc}, Sp (RowsGt st c) w → Sp (RowsOf (st.set c (some new))) w := fun h => h.mono fun x ⟨k, l', h1, h2, h3⟩ => ⟨k, l', by rw [set_at cN, if_neg (by omega)]; exact h2, h3⟩
    constructor
    · refine fun hv => hv.trans fun x hx => ?_
      rcases hx with ⟨k, x', hk, rfl⟩ | rfl
      · rcases at_ k x' hk with ⟨rfl, rfl⟩ | ⟨_, h⟩
        · exact (((or1_l (.of ⟨k, l, hc, rfl⟩)).comb s t or1_r).plus (or1_l (hw1.mono fun _ => gt_of))).cast fun j => by rw [e1, fv_comb hll]
        · exact or1_l (.of ⟨k, x', h, rfl⟩)
      · exact (((or1_l (.of ⟨c, l, hc, rfl⟩)).comb (-r) p or1_r).plus (or1_l (hw2.mono fun _ => gt_of))).cast fun j => by rw [e2, fv_comb hll]
    · have hnew : Sp (or1 (RowsOf (st.set c (some new))) (fv left)) (fun j => fv new j - w1 j) := Sp.sub (or1_l (.of ⟨c, new, by rw [set_at cN, if_pos rfl], rfl⟩)) (or1_l (gt' hw1))
      have hleft : Sp (or1 (RowsOf (st.set c (some new))) (fv left)) (fun j => fv left j - w2 j) := Sp.sub or1_r (or1_l (gt' hw2))
      refine fun hv => hv.trans fun x hx => ?_
      rcases hx with ⟨k, x', hk, rfl⟩ | rfl
      · by_cases e : k = c
        · subst e
          rw [hc] at hk
          cases hk
          refine (hnew.comb p (-t) hleft).cast fun j => ?_
          rw [e1, e2, fv_comb hll, fv_comb hll]
          have : fv l j = (s * p + t * r) * fv l j := by rw [one, Int.one_mul]
          grind
        · exact or1_l (.of ⟨k, x', by rw [set_at cN, if_neg e]; exact hk, rfl⟩)
      · refine (hnew.comb r s hleft).cast fun j => ?_
        rw [e1, e2, fv_comb hll, fv_comb hll]
        have : fv row j = (s * p + t * r) * fv row j := by rw [one, Int.one_mul]
        grind
  · rcases at_ k x hk with ⟨rfl, rfl⟩ | ⟨_, h⟩
    · exact zN
    · exact I.zs _ _ h
  · rcases at_ k x hk with ⟨rfl, rfl⟩ | ⟨_, h⟩
    · rw [newc]; exact gle
    · exact I.pv _ _ h
theorem or1_M (hR : ∀ v, R v → bnd M v) (hu : bnd M (fv u)) : ∀ v, or1 R (fv u) v → bnd M v := fun v h => h.elim (hR v) fun e => e ▸ hu
theorem RI.fin (b : BR N M R st0) (hu : bnd M (fv u)) (I : RI N M R st0 u N st row) : BR N M (or1 R (fv u)) st := by
  refine ⟨I.e, fun v => ?_, I.zs, or1_M b.rM hu⟩
  rw [← I.gen v]
  have r0 : ∀ j, fv row j = 0 := fun j => by
    by_cases hj : j < N
    · exact I.rz j hj
    · exact fv_out (by rw [I.rl]; omega)
  exact ⟨fun h => h.trans fun x hx => hx.elim .of fun e => Sp.zero.cast fun j => by rw [e, r0], or1_l⟩
theorem RI.create (b : BR N M R st0) (hM : 1 ≤ M) (hu : bnd M (fv u)) (I : RI N M R st0 u c st row) (hc : st[c]? = some none) {k : Int} (hk : k = 1 ∨ k = -1) {pos z : List Int} (hl : pos.length = N) (ep : ∀ j, fv pos j = k * fv row j) (hp : 0 < fv pos c) (hz : Low N st c pos z) :
    BR N M (or1 R (fv u)) (st.set c (some z)) := by
  have cN' : c < N := I.e.lt hc
  have cN : c < st.length := by rw [I.e.len]; exact cN'
  have kk : k * k = 1 := by rcases hk with h | h <;> rw [h] <;> rfl
  have ka : k.natAbs ≤ 1 := by rcases hk with h | h <;> rw [h] <;> decide
  obtain ⟨w1, hw1, e1⟩ := hz.dif
  obtain ⟨a, w, ha, hw, hv⟩ := I.al
  have zc : fv z c = fv pos c := Low.lo I.e hz (Nat.le_refl c)
  have z0 : ∀ j, j < c → fv z j = 0 := fun j hj => by rw [Low.lo I.e hz (by omega), ep, I.rz j hj, Int.mul_zero]
  have alZ : ∀ j, fv z j = (k * a) * fv u j + (k * w j + w1 j) := fun j => by rw [e1, ep, hv]; grind
  have zZ : bnd (zB N M) (fv z) := I.size b hM hu hz.len (a := k * a) (by
      rw [Int.natAbs_mul]
      have h1 : (pB N M + 1) ^ c ≤ (pB N M + 1) ^ (N + 1) := Nat.pow_le_pow_right (by omega) (by omega)
      have h2 : k.natAbs * a.natAbs ≤ 1 * (pB N M + 1) ^ c := Nat.mul_le_mul ka ha
      omega) ((hw.mul k).plus (I.toR b hw1)) alZ z0 (fun l hl => by
      have := (I.non c).mp hc
      rw [this] at hl
      cases hl) fun k l' h1 h2 => hz.red k l' h1 (I.e.lt h2) h2
  have at_ : ∀ j x, (st.set c (some z))[j]? = some (some x) → (j = c ∧ x = z) ∨ (j ≠ c ∧ st[j]? = some (some x)) := fun j x h => by
    rw [set_at cN] at h
    by_cases e : j = c
    · rw [if_pos e] at h; cases h; exact .inl ⟨e, rfl⟩
    · rw [if_neg e] at h; exact .inr ⟨e, h⟩
  refine ⟨⟨by rw [List.length_set]; exact I.e.len, fun k x hk => ?_, fun k x j hk hj => ?_, fun k x hk => ?_⟩, fun v => ?_, fun k x hk => ?_, or1_M b.rM hu⟩
  · rcases at_ k x hk with ⟨rfl, rfl⟩ | ⟨_, h⟩
    · exact hz.len
    · exact I.e.row _ _ h
  · rcases at_ k x hk with ⟨rfl, rfl⟩ | ⟨_, h⟩
    · exact z0 j hj
    · exact I.e.lo _ _ _ h hj
  · rcases at_ k x hk with ⟨rfl, rfl⟩ | ⟨_, h⟩
    · rw [zc]; exact hp
    · exact I.e.piv _ _ h
  · rw [← I.gen v]
    have gt' : ∀ {w : Vc}, Sp (RowsGt st c) w → Sp (RowsOf (st.set c (some z))) w := fun h => h.mono fun x ⟨k, l', h1, h2, h3⟩ => ⟨k, l', by rw [set_at cN, if_neg (by omega)]; exact h2, h3⟩
    constructor
    · refine fun hv => hv.trans fun x hx => ?_
      rcases hx with ⟨k', x', hk', rfl⟩ | rfl
      · by_cases e : k' = c
        · rw [e, hc] at hk'; cases hk'
        · exact .of ⟨k', x', by rw [set_at cN, if_neg e]; exact hk', rfl⟩
      · refine ((Sp.sub (.of ⟨c, z, by rw [set_at cN, if_pos rfl], rfl⟩) (gt' hw1)).mul k).cast fun j => ?_
        show k * (fv z j - w1 j) = _
        rw [e1, ep]
        have : fv row j = (k * k) * fv row j := by rw [kk, Int.one_mul]
        grind
    · refine fun hv => hv.trans fun x ⟨k', x', hk', ex⟩ => ?_
      subst ex
      rcases at_ k' x' hk' with ⟨rfl, rfl⟩ | ⟨_, h⟩
      · exact ((or1_r.mul k).plus (or1_l (hw1.mono fun _ => gt_of))).cast fun j => by rw [e1, ep]
      · exact or1_l (.of ⟨k', x', h, rfl⟩)
  · rcases at_ k x hk with ⟨rfl, rfl⟩ | ⟨_, h⟩
    · exact zZ
    · exact I.zs _ _ h
end
end Hn
namespace Hn
def shift (L : Nat) (v : Vc) : Vc := fun j => if j < L then 0 else v (j - L)
theorem shift_lo {L j : Nat} {v : Vc} (h : j < L) : shift L v j = 0 := if_pos h
theorem shift_hi {L j : Nat} {v : Vc} : shift L v (j + L) = v j := by
  unfold shift
  rw [if_neg (by omega), Nat.add_sub_cancel]
theorem shift_zero {v : Vc} : shift 0 v = v := by
  funext j
  exact shift_hi (L := 0)
theorem fv_drop {l : List Int} {L j : Nat} : fv (l.drop L) j = fv l (j + L) := by
  by_cases h : j + L < l.length
  · refine fv_at ?_
    rw [List.getElem?_drop, Nat.add_comm]
    exact fv_get h
  · rw [fv_out (by rw [List.length_drop]; omega), fv_out (by omega)]
def dropS (L : Nat) (st : Steps) : Steps := (st.drop L).map (Option.map (List.drop L))
theorem dropS_at {L : Nat} {st : Steps} (c : Nat) : (dropS L st)[c]? = (st[L + c]?).map (Option.map (List.drop L)) := by
  unfold dropS
  rw [List.getElem?_map, List.getElem?_drop]
theorem dropS_some {L : Nat} {st : Steps} {c : Nat} {x : List Int} (h : (dropS L st)[c]? = some (some x)) : ∃ l, st[L + c]? = some (some l) ∧ x = l.drop L := by
  rw [dropS_at] at h
  match hh : st[L + c]?, h with
  | some (some l), h => exact ⟨l, rfl, by cases h; rfl⟩
theorem dropS_none {L : Nat} {st : Steps} {c : Nat} : (dropS L st)[c]? = some none ↔ st[L + c]? = some none := by
  rw [dropS_at]
  match st[L + c]? with
  | none => exact ⟨fun h => (nomatch h), fun h => (nomatch h)⟩
  | some none => exact ⟨fun _ => rfl, fun _ => rfl⟩
  | some (some l) => exact ⟨fun h => (nomatch h), fun h => (nomatch h)⟩
structure FI (N M L n : Nat) (R : Vc → Prop) (st : Steps) (k : Nat) (tl : Steps) : Prop where
  e : Ech n tl
  sp : ∀ v, Sp (RowsOf tl) v ↔ Sp R (shift L v)
  non : ∀ c : Nat, tl[c]? = some none ↔ st[L + c]? = some none
  zs : ∀ (c : Nat) (l : List Int), tl[c]? = some (some l) → bnd (zB N M) (fv l)
  pv : ∀ (c : Nat) (l : List Int), tl[c]? = some (some l) → (fv l c).natAbs ≤ pB N M
  red : ∀ (c : Nat) (l : List Int) (j : Nat) (l' : List Int), k ≤ c → tl[c]? = some (some l) → c < j → tl[j]? = some (some l') → 0 ≤ fv l j ∧ fv l j < fv l' j
section
variable {N M L n : Nat} {R : Vc → Prop} {st : Steps}
theorem FI.start (b : BR N M R st) (hM : 1 ≤ M) (hN : N = L + n) : FI N M L n R st n (dropS L st) := by
  have len : (dropS L st).length = n := by
    unfold dropS
    rw [List.length_map, List.length_drop, b.e.len]; omega
  have e : Ech n (dropS L st) := ⟨len, fun c x h => by
      obtain ⟨l, hl, rfl⟩ := dropS_some h
      rw [List.length_drop, b.e.row _ _ hl]; omega, fun c x j h hj => by
      obtain ⟨l, hl, rfl⟩ := dropS_some h
      rw [fv_drop]; exact b.e.lo _ _ _ hl (by omega), fun c x h => by
      obtain ⟨l, hl, rfl⟩ := dropS_some h
      rw [fv_drop, Nat.add_comm]; exact b.e.piv _ _ hl⟩
  refine ⟨e, fun v => ?_, fun c => dropS_none, fun c x h => ?_, fun c x h => ?_, fun c l j l' hk h1 h2 h3 => ?_⟩
  · rw [b.sp]
    constructor
    · intro h
      induction h with
      | zero => exact Sp.zero.cast fun j => by unfold shift; split <;> rfl
      | @add u v k hu _ ih =>
        obtain ⟨c, x, hx, rfl⟩ := hu
        obtain ⟨l, hl, rfl⟩ := dropS_some hx
        refine (Sp.add k ⟨L + c, l, hl, rfl⟩ ih).cast fun j => ?_
        by_cases hj : j < L
        · rw [shift_lo hj, shift_lo hj, b.e.lo _ _ _ hl (by omega)]; simp
        · obtain ⟨i, rfl⟩ : ∃ i, j = i + L := ⟨j - L, by omega⟩
          rw [shift_hi, shift_hi, fv_drop]
    · intro h
      obtain ⟨z, hz⟩ := (gens_self st).sp h
      have hz0 : ∀ s, s < (cols st).length → cI st s < L → z s = 0 := fun s hs hc => b.e.tri.coef hz (k := s + 1) hs (fun i hi => shift_lo (by
        by_cases e : i = s
        · rw [e]; exact hc
        · have := cI_lt (st := st) (i := i) (j := s) (by omega) hs
          omega)) s (by omega)
      have key : Sp (RowsOf (dropS L st)) (fun j => sm (cols st).length fun s => z s * (if cI st s < L then (fun _ => 0 : Vc) else fv ((rowAt st[cI st s]?).drop L)) j) := by
        refine Sp.sum z fun s hs => ?_
        by_cases hc : cI st s < L
        · rw [if_pos hc]; exact .zero
        · rw [if_neg hc]
          refine .of ⟨cI st s - L, _, ?_, rfl⟩
          rw [dropS_at, show L + (cI st s - L) = cI st s by omega, cI_step hs]
          rfl
      refine key.cast fun j => ?_
      rw [← shift_hi (L := L) (v := v), hz]
      refine sm_congr fun s hs => ?_
      by_cases hc : cI st s < L
      · rw [hz0 s hs hc]; simp
      · rw [if_neg hc, fv_drop]; rfl
  · obtain ⟨l, hl, rfl⟩ := dropS_some h
    exact fun j => by rw [fv_drop]; exact b.zs _ _ hl _
  · obtain ⟨l, hl, rfl⟩ := dropS_some h
    rw [fv_drop, Nat.add_comm]
    exact b.e.pivB hM b.rM b.sp hl
  · have := e.lt h1
    omega
theorem FI.skip {k : Nat} {tl : Steps} (F : FI N M L n R st (k + 1) tl) (h : tl[k]? = some none) : FI N M L n R st k tl :=
  ⟨F.e, F.sp, F.non, F.zs, F.pv, fun c l j l' hk h1 h2 h3 => by
    by_cases e : c = k
    · subst e; rw [h] at h1; cases h1
    · exact F.red c l j l' (by omega) h1 h2 h3⟩
theorem FI.step (b : BR N M R st) (hM : 1 ≤ M) (hN : N = L + n) {k : Nat} {tl : Steps} (F : FI N M L n R st (k + 1) tl) {l z : List Int} (h : tl[k]? = some (some l)) (hz : Low n tl k l z) : FI N M L n R st k (tl.set k (some z)) := by
  have kn : k < n := F.e.lt h
  have kN : k < tl.length := by rw [F.e.len]; exact kn
  obtain ⟨w, hw, ew⟩ := hz.dif
  have zk : fv z k = fv l k := Low.lo F.e hz (Nat.le_refl k)
  have z0 : ∀ j, j < k → fv z j = 0 := fun j hj => by rw [Low.lo F.e hz (by omega)]; exact F.e.lo _ _ _ h hj
  have at_ : ∀ j x, (tl.set k (some z))[j]? = some (some x) → (j = k ∧ x = z) ∨ (j ≠ k ∧ tl[j]? = some (some x)) := fun j x h => by
    rw [set_at kN] at h
    by_cases e : j = k
    · rw [if_pos e] at h; cases h; exact .inl ⟨e, rfl⟩
    · rw [if_neg e] at h; exact .inr ⟨e, h⟩
  have zsp : Sp (RowsOf tl) (fv z) := ((Sp.of ⟨k, l, h, rfl⟩ : Sp (RowsOf tl) (fv l)).plus (hw.mono fun _ => gt_of)).cast fun j => (ew j).symm
  have zZ : bnd (zB N M) (fv z) := by
    refine bnd_out hz.len fun j hj => ?_
    have := b.e.sizeB hM b.rM b.sp (u := fun _ => 0) (v := shift L (fv z)) (w := shift L (fv z)) (a := 0) (fun _ => by simp) ((F.sp _).mp zsp) (by simp) (fun j => by simp) (fun c x hc => ?_) (j := j + L) (by omega)
    · rw [shift_hi] at this; exact this
    · by_cases hcL : c < L
      · rw [shift_lo hcL]; simp
      · obtain ⟨i, rfl⟩ : ∃ i, c = i + L := ⟨c - L, by omega⟩
        rw [shift_hi]
        rcases Nat.lt_trichotomy i k with g | g | g
        · rw [z0 i g]; simp
        · rw [g, zk]; exact F.pv _ _ h
        · have iN : i + L < N := b.e.lt hc
          have : i < tl.length := by rw [F.e.len]; omega
          have hi : tl[i]? = some tl[i] := List.getElem?_eq_getElem this
          rcases hh : tl[i] with _ | y
          · rw [hh] at hi
            have := (F.non i).mp hi
            rw [Nat.add_comm, hc] at this
            cases this
          · rw [hh] at hi
            have := hz.red i y g (by omega) hi
            have := F.pv _ _ hi
            omega
  have gt' : ∀ {w : Vc}, Sp (RowsGt tl k) w → Sp (RowsOf (tl.set k (some z))) w := fun h => h.mono fun x ⟨k', l', h1, h2, h3⟩ => ⟨k', l', by rw [set_at kN, if_neg (by omega)]; exact h2, h3⟩
  refine ⟨⟨by rw [List.length_set]; exact F.e.len, fun c x hc => ?_, fun c x j hc hj => ?_, fun c x hc => ?_⟩, fun v => ?_, fun c => ?_, fun c x hc => ?_, fun c x hc => ?_, fun c x j y hk h1 h2 h3 => ?_⟩
  · rcases at_ c x hc with ⟨rfl, rfl⟩ | ⟨_, h⟩
    · exact hz.len
    · exact F.e.row _ _ h
  · rcases at_ c x hc with ⟨rfl, rfl⟩ | ⟨_, h⟩
    · exact z0 j hj
    · exact F.e.lo _ _ _ h hj
  · rcases at_ c x hc with ⟨rfl, rfl⟩ | ⟨_, h'⟩
    · rw [zk]; exact F.e.piv _ _ h
    · exact F.e.piv _ _ h'
  · rw [← F.sp]
    constructor
    · refine fun hv => hv.trans fun x ⟨c, y, hc, ey⟩ => ?_
      subst ey
      rcases at_ c y hc with ⟨rfl, rfl⟩ | ⟨_, h⟩
      · exact zsp
      · exact .of ⟨c, y, h, rfl⟩
    · refine fun hv => hv.trans fun x ⟨c, y, hc, ey⟩ => ?_
      subst ey
      by_cases e : c = k
      · subst e
        rw [h] at hc
        cases hc
        exact (Sp.sub (.of ⟨c, z, by rw [set_at kN, if_pos rfl], rfl⟩) (gt' hw)).cast fun j => by rw [ew]; omega
      · exact .of ⟨c, y, by rw [set_at kN, if_neg e]; exact hc, rfl⟩
  · rw [set_at kN]
    by_cases e : c = k
    · rw [if_pos e, e]
      constructor
      · intro h; cases h
      · intro h'
        rw [← F.non k, h] at h'
        cases h'
    · rw [if_neg e]; exact F.non c
  · rcases at_ c x hc with ⟨rfl, rfl⟩ | ⟨_, h⟩
    · exact zZ
    · exact F.zs _ _ h
  · rcases at_ c x hc with ⟨rfl, rfl⟩ | ⟨_, h'⟩
    · rw [zk]; exact F.pv _ _ h
    · exact F.pv _ _ h'
  · have hj : ∃ y', tl[j]? = some (some y') ∧ fv y' j = fv y j := by
      rcases at_ j y h3 with ⟨rfl, rfl⟩ | ⟨_, h'⟩
      · exact ⟨l, h, zk.symm⟩
      · exact ⟨y, h', rfl⟩
    obtain ⟨y', hy', ey⟩ := hj
    rcases at_ c x h1 with ⟨rfl, rfl⟩ | ⟨ne, h'⟩
    · have := hz.red j y' h2 (F.e.lt hy') hy'
      omega
    · have := F.red c x j y' (by omega) h' h2 hy'
      omega
end
/-! ### the basis of a lattice -/
def Hnf (n : Nat) (V : Vc → Prop) (B : List (List Int)) : Prop := ∃ tl, Ech n tl ∧ Red tl ∧ (∀ v, Sp (RowsOf tl) v ↔ V v) ∧ B = tl.filterMap id
theorem Hnf.uniq {n : Nat} {V : Vc → Prop} {B C : List (List Int)} (hB : Hnf n V B) (hC : Hnf n V C) : B = C := by
  obtain ⟨a, ea, ra, sa, rfl⟩ := hB
  obtain ⟨b, eb, rb, sb, rfl⟩ := hC
  rw [Hn.uniq ea eb ra rb fun v => (sa v).trans (sb v).symm]
theorem Hnf.congr {n : Nat} {V W : Vc → Prop} {B : List (List Int)} (hB : Hnf n V B) (h : ∀ v, V v ↔ W v) : Hnf n W B := let ⟨a, ea, ra, sa, e⟩ := hB; ⟨a, ea, ra, fun v => (sa v).trans (h v), e⟩
def RL (B : List (List Int)) : Vc → Prop := fun v => ∃ r ∈ B, v = fv r
theorem rows_RL {tl : Steps} {v : Vc} : RowsOf tl v ↔ RL (tl.filterMap id) v := by
  constructor
  · rintro ⟨c, l, h, rfl⟩
    exact ⟨l, List.mem_filterMap.mpr ⟨some l, List.mem_of_getElem? h, rfl⟩, rfl⟩
  · rintro ⟨r, hr, rfl⟩
    obtain ⟨x, hx, ex⟩ := List.mem_filterMap.mp hr
    change x = some r at ex
    subst ex
    obtain ⟨c, hc⟩ := List.mem_iff_getElem?.mp hx
    exact ⟨c, r, hc, rfl⟩
theorem Hnf.span {n : Nat} {V : Vc → Prop} {B : List (List Int)} (hB : Hnf n V B) (v : Vc) : V v ↔ Sp (RL B) v := by
  obtain ⟨a, ea, ra, sa, rfl⟩ := hB
  rw [← sa]
  exact ⟨fun h => h.mono fun x hx => rows_RL.mp hx, fun h => h.mono fun x hx => rows_RL.mpr hx⟩
/-- two bases of one size whose rows generate the same are one -/
theorem Hnf.same {n : Nat} {V W : Vc → Prop} {B C : List (List Int)} (hB : Hnf n V B) (hC : Hnf n W C) (h1 : ∀ r ∈ B, W (fv r)) (h2 : ∀ r ∈ C, V (fv r)) : B = C := by
  refine (hB.congr (W := W) fun v => ?_).uniq hC
  constructor
  · intro hv
    rw [hB.span] at hv
    rw [hC.span]
    refine hv.trans fun x ⟨r, hr, e⟩ => ?_
    rw [e, ← hC.span]
    exact h1 r hr
  · intro hv
    rw [hC.span] at hv
    rw [hB.span]
    refine hv.trans fun x ⟨r, hr, e⟩ => ?_
    rw [e, ← hB.span]
    exact h2 r hr
end Hn
namespace Hn
/-! ### Euclid -/
structure Bz (a b c d l m : Int) : Prop where
  x : ∃ x, c = l * a + x * b
  y : ∃ y, d = m * a + y * b
  dv : ∀ g, g ∣ c → g ∣ d → g ∣ a ∧ g ∣ b
  bd : l.natAbs * d.natAbs + m.natAbs * c.natAbs ≤ b.natAbs
  lb : l.natAbs ≤ b.natAbs
  c0 : c ≠ 0
  sg : m = 0 ∨ 0 ≤ c * d
  cb : c.natAbs ≤ a.natAbs + b.natAbs
  db : d.natAbs ≤ b.natAbs
theorem Bz.start {a b : Int} (ha : 0 < a) (hb : b ≠ 0) : Bz a b a b 1 0 :=
  ⟨⟨0, by omega⟩, ⟨1, by omega⟩, fun g h1 h2 => ⟨h1, h2⟩, by simp, by simp; omega, by omega, .inl rfl, by omega, Nat.le_refl _⟩
theorem fdm (c d : Int) : c.fdiv d * d + c.fmod d = c := by
  have := Int.mul_fdiv_add_fmod c d
  rw [Int.mul_comm]
  exact this
theorem fmod_neg_le (c : Int) {d : Int} (h : d < 0) : c.fmod d ≤ 0 := by
  have h1 := Int.fmod_nonneg_of_pos (-c) (b := -d) (by omega)
  rw [Int.neg_fmod_neg] at h1
  omega
theorem fmod_neg_gt (c : Int) {d : Int} (h : d < 0) : d < c.fmod d := by
  have h1 := Int.fmod_lt_of_pos (-c) (b := -d) (by omega)
  rw [Int.neg_fmod_neg] at h1
  omega
theorem fmod_sign {c d : Int} (hd : d ≠ 0) : 0 ≤ d * c.fmod d ∧ (c.fmod d).natAbs < d.natAbs := by
  rcases Int.lt_or_gt_of_ne hd with h | h
  · have h1 := fmod_neg_le c h
    have h2 := fmod_neg_gt c h
    exact ⟨Int.mul_nonneg_of_nonpos_of_nonpos (by omega) h1, by omega⟩
  · have h1 := Int.fmod_nonneg_of_pos c h
    have h2 := Int.fmod_lt_of_pos c h
    exact ⟨Int.mul_nonneg (by omega) h1, by omega⟩
theorem same_sum {c d : Int} (hd : d ≠ 0) (h : 0 ≤ c * d) : c.natAbs = (c.fdiv d).natAbs * d.natAbs + (c.fmod d).natAbs := by
  have e := fdm c d
  rcases Int.lt_or_gt_of_ne hd with h1 | h1
  · have r1 := fmod_neg_le c h1
    have r2 := fmod_neg_gt c h1
    have c1 : c ≤ 0 := by
      apply Classical.byContradiction
      intro hh
      have : c * d < 0 := Int.mul_neg_of_pos_of_neg (by omega) h1
      omega
    have q0 : 0 ≤ c.fdiv d := by
      apply Classical.byContradiction
      intro hh
      have : (-1 - c.fdiv d) * (-d) ≥ 0 := Int.mul_nonneg (by omega) (by omega)
      have e2 : (-1 - c.fdiv d) * (-d) = d + c.fdiv d * d := by grind
      omega
    have q1 : (c.fdiv d).natAbs * d.natAbs = (c.fdiv d * d).natAbs := (Int.natAbs_mul ..).symm
    have q2 : c.fdiv d * d ≤ 0 := Int.mul_nonpos_of_nonneg_of_nonpos q0 (by omega)
    omega
  · have r1 := Int.fmod_nonneg_of_pos c h1
    have r2 := Int.fmod_lt_of_pos c h1
    have c1 : 0 ≤ c := by
      apply Classical.byContradiction
      intro hh
      have : c * d < 0 := Int.mul_neg_of_neg_of_pos (by omega) h1
      omega
    have q0 : 0 ≤ c.fdiv d := by
      apply Classical.byContradiction
      intro hh
      have : (-1 - c.fdiv d) * d ≥ 0 := Int.mul_nonneg (by omega) (by omega)
      have e2 : (-1 - c.fdiv d) * d = -d - c.fdiv d * d := by grind
      omega
    have q1 : (c.fdiv d).natAbs * d.natAbs = (c.fdiv d * d).natAbs := (Int.natAbs_mul ..).symm
    have q2 : 0 ≤ c.fdiv d * d := Int.mul_nonneg q0 (by omega)
    omega
theorem fdiv_le {c d : Int} (hd : d ≠ 0) : (c.fdiv d).natAbs ≤ c.natAbs + 1 := by
  have e := fdm c d
  have s := (fmod_sign (c := c) hd).2
  have h1 : (c.fdiv d * d).natAbs ≤ c.natAbs + d.natAbs := by omega
  rw [Int.natAbs_mul] at h1
  generalize (c.fdiv d).natAbs = q at *
  generalize c.natAbs = x at *
  have hd1 : 1 ≤ d.natAbs := by omega
  generalize d.natAbs = y at *
  apply Classical.byContradiction
  intro hh
  have h2 : (x + 2) * y ≤ q * y := Nat.mul_le_mul_right y (by omega)
  rw [Nat.add_mul] at h2
  have h3 : x ≤ x * y := Nat.le_mul_of_pos_right x (by omega)
  omega
theorem Bz.step {a b c d l m : Int} (z : Bz a b c d l m) (hd : d ≠ 0) : Bz a b d (c.fmod d) m (l - c.fdiv d * m) := by
  obtain ⟨x, hx⟩ := z.x
  obtain ⟨y, hy⟩ := z.y
  have e := fdm c d
  have sgn := fmod_sign (c := c) hd
  have mb : m.natAbs ≤ b.natAbs := by
    have h1 := z.bd
    have h2 : m.natAbs ≤ m.natAbs * c.natAbs := Nat.le_mul_of_pos_right _ (by have := z.c0; omega)
    omega
  refine ⟨⟨y, hy⟩, ⟨x - c.fdiv d * y, ?_⟩, fun g h1 h2 => z.dv g ?_ h1, ?_, mb, hd, .inr sgn.1, ?_, ?_⟩
  · have : c.fmod d = c - c.fdiv d * d := by omega
    rw [this]
    grind
  · rw [← e]
    exact Int.dvd_add (Int.dvd_mul_of_dvd_right h1) h2
  · have bd := z.bd
    rcases z.sg with h0 | h0
    · subst h0
      simp only [Int.mul_zero, Int.sub_zero, Int.natAbs_zero, Nat.zero_mul, Nat.zero_add]
      simp only [Int.natAbs_zero, Nat.zero_mul] at bd
      omega
    · have ss := same_sum hd h0
      have h1 : (l - c.fdiv d * m).natAbs ≤ l.natAbs + (c.fdiv d).natAbs * m.natAbs := by
        have : (c.fdiv d * m).natAbs = (c.fdiv d).natAbs * m.natAbs := Int.natAbs_mul ..
        omega
      have h2 : (l - c.fdiv d * m).natAbs * d.natAbs ≤ (l.natAbs + (c.fdiv d).natAbs * m.natAbs) * d.natAbs := Nat.mul_le_mul_right _ h1
      have h3 : (l.natAbs + (c.fdiv d).natAbs * m.natAbs) * d.natAbs + m.natAbs * (c.fmod d).natAbs = l.natAbs * d.natAbs + m.natAbs * c.natAbs := by
        rw [ss]; grind
      omega
  · have := z.db; omega
  · have := z.db; omega
theorem Bz.fin {a b c l m : Int} (hb : b ≠ 0) (z : Bz a b c 0 l m) {k : Int} (hk : k = 1 ∨ k = -1) (hp : 0 < k * c) : ∃ p r, a = p * (k * c) ∧ b = r * (k * c) ∧ (k * l) * a + (k * c - k * l * a).fdiv b * b = k * c ∧ ((k * c - k * l * a).fdiv b).natAbs ≤ 1 + a.natAbs ∧ (k * l).natAbs ≤ b.natAbs := by
  obtain ⟨x, hx⟩ := z.x
  obtain ⟨⟨p, hp1⟩, ⟨r, hr1⟩⟩ := z.dv c (Int.dvd_refl _) (Int.dvd_zero _)
  have kk : k * k = 1 := by rcases hk with h | h <;> rw [h] <;> rfl
  have e1 : k * c - k * l * a = (k * x) * b := by rw [hx]; grind
  have e2 : (k * c - k * l * a).fdiv b = k * x := by
    rw [e1]
    exact Int.mul_fdiv_cancel _ hb
  have kl : (k * l).natAbs ≤ b.natAbs := by
    have := z.lb
    rcases hk with h | h <;> rw [h] <;> omega
  refine ⟨k * p, k * r, by grind, by grind, by rw [e2]; grind, ?_, kl⟩
  rw [e2]
  have h1 : ((k * x) * b).natAbs ≤ b.natAbs + b.natAbs * a.natAbs := by
    rw [← e1]
    have h2 : (k * l * a).natAbs ≤ b.natAbs * a.natAbs := by rw [Int.natAbs_mul]; exact Nat.mul_le_mul_right _ kl
    have h3 : (k * c).natAbs ≤ b.natAbs := by
      have h4 : b.natAbs = (k * r).natAbs * (k * c).natAbs := by rw [← Int.natAbs_mul]; congr 1; grind
      have h5 : (k * r) ≠ 0 := by
        intro h
        have : b = (k * r) * (k * c) := by grind
        rw [h] at this
        omega
      rw [h4]
      exact Nat.le_mul_of_pos_left _ (by omega)
    omega
  rw [Int.natAbs_mul] at h1
  apply Classical.byContradiction
  intro hh
  have h2 : (a.natAbs + 2) * b.natAbs ≤ (k * x).natAbs * b.natAbs := Nat.mul_le_mul_right _ (by omega)
  have h3 : (a.natAbs + 2) * b.natAbs = b.natAbs * a.natAbs + 2 * b.natAbs := by grind
  have h4 : 0 < b.natAbs := by omega
  omega
end Hn
namespace Hn
/-! ### Euclid's way as a function -/
def bzGo (c d l m : Int) : Int × Int := if hd : d = 0 then (c, l) else bzGo d (c.fmod d) m (l - c.fdiv d * m)
termination_by d.natAbs
decreasing_by exact (fmod_sign hd).2
def bezF (a b : Int) : Int × Int × Int :=
  let r := bzGo a b 1 0
  let k : Int := if r.1 < 0 then -1 else 1
  (k * r.1, k * r.2, if b = 0 then 0 else (k * r.1 - k * r.2 * a).fdiv b)
theorem bzGo_zero {c l m : Int} : bzGo c 0 l m = (c, l) := by rw [bzGo]; simp
theorem bzGo_step {c d l m : Int} (hd : d ≠ 0) : bzGo c d l m = bzGo d (c.fmod d) m (l - c.fdiv d * m) := by rw [bzGo]; simp [hd]
theorem Bz.go {a b : Int} : ∀ (n : Nat) {c d l m : Int}, d.natAbs ≤ n → Bz a b c d l m → ∃ m', Bz a b (bzGo c d l m).1 0 (bzGo c d l m).2 m'
  | 0, c, d, l, m, h, z => by
    have : d = 0 := by omega
    subst this
    rw [bzGo_zero]
    exact ⟨m, z⟩
  | n + 1, c, d, l, m, h, z => by
    by_cases hd : d = 0
    · subst hd
      rw [bzGo_zero]
      exact ⟨m, z⟩
    · rw [bzGo_step hd]
      exact Bz.go n (by have := (fmod_sign (c := c) hd).2; omega) (z.step hd)
theorem bezF_pos {a b : Int} (ha : 0 < a) (hb : b ≠ 0) : 0 < (bezF a b).1 ∧ ∃ p r : Int, a = p * (bezF a b).1 ∧ b = r * (bezF a b).1 ∧ (bezF a b).2.1 * a + (bezF a b).2.2 * b = (bezF a b).1 ∧ (bezF a b).2.1.natAbs ≤ b.natAbs ∧ (bezF a b).2.2.natAbs ≤ 1 + a.natAbs := by
  obtain ⟨m', z⟩ := Bz.go b.natAbs (Nat.le_refl _) (Bz.start ha hb)
  have c0 := z.c0
  unfold bezF
  dsimp only
  rw [if_neg hb]
  generalize bzGo a b 1 0 = R at z c0
  obtain ⟨c, l⟩ := R
  dsimp only at z c0 ⊢
  have hk : (if c < 0 then (-1 : Int) else 1) = 1 ∨ (if c < 0 then (-1 : Int) else 1) = -1 := by split <;> simp
  have hp : 0 < (if c < 0 then (-1 : Int) else 1) * c := by split <;> omega
  obtain ⟨p, r, ep, er, eg, tb, sb⟩ := Bz.fin hb z hk hp
  exact ⟨hp, p, r, ep, er, eg, sb, tb⟩
theorem bezF_zero {b : Int} : bezF 0 b = ((b.natAbs : Int), if b = 0 then 1 else 0, if b = 0 then 0 else if b < 0 then -1 else 1) := by
  unfold bezF
  dsimp only
  by_cases hb : b = 0
  · subst hb
    rw [bzGo_zero]
    simp
  · rw [bzGo_step hb]
    have e1 : Int.fmod 0 b = 0 := Int.zero_fmod b
    have e2 : Int.fdiv 0 b = 0 := Int.zero_fdiv b
    rw [e1, e2, bzGo_zero, if_neg hb, if_neg hb, if_neg hb]
    dsimp only
    have q : ∀ k : Int, (k * b - k * 0 * 0).fdiv b = k := fun k => by
      rw [show k * b - k * 0 * 0 = k * b by simp]
      exact Int.mul_fdiv_cancel _ hb
    rw [q]
    by_cases h : b < 0
    · rw [if_pos h]
      refine Prod.ext ?_ (Prod.ext ?_ rfl)
      · show -1 * b = (b.natAbs : Int); omega
      · show (-1 : Int) * 0 = 0; rfl
    · rw [if_neg h]
      refine Prod.ext ?_ (Prod.ext ?_ rfl)
      · show 1 * b = (b.natAbs : Int); omega
      · show (1 : Int) * 0 = 0; rfl
end Hn
namespace Hn
theorem Ech.set {N : Nat} {st : Steps} (e : Ech N st) {c : Nat} {z : List Int} (hc : c < N) (hl : z.length = N) (h0 : ∀ j, j < c → fv z j = 0) (hp : 0 < fv z c) : Ech N (st.set c (some z)) := by
  have cN : c < st.length := by rw [e.len]; exact hc
  have at_ : ∀ j x, (st.set c (some z))[j]? = some (some x) → (j = c ∧ x = z) ∨ (j ≠ c ∧ st[j]? = some (some x)) := fun j x h => by
    rw [set_at cN] at h
    by_cases e : j = c
    · rw [if_pos e] at h; cases h; exact .inl ⟨e, rfl⟩
    · rw [if_neg e] at h; exact .inr ⟨e, h⟩
  refine ⟨by rw [List.length_set]; exact e.len, fun k x hk => ?_, fun k x j hk hj => ?_, fun k x hk => ?_⟩
  · rcases at_ k x hk with ⟨rfl, rfl⟩ | ⟨_, h⟩
    · exact hl
    · exact e.row _ _ h
  · rcases at_ k x hk with ⟨rfl, rfl⟩ | ⟨_, h⟩
    · exact h0 j hj
    · exact e.lo _ _ _ h hj
  · rcases at_ k x hk with ⟨rfl, rfl⟩ | ⟨_, h⟩
    · exact hp
    · exact e.piv _ _ h
end Hn
set_option exponentiation.threshold 100000
namespace Hn
/-! ### the numbers stay small -/
def zE (N x : Nat) : Nat := N + x * N + x + (x * (N + 1) + 1) * (N + 1) + 1
theorem zB_le {N M x : Nat} (h1 : 2 * N * M ≤ 2 ^ x) (h2 : M ≤ 2 ^ x) : zB N M ≤ 2 ^ zE N x := by
  have hX : (2 * N * M) ^ N ≤ 2 ^ (x * N) := by rw [Nat.pow_mul]; exact Nat.pow_le_pow_left h1 N
  have hp : pB N M ≤ 2 ^ (x * (N + 1)) := by unfold pB; rw [Nat.pow_mul]; exact Nat.pow_le_pow_left h1 _
  have hp1 : pB N M + 1 ≤ 2 ^ (x * (N + 1) + 1) := by
    rw [Nat.pow_succ]
    have : 1 ≤ 2 ^ (x * (N + 1)) := Nat.pow_pos (by decide)
    omega
  have hq : (pB N M + 1) ^ (N + 1) ≤ 2 ^ ((x * (N + 1) + 1) * (N + 1)) := by rw [Nat.pow_mul]; exact Nat.pow_le_pow_left hp1 _
  have hn : N + 1 ≤ 2 ^ N := Nat.lt_two_pow_self
  have t1 : (N + 1) * ((2 * N * M) ^ N * M * (pB N M + 1) ^ (N + 1)) ≤ 2 ^ (N + x * N + x + (x * (N + 1) + 1) * (N + 1)) := by
    have : (2 : Nat) ^ (N + x * N + x + (x * (N + 1) + 1) * (N + 1)) = 2 ^ N * (2 ^ (x * N) * 2 ^ x * 2 ^ ((x * (N + 1) + 1) * (N + 1))) := by
      rw [← Nat.pow_add, ← Nat.pow_add, ← Nat.pow_add]; congr 1; omega
    rw [this]
    exact Nat.mul_le_mul hn (Nat.mul_le_mul (Nat.mul_le_mul hX h2) hq)
  have t2 : N * ((2 * N * M) ^ N * pB N M) ≤ 2 ^ (N + x * N + x + (x * (N + 1) + 1) * (N + 1)) := by
    have a : N * ((2 * N * M) ^ N * pB N M) ≤ 2 ^ N * (2 ^ (x * N) * 2 ^ (x * (N + 1))) := Nat.mul_le_mul (by omega) (Nat.mul_le_mul hX hp)
    have b : 2 ^ N * (2 ^ (x * N) * 2 ^ (x * (N + 1))) = 2 ^ (N + (x * N + x * (N + 1))) := by rw [← Nat.pow_add, ← Nat.pow_add]
    refine Nat.le_trans a ?_
    rw [b]
    refine Nat.pow_le_pow_right (by decide) ?_
    have : (x * (N + 1) + 1) * (N + 1) = x * (N + 1) * N + x * (N + 1) + (N + 1) := by grind
    omega
  have e2 : (2 : Nat) ^ zE N x = 2 ^ (N + x * N + x + (x * (N + 1) + 1) * (N + 1)) * 2 := by unfold zE; rw [Nat.pow_succ]
  rw [e2]
  unfold zB
  omega
theorem log_le {A e : Nat} (h : A ≤ 2 ^ e) : A.log2 ≤ e := by
  by_cases h0 : A = 0
  · subst h0; simp
  · have : A < 2 ^ (e + 1) := Nat.lt_of_le_of_lt h (Nat.pow_lt_pow_right (by decide) (by omega))
    have := (Nat.log2_lt h0).mpr this
    omega
theorem rm_le {N M x : Nat} (h1 : 2 * N * M ≤ 2 ^ x) (h2 : M ≤ 2 ^ x) (h : zE N x + (zE N x + 1) * (2 * N + 4) < 40000000) : (zB N M * (1 + zB N M) ^ (2 * N + 4)).log2 < 40000000 := by
  have a := zB_le h1 h2
  have b : 1 + zB N M ≤ 2 ^ (zE N x + 1) := by
    rw [Nat.pow_succ]
    have : 1 ≤ 2 ^ zE N x := Nat.pow_pos (by decide)
    omega
  refine Nat.lt_of_le_of_lt (log_le (e := zE N x + (zE N x + 1) * (2 * N + 4)) ?_) h
  have e2 : (2 : Nat) ^ (zE N x + (zE N x + 1) * (2 * N + 4)) = 2 ^ zE N x * (2 ^ (zE N x + 1)) ^ (2 * N + 4) := by rw [Nat.pow_add, Nat.pow_mul]
  rw [e2]
  exact Nat.mul_le_mul a (Nat.pow_le_pow_left b _)
/-! ### rows with their pivot columns -/
structure EchR (n : Nat) (cs : List Nat) (R : List (List Int)) : Prop where
  len : cs.length = R.length
  asc : cs.Pairwise (· < ·)
  lt : ∀ c ∈ cs, c < n
  row : ∀ (i c : Nat) (r : List Int), cs[i]? = some c → R[i]? = some r → r.length = n ∧ (∀ j, j < c → fv r j = 0) ∧ 0 < fv r c
def spread : Nat → Nat → List Nat → List (List Int) → Steps
  | _, 0, _, _ => []
  | k, f + 1, c :: cs, r :: R => if c = k then some r :: spread (k + 1) f cs R else none :: spread (k + 1) f (c :: cs) (r :: R)
  | k, f + 1, _, _ => none :: spread (k + 1) f [] []
theorem spread_len : ∀ (k f : Nat) (cs : List Nat) (R : List (List Int)), (spread k f cs R).length = f
  | _, 0, cs, R => by unfold spread; rfl
  | k, f + 1, [], R => by unfold spread; simp [spread_len (k + 1) f]
  | k, f + 1, c :: cs, [] => by unfold spread; simp [spread_len (k + 1) f]
  | k, f + 1, c :: cs, r :: R => by
    unfold spread
    split <;> simp [spread_len (k + 1) f]
theorem spread_nil : ∀ (k f : Nat), (spread k f [] []).filterMap id = []
  | _, 0 => by unfold spread; rfl
  | k, f + 1 => by unfold spread; simp [spread_nil (k + 1) f]
theorem spread_rows : ∀ (k f : Nat) (cs : List Nat) (R : List (List Int)), cs.length = R.length → cs.Pairwise (· < ·) → (∀ c ∈ cs, k ≤ c ∧ c < k + f) → (spread k f cs R).filterMap id = R
  | k, 0, [], [], _, _, _ => by unfold spread; rfl
  | k, 0, c :: cs, R, _, _, h => by have := h c (by simp); omega
  | k, f + 1, [], [], _, _, _ => by unfold spread; simp [spread_nil]
  | k, f + 1, [], r :: R, hl, _, _ => by simp at hl
  | k, f + 1, c :: cs, [], hl, _, _ => by simp at hl
  | k, f + 1, c :: cs, r :: R, hl, ha, h => by
    have hc := h c (by simp)
    have h1 := (List.pairwise_cons.mp ha).1
    unfold spread
    by_cases e : c = k
    · rw [if_pos e]
      simp only [List.filterMap_cons, id]
      rw [spread_rows (k + 1) f cs R (by simpa using hl) (List.pairwise_cons.mp ha).2 fun d hd => by have := h1 d hd; have := h d (by simp [hd]); omega]
    · rw [if_neg e]
      simp only [List.filterMap_cons, id]
      exact spread_rows (k + 1) f (c :: cs) (r :: R) hl ha fun d hd => by
        have := h d hd
        rcases List.mem_cons.mp hd with g | g
        · omega
        · have := h1 d g; omega
theorem spread_nil_at : ∀ (k f j : Nat) (r : List Int), (spread k f [] [])[j]? ≠ some (some r)
  | _, 0, j, r => by unfold spread; simp
  | k, f + 1, 0, r => by unfold spread; simp
  | k, f + 1, j + 1, r => by unfold spread; simpa using spread_nil_at (k + 1) f j r
theorem spread_at : ∀ (k f : Nat) (cs : List Nat) (R : List (List Int)) (j : Nat) (r : List Int), cs.length = R.length → cs.Pairwise (· < ·) → (∀ c ∈ cs, k ≤ c ∧ c < k + f) → ((spread k f cs R)[j]? = some (some r) ↔ ∃ i : Nat, cs[i]? = some (k + j) ∧ R[i]? = some r)
  | k, 0, [], [], j, r, _, _, _ => by unfold spread; simp
  | k, 0, c :: cs, R, j, r, _, _, h => by have := h c (by simp); omega
  | k, f + 1, [], [], j, r, _, _, _ => by simp [spread_nil_at]
  | k, f + 1, [], _ :: R, _, _, hl, _, _ => by simp at hl
  | k, f + 1, c :: cs, [], _, _, hl, _, _ => by simp at hl
  | k, f + 1, c :: cs, r0 :: R, j, r, hl, ha, h => by
    have hc := h c (by simp)
    have h1 := (List.pairwise_cons.mp ha).1
    unfold spread
    by_cases e : c = k
    · rw [if_pos e]
      cases j with
      | zero =>
        constructor
        · intro g
          have g : some r0 = some r := by simpa using g
          exact ⟨0, by simp [e], by simpa using g⟩
        · rintro ⟨i, g1, g2⟩
          cases i with
          | zero => simpa using g2
          | succ i =>
            have g1 : cs[i]? = some k := by simpa using g1
            have := h1 k (List.mem_of_getElem? g1)
            omega
      | succ j =>
        have ih := spread_at (k + 1) f cs R j r (by simpa using hl) (List.pairwise_cons.mp ha).2 fun d hd => by have := h1 d hd; have := h d (by simp [hd]); omega
        rw [List.getElem?_cons_succ, ih]
        constructor
        · rintro ⟨i, g1, g2⟩
          exact ⟨i + 1, by rw [List.getElem?_cons_succ, g1]; congr 1; omega, by simpa using g2⟩
        · rintro ⟨i, g1, g2⟩
          cases i with
          | zero => have : c = k + (j + 1) := by simpa using g1
                    omega
          | succ i => exact ⟨i, by rw [List.getElem?_cons_succ] at g1; rw [g1]; congr 1; omega, by simpa using g2⟩
    · rw [if_neg e]
      have ih := fun j => spread_at (k + 1) f (c :: cs) (r0 :: R) j r hl ha fun d hd => by
        have := h d hd
        rcases List.mem_cons.mp hd with g | g
        · omega
        · have := h1 d g; omega
      cases j with
      | zero =>
        constructor
        · intro g; simp at g
        · rintro ⟨i, g1, g2⟩
          have := List.mem_of_getElem? g1
          rcases List.mem_cons.mp this with g | g
          · omega
          · have := h1 _ g; omega
      | succ j =>
        rw [List.getElem?_cons_succ, ih]
        constructor
        · rintro ⟨i, g1, g2⟩
          exact ⟨i, by rw [g1]; congr 1; omega, g2⟩
        · rintro ⟨i, g1, g2⟩
          exact ⟨i, by rw [g1]; congr 1; omega, g2⟩
namespace EchR
variable {n : Nat} {cs : List Nat} {R : List (List Int)}
theorem at_ (e : EchR n cs R) (j : Nat) (r : List Int) : (spread 0 n cs R)[j]? = some (some r) ↔ ∃ i : Nat, cs[i]? = some j ∧ R[i]? = some r := by
  have := spread_at 0 n cs R j r e.len e.asc fun c hc => ⟨Nat.zero_le _, by have := e.lt c hc; omega⟩
  rwa [Nat.zero_add] at this
theorem rows (e : EchR n cs R) : (spread 0 n cs R).filterMap id = R := spread_rows 0 n cs R e.len e.asc fun c hc => ⟨Nat.zero_le _, by have := e.lt c hc; omega⟩
theorem ech (e : EchR n cs R) : Ech n (spread 0 n cs R) := by
  refine ⟨spread_len _ _ _ _, fun c l h => ?_, fun c l j h hj => ?_, fun c l h => ?_⟩
  · obtain ⟨i, h1, h2⟩ := (e.at_ c l).mp h
    exact (e.row i c l h1 h2).1
  · obtain ⟨i, h1, h2⟩ := (e.at_ c l).mp h
    exact (e.row i c l h1 h2).2.1 j hj
  · obtain ⟨i, h1, h2⟩ := (e.at_ c l).mp h
    exact (e.row i c l h1 h2).2.2
theorem rl (e : EchR n cs R) (v : Vc) : Sp (RowsOf (spread 0 n cs R)) v ↔ Sp (RL R) v := by
  have h : ∀ x, RowsOf (spread 0 n cs R) x ↔ RL R x := fun x => by rw [rows_RL, e.rows]
  exact ⟨fun g => g.mono fun x hx => (h x).mp hx, fun g => g.mono fun x hx => (h x).mpr hx⟩
theorem hnf (e : EchR n cs R) (red : ∀ (i j c : Nat) (r r' : List Int), i < j → cs[j]? = some c → R[i]? = some r → R[j]? = some r' → 0 ≤ fv r c ∧ fv r c < fv r' c) : Hnf n (Sp (RL R)) R := by
  refine ⟨spread 0 n cs R, e.ech, fun c l j l' h1 hcj h2 => ?_, e.rl, e.rows.symm⟩
  obtain ⟨i, a1, a2⟩ := (e.at_ c l).mp h1
  obtain ⟨i', b1, b2⟩ := (e.at_ j l').mp h2
  have hi : i < i' := by
    have hil := (List.getElem?_eq_some_iff.mp a1).1
    have hil' := (List.getElem?_eq_some_iff.mp b1).1
    rcases Nat.lt_trichotomy i i' with g | g | g
    · exact g
    · subst g; rw [a1] at b1; cases b1; omega
    · have := List.pairwise_iff_getElem.mp e.asc i' i hil' hil g
      rw [List.getElem?_eq_getElem hil] at a1
      rw [List.getElem?_eq_getElem hil'] at b1
      cases a1
      cases b1
      omega
  exact red i i' j l l' hi b1 a2 b2
end EchR
/-! ### steps on a list of rows -/
def plusL (f : Int) (xs ys : List Int) : List Int := List.zipWith (fun a b => f * a + b) xs ys
theorem fv_plus {f : Int} {xs ys : List Int} (h : xs.length = ys.length) (j : Nat) : fv (plusL f xs ys) j = f * fv xs j + fv ys j := fv_zip (f := fun a b => f * a + b) (by simp) h j
theorem len_plus {f : Int} {xs ys : List Int} (h : xs.length = ys.length) : (plusL f xs ys).length = ys.length := by unfold plusL; rw [List.length_zipWith]; omega
theorem bnd_plus {f : Int} {xs ys : List Int} {F A B : Nat} (h : xs.length = ys.length) (hf : f.natAbs ≤ F) (hx : bnd A (fv xs)) (hy : bnd B (fv ys)) : bnd (F * A + B) (fv (plusL f xs ys)) := fun j => by
  rw [fv_plus h]
  have h1 : (f * fv xs j).natAbs ≤ F * A := by rw [Int.natAbs_mul]; exact Nat.mul_le_mul hf (hx j)
  have h2 := hy j
  omega
/-- a row is replaced by what leads back to it -/
theorem span_set {R : List (List Int)} {i : Nat} {r r' : List Int} (hi : R[i]? = some r) (h1 : Sp (RL R) (fv r')) (h2 : Sp (RL (R.set i r')) (fv r)) (v : Vc) : Sp (RL (R.set i r')) v ↔ Sp (RL R) v := by
  have hil := (List.getElem?_eq_some_iff.mp hi).1
  constructor
  · refine fun g => g.trans fun x ⟨y, hy, ex⟩ => ?_
    rw [ex]
    obtain ⟨j, hj⟩ := List.mem_iff_getElem?.mp hy
    rw [List.getElem?_set] at hj
    by_cases e : i = j
    · rw [if_pos e, if_pos hil] at hj
      cases hj
      exact h1
    · rw [if_neg e] at hj
      exact .of ⟨y, List.mem_of_getElem? hj, rfl⟩
  · refine fun g => g.trans fun x ⟨y, hy, ex⟩ => ?_
    rw [ex]
    obtain ⟨j, hj⟩ := List.mem_iff_getElem?.mp hy
    by_cases e : i = j
    · subst e
      rw [hi] at hj
      cases hj
      exact h2
    · exact .of ⟨y, List.mem_of_getElem? (i := j) (by rw [List.getElem?_set, if_neg e]; exact hj), rfl⟩
theorem span_plus {R : List (List Int)} {i j : Nat} {r s : List Int} (f : Int) (hi : R[i]? = some r) (hj : R[j]? = some s) (hij : i ≠ j) (hl : s.length = r.length) (v : Vc) : Sp (RL (R.set i (plusL f s r))) v ↔ Sp (RL R) v := by
  have hil := (List.getElem?_eq_some_iff.mp hi).1
  refine span_set hi ?_ ?_ v
  · exact ((Sp.of ⟨s, List.mem_of_getElem? hj, rfl⟩ : Sp (RL R) (fv s)).comb f 1 (.of ⟨r, List.mem_of_getElem? hi, rfl⟩)).cast fun k => by rw [fv_plus hl]; omega
  · have a : Sp (RL (R.set i (plusL f s r))) (fv (plusL f s r)) := .of ⟨_, List.mem_of_getElem? (i := i) (by rw [List.getElem?_set, if_pos rfl, if_pos hil]), rfl⟩
    have b : Sp (RL (R.set i (plusL f s r))) (fv s) := .of ⟨_, List.mem_of_getElem? (i := j) (by rw [List.getElem?_set, if_neg hij]; exact hj), rfl⟩
    exact (a.comb 1 (-f) b).cast fun k => by rw [fv_plus hl]; grind
end Hn
namespace Hn
/-! ### a form's own numbers are smaller than those on the way to it -/
def hB (N M : Nat) : Nat := pB N M + N * ((2 * N * M) ^ N * pB N M)
theorem Ech.sizeH {N M : Nat} {st : Steps} {R : Vc → Prop} (e : Ech N st) (hM : 1 ≤ M) (hR : ∀ u, R u → bnd M u) (h : ∀ v, Sp R v ↔ Sp (RowsOf st) v) {v : Vc} (hv : Sp R v)
    (hs : ∀ c l, st[c]? = some (some l) → (v c).natAbs ≤ pB N M) {j : Nat} (hj : j < N) : (v j).natAbs ≤ hB N M := by
  by_cases hst : ∃ l, st[j]? = some (some l)
  · obtain ⟨l, hl⟩ := hst
    have := hs j l hl
    unfold hB
    omega
  · have mlt := e.m_lt hj fun l hl => hst ⟨l, hl⟩
    obtain ⟨x, d, d0, dB, xB, hf⟩ := form_bound hM e.tri (gens_of h) hR mlt j
    have f1 := hf v hv
    generalize hm : (cols st).length = m at *
    have hci : ∀ i, i < m → (v (cI st i)).natAbs ≤ pB N M := fun i hi => hs _ _ (cI_step (by omega))
    have key : d * v j = -(sm m fun i => x i * v (cI st i)) := by omega
    have b2 : (d * v j).natAbs ≤ N * ((2 * N * M) ^ N * pB N M) := by
      rw [key, Int.natAbs_neg]
      refine Nat.le_trans (sm_abs (B := (2 * N * M) ^ N * pB N M) fun i hi => ?_) (Nat.mul_le_mul_right _ (by omega))
      rw [Int.natAbs_mul]
      exact Nat.mul_le_mul (xB i hi) (hci i hi)
    have hd : (v j).natAbs ≤ (d * v j).natAbs := by
      rw [Int.natAbs_mul]
      exact Nat.le_mul_of_pos_left _ (by omega)
    unfold hB
    omega
theorem FI.hb {N M L n : Nat} {R : Vc → Prop} {st tl : Steps} (b : BR N M R st) (hM : 1 ≤ M) (hN : N = L + n) (F : FI N M L n R st 0 tl) {c : Nat} {l : List Int} (h : tl[c]? = some (some l)) : bnd (hB N M) (fv l) := by
  have zsp : Sp R (shift L (fv l)) := (F.sp _).mp (.of ⟨c, l, h, rfl⟩)
  refine bnd_out (F.e.row _ _ h) fun j hj => ?_
  have := b.e.sizeH hM b.rM b.sp zsp (fun c' x hc => ?_) (j := j + L) (by omega)
  · rw [shift_hi] at this; exact this
  · by_cases hcL : c' < L
    · rw [shift_lo hcL]; simp
    · obtain ⟨i, rfl⟩ : ∃ i, c' = i + L := ⟨c' - L, by omega⟩
      rw [shift_hi]
      rcases Nat.lt_trichotomy i c with g | g | g
      · rw [F.e.lo _ _ _ h g]; simp
      · rw [g]; exact F.pv _ _ h
      · have iN : i + L < N := b.e.lt hc
        have : i < tl.length := by rw [F.e.len]; omega
        have hi : tl[i]? = some tl[i] := List.getElem?_eq_getElem this
        rcases hh : tl[i] with _ | y
        · rw [hh] at hi
          have := (F.non i).mp hi
          rw [Nat.add_comm, hc] at this
          cases this
        · rw [hh] at hi
          have := F.red c l i y (Nat.zero_le _) h g hi
          have := F.pv _ _ hi
          omega
def hE (N y : Nat) : Nat := N + y * (2 * N + 1) + 1
theorem hB_le {N M y : Nat} (h1 : 2 * N * M ≤ 2 ^ y) : hB N M ≤ 2 ^ hE N y := by
  have hX : (2 * N * M) ^ N ≤ 2 ^ (y * N) := by rw [Nat.pow_mul]; exact Nat.pow_le_pow_left h1 N
  have hp : pB N M ≤ 2 ^ (y * (N + 1)) := by unfold pB; rw [Nat.pow_mul]; exact Nat.pow_le_pow_left h1 _
  have hn : N + 1 ≤ 2 ^ N := Nat.lt_two_pow_self
  have hm : (2 * N * M) ^ N * pB N M ≤ 2 ^ (y * N) * 2 ^ (y * (N + 1)) := Nat.mul_le_mul hX hp
  have t : N * ((2 * N * M) ^ N * pB N M) ≤ 2 ^ (N + (y * N + y * (N + 1))) := by
    rw [Nat.pow_add, Nat.pow_add 2 (y * N)]
    exact Nat.mul_le_mul (by omega) hm
  have p : pB N M ≤ 2 ^ (N + (y * N + y * (N + 1))) := Nat.le_trans hp (Nat.pow_le_pow_right (by decide) (by omega))
  have e : hE N y = N + (y * N + y * (N + 1)) + 1 := by unfold hE; grind
  rw [e, Nat.pow_succ]
  unfold hB
  omega
theorem hE_mono {N N' y y' : Nat} (h : N ≤ N') (g : y ≤ y') : hE N y ≤ hE N' y' := by
  unfold hE
  have : y * (2 * N + 1) ≤ y' * (2 * N' + 1) := Nat.mul_le_mul g (by omega)
  omega
end Hn
namespace Hn
/-! ### a lattice between another one and its multiples -/
structure GensM (m0 : Int) (m : Nat) (T : Nat → Vc) (R : Vc → Prop) : Prop where
  ts : ∀ s, s < m → Sp R (T s)
  rs : ∀ u, R u → ∃ z : Nat → Int, ∀ j, m0 * u j = sm m fun s => z s * T s j
theorem GensM.sp {m0 : Int} {m : Nat} {T : Nat → Vc} {R : Vc → Prop} (h : GensM m0 m T R) {v : Vc} (hv : Sp R v) : ∃ z : Nat → Int, ∀ j, m0 * v j = sm m fun s => z s * T s j := by
  induction hv with
  | zero => exact ⟨fun _ => 0, fun j => by rw [sm_zero fun s _ => by simp]; simp⟩
  | @add u v k h1 _ ih =>
    obtain ⟨a, ha⟩ := h.rs _ h1
    obtain ⟨b, hb⟩ := ih
    exact ⟨fun s => k * a s + b s, fun j => by
      show m0 * (k * u j + v j) = _
      rw [show m0 * (k * u j + v j) = k * (m0 * u j) + m0 * v j by grind, ha, hb, ← sm_mul, ← sm_add]
      exact sm_congr fun s _ => by grind⟩
theorem piv_boundM {m0 : Int} (h0 : m0 ≠ 0) {m M n : Nat} {T : Nat → Vc} {c : Nat → Nat} {R : Vc → Prop} (hM : 1 ≤ M) (h : Tri m T c) (g : GensM m0 m T R) (hR : ∀ u, R u → ∀ i, i < m → (u (c i)).natAbs ≤ M) (hmn : m ≤ n) {s : Nat} (hs : s < m) : (T s (c s)).natAbs ≤ m0.natAbs * (2 * n * M) ^ (n + 1) := by
  have k1 : s + 1 ≤ m := hs
  rcases dich (k := s + 1) hM R c fun u hu i hi => hR u hu i (by omega) with ⟨x, ⟨i, hi, hx⟩, _, xv⟩ | ⟨us, ru, ind⟩
  · exact absurd (h.form k1 (fun s' hs' => Sp.form (g.ts s' (by omega)) xv) i hi) hx
  · obtain ⟨y, ⟨i0, hi0, hy0⟩, yb, ye⟩ := siegel (k := s + 1) (t := s) (M := M) (by omega) hM (fun e t => us t (c e)) fun e t he ht => hR _ (ru t ht) e (by omega)
    have hw : Sp R (fun j => sm (s + 1) fun t => y t * us t j) := Sp.sum y fun t ht => .of (ru t ht)
    obtain ⟨z, hz⟩ := g.sp hw
    have w0 : ∀ i, i < s → (fun j => sm (s + 1) fun t => y t * us t j) (c i) = 0 := fun i hi => by
      have := ye i hi
      show sm (s + 1) (fun t => y t * us t (c i)) = 0
      rw [← this]
      exact sm_congr fun t _ => Int.mul_comm _ _
    have z0 := h.coef (v := fun j => m0 * sm (s + 1) fun t => y t * us t j) hz (k := s) (by omega) fun i hi => by
      show m0 * sm (s + 1) (fun t => y t * us t (c i)) = 0
      rw [show sm (s + 1) (fun t => y t * us t (c i)) = 0 from w0 i hi, Int.mul_zero]
    have wne : sm (s + 1) (fun t => y t * us t (c s)) ≠ 0 := fun e => hy0 (ind y (fun i hi => by
      by_cases e2 : i = s
      · rw [e2]; exact e
      · exact w0 i (by omega)) i0 hi0)
    have wc : m0 * sm (s + 1) (fun t => y t * us t (c s)) = z s * T s (c s) := by
      rw [show m0 * sm (s + 1) (fun t => y t * us t (c s)) = sm m (fun s' => z s' * T s' (c s)) from hz (c s)]
      exact sm_one hs fun s' hs' hne => by
        by_cases hlt : s' < s
        · rw [z0 s' hlt, Int.zero_mul]
        · rw [h.lo s' s hs' (by omega), Int.mul_zero]
    have hb : (sm (s + 1) (fun t => y t * us t (c s))).natAbs ≤ (s + 1) * ((2 * (s + 1) * M) ^ s * M) := sm_abs fun t ht => by
      rw [Int.natAbs_mul]
      exact Nat.mul_le_mul (yb t ht) (hR _ (ru t ht) s hs)
    have hz1 : 1 ≤ (z s).natAbs := by
      apply Classical.byContradiction
      intro hh
      have : z s = 0 := by omega
      rw [this, Int.zero_mul] at wc
      exact wne ((Int.mul_eq_zero.mp wc).resolve_left h0)
    have le1 : (T s (c s)).natAbs ≤ (m0 * sm (s + 1) (fun t => y t * us t (c s))).natAbs := by
      rw [wc, Int.natAbs_mul]
      exact Nat.le_mul_of_pos_left _ hz1
    rw [Int.natAbs_mul] at le1
    refine Nat.le_trans (Nat.le_trans le1 (Nat.mul_le_mul_left _ hb)) (Nat.mul_le_mul_left _ ?_)
    have a1 : 2 * (s + 1) * M ≤ 2 * n * M := Nat.mul_le_mul_right M (by omega)
    have hX : 1 ≤ 2 * n * M := Nat.mul_pos (by omega) hM
    have a2 : (2 * (s + 1) * M) ^ s ≤ (2 * n * M) ^ n := Nat.le_trans (Nat.pow_le_pow_left a1 s) (Nat.pow_le_pow_right hX (by omega))
    have a3 : (s + 1) * M ≤ 2 * n * M := Nat.mul_le_mul_right M (by omega)
    calc (s + 1) * ((2 * (s + 1) * M) ^ s * M) = (2 * (s + 1) * M) ^ s * ((s + 1) * M) := by
          rw [← Nat.mul_assoc, Nat.mul_comm (s + 1), Nat.mul_assoc]
      _ ≤ (2 * n * M) ^ n * (2 * n * M) := Nat.mul_le_mul a2 a3
      _ = (2 * n * M) ^ (n + 1) := (Nat.pow_succ ..).symm
/-- a form on the pivots and one column more -/
theorem form_boundM {m0 : Int} (h0 : m0 ≠ 0) {m M n : Nat} {T : Nat → Vc} {c : Nat → Nat} {R : Vc → Prop} (hM : 1 ≤ M) (h : Tri m T c) (g : GensM m0 m T R) (hR : ∀ u, R u → ∀ i, (u i).natAbs ≤ M) (hmn : m < n) (j : Nat) :
    ∃ (x : Nat → Int) (d : Int), d ≠ 0 ∧ d.natAbs ≤ (2 * n * M) ^ n ∧ (∀ i, i < m → (x i).natAbs ≤ (2 * n * M) ^ n) ∧ ∀ v, Sp R v → sm m (fun i => x i * v (c i)) + d * v j = 0 := by
  have hX : 1 ≤ 2 * n * M := Nat.mul_pos (by omega) hM
  have hpow : (2 * (m + 1) * M) ^ (m + 1) ≤ (2 * n * M) ^ n := Nat.le_trans (Nat.pow_le_pow_left (Nat.mul_le_mul_right M (by omega)) _) (Nat.pow_le_pow_right hX (by omega))
  let c' : Nat → Nat := fun i => if i = m then j else c i
  have e : ∀ (x : Nat → Int) (v : Vc), sm (m + 1) (fun i => x i * v (c' i)) = sm m (fun i => x i * v (c i)) + x m * v j := fun x v => by
    show sm m (fun i => x i * v (c' i)) + x m * v (c' m) = _
    have e1 : c' m = j := if_pos rfl
    rw [e1]
    congr 1
    exact sm_congr fun i hi => by
      have : c' i = c i := if_neg (by omega)
      rw [this]
  rcases dich (k := m + 1) hM R c' fun u hu i hi => hR u hu _ with ⟨x, ⟨i, hi, hx⟩, xb, xv⟩ | ⟨us, ru, ind⟩
  · refine ⟨x, x m, fun hm => ?_, Nat.le_trans (xb m (by omega)) hpow, fun i hi => Nat.le_trans (xb i (by omega)) hpow, fun v hv => ?_⟩
    · have z := h.form (Nat.le_refl m) (x := x) fun s hs => by
        have := Sp.form (g.ts s hs) xv
        rw [e, hm, Int.zero_mul, Int.add_zero] at this
        exact this
      refine hx ?_
      by_cases e2 : i = m
      · rw [e2]; exact hm
      · exact z i (by omega)
    · rw [← e]; exact Sp.form hv xv
  · exfalso
    have hz : ∀ s, ∃ z : Nat → Int, s < m + 1 → ∀ j, m0 * us s j = sm m fun l => z l * T l j := fun s => by
      by_cases hs : s < m + 1
      · obtain ⟨z, hz⟩ := g.rs _ (ru s hs)
        exact ⟨z, fun _ => hz⟩
      · exact ⟨fun _ => 0, fun hs' => absurd hs' hs⟩
    obtain ⟨Z, hZ⟩ := Classical.axiomOfChoice hz
    have bnd : ∀ a b : Nat, ∃ B : Nat, ∀ s l, s < a → l < b → (Z s l).natAbs ≤ B := by
      intro a
      induction a with
      | zero => exact fun b => ⟨0, fun s l hs => by omega⟩
      | succ a ih =>
        intro b
        obtain ⟨B, hB⟩ := ih b
        have row : ∃ B', ∀ l, l < b → (Z a l).natAbs ≤ B' := by
          clear hB
          induction b with
          | zero => exact ⟨0, fun l hl => by omega⟩
          | succ b ihb =>
            obtain ⟨B', hB'⟩ := ihb
            refine ⟨B' + (Z a b).natAbs, fun l hl => ?_⟩
            by_cases e : l = b
            · rw [e]; omega
            · have := hB' l (by omega); omega
        obtain ⟨B', hB'⟩ := row
        refine ⟨B + B', fun s l hs hl => ?_⟩
        by_cases e : s = a
        · rw [e]; have := hB' l hl; omega
        · have := hB s l (by omega) hl; omega
    obtain ⟨B, hB⟩ := bnd (m + 1) m
    obtain ⟨y, ⟨i0, hi0, hy0⟩, _, ye⟩ := siegel (k := m + 1) (t := m) (M := B + 1) (by omega) (by omega) (fun l s => Z s l) fun l s hl hs => by have := hB s l hs hl; omega
    refine hy0 (ind y (fun i hi => ?_) i0 hi0)
    have e1 : m0 * sm (m + 1) (fun s => y s * us s (c' i)) = sm (m + 1) (fun s => sm m fun l => T l (c' i) * (Z s l * y s)) := by
      rw [← sm_mul]
      refine sm_congr fun s hs => ?_
      rw [show m0 * (y s * us s (c' i)) = y s * (m0 * us s (c' i)) by grind, hZ s hs, ← sm_mul]
      exact sm_congr fun l _ => by grind
    have e2 : m0 * sm (m + 1) (fun s => y s * us s (c' i)) = 0 := by
      rw [e1, sm_swap]
      refine sm_zero fun l hl => ?_
      rw [sm_mul, ye l hl, Int.mul_zero]
    exact (Int.mul_eq_zero.mp e2).resolve_left h0
/-- numbers of a form whose lattice lies between Sp R and m0 times it -/
def pinB (m0 n M : Nat) : Nat := m0 * pB n M + n * ((2 * n * M) ^ n * (m0 * pB n M))
theorem Hnf.pinch {n m0 M : Nat} {V R : Vc → Prop} {C : List (List Int)} (hC : Hnf n V C) (h0 : 1 ≤ m0) (hM : 1 ≤ M) (hR : ∀ u, R u → bnd M u) (h1 : ∀ v, V v → Sp R v) (h2 : ∀ u, R u → V fun j => (m0 : Int) * u j) : ∀ r ∈ C, bnd (pinB m0 n M) (fv r) := by
  obtain ⟨st, e, red, sp, rfl⟩ := hC
  have g : GensM (m0 : Int) (cols st).length (TI st) R := by
    refine ⟨fun s hs => h1 _ ((sp _).mp ((gens_self st).ts s hs)), fun u hu => ?_⟩
    exact (gens_self st).sp ((sp _).mpr (h2 u hu))
  have z0 : (m0 : Int) ≠ 0 := by omega
  have piv : ∀ c l, st[c]? = some (some l) → (fv l c).natAbs ≤ m0 * pB n M := fun c l hc => by
    obtain ⟨i, hi, ei⟩ := cI_of hc
    have := piv_boundM z0 hM e.tri g (fun u hu i _ => hR u hu _) e.m_le hi
    unfold TI at this
    rw [ei, hc] at this
    exact this
  intro r hr
  obtain ⟨x, hx, ex⟩ := List.mem_filterMap.mp hr
  change x = some r at ex
  subst ex
  obtain ⟨c, hc⟩ := List.mem_iff_getElem?.mp hx
  have vR : Sp R (fv r) := h1 _ ((sp _).mp (.of ⟨c, r, hc, rfl⟩))
  have at_ : ∀ c' l, st[c']? = some (some l) → (fv r c').natAbs ≤ m0 * pB n M := fun c' l hl => by
    rcases Nat.lt_trichotomy c' c with h | h | h
    · rw [e.lo _ _ _ hc h]; simp
    · subst h
      rw [hc] at hl
      cases hl
      exact piv _ _ hc
    · have := red _ _ _ _ hc h hl
      have := piv _ _ hl
      omega
  refine bnd_out (e.row _ _ hc) fun j hj => ?_
  by_cases hst : ∃ l, st[j]? = some (some l)
  · obtain ⟨l, hl⟩ := hst
    exact Nat.le_trans (at_ j l hl) (Nat.le_add_right _ _)
  · have mlt := e.m_lt hj fun l hl => hst ⟨l, hl⟩
    obtain ⟨x, d, d0, dB, xB, hf⟩ := form_boundM z0 hM e.tri g hR mlt j
    have f1 := hf _ vR
    generalize hm : (cols st).length = m at *
    have hci : ∀ i, i < m → (fv r (cI st i)).natAbs ≤ m0 * pB n M := fun i hi => at_ _ _ (cI_step (by omega))
    have key : d * fv r j = -(sm m fun i => x i * fv r (cI st i)) := by omega
    have b2 : (d * fv r j).natAbs ≤ n * ((2 * n * M) ^ n * (m0 * pB n M)) := by
      rw [key, Int.natAbs_neg]
      refine Nat.le_trans (sm_abs (B := (2 * n * M) ^ n * (m0 * pB n M)) fun i hi => ?_) (Nat.mul_le_mul_right _ (by omega))
      rw [Int.natAbs_mul]
      exact Nat.mul_le_mul (xB i hi) (hci i hi)
    have hd : (fv r j).natAbs ≤ (d * fv r j).natAbs := by
      rw [Int.natAbs_mul]
      exact Nat.le_mul_of_pos_left _ (by omega)
    unfold pinB
    omega
theorem pinB_le {m0 n M y e : Nat} (h1 : 2 * n * M ≤ 2 ^ y) (h2 : m0 ≤ 2 ^ e) : pinB m0 n M ≤ 2 ^ (e + hE n y) := by
  have hp : m0 * pB n M ≤ 2 ^ e * pB n M := Nat.mul_le_mul_right _ h2
  have h := hB_le h1
  have : pinB m0 n M ≤ 2 ^ e * hB n M := by
    unfold pinB hB
    rw [Nat.mul_add]
    have a : n * ((2 * n * M) ^ n * (m0 * pB n M)) ≤ n * ((2 * n * M) ^ n * (2 ^ e * pB n M)) := Nat.mul_le_mul_left _ (Nat.mul_le_mul_left _ hp)
    have b : 2 ^ e * (n * ((2 * n * M) ^ n * pB n M)) = n * ((2 * n * M) ^ n * (2 ^ e * pB n M)) := by
      rw [Nat.mul_left_comm (2 ^ e) n, Nat.mul_left_comm (2 ^ e) ((2 * n * M) ^ n)]
    omega
  rw [Nat.pow_add]
  exact Nat.le_trans this (Nat.mul_le_mul_left _ h)
end Hn
set_option maxHeartbeats 4000000
namespace Hg
open PySem PySem.Spec PyProof.Rows L2
/-! ### a comprehension whose elements are new objects, and which may draw -/
/-! ### two ways that meet: give P as a metavariable; the first way to be walked must end at fresh names -/
end Hg
set_option maxHeartbeats 4000000
namespace Hg
open PySem PySem.Spec PyProof.Rows L2
/-! ### an error of an own class, made and kept as a value -/
section
variable {X : Cx}
/-- C(e, ..) or C(), kept -/
def tMkV (C : Addr) (sp : Sp) (ta : TA) : TE := fun σ H Q => ta σ H fun vs H1 => vs.length ≤ 1000 ∧ ∀ a, H1 a = none → sp (.ref a :: vs) (upd H1 a (exo a C none)) (fun v H2 => v = .non ∧ Q (.ref a) H2) (fun _ _ _ => False)
theorem pe_mkV {x : Str} {C fI : Addr} {k : Nat} {fd : FuncData} {ps : List Str} {sp : Sp} {p pos : Pos} {e : Expr} {es : List Expr} {ta : TA} (T : OexC X.K C) (iC : PySem.W.findIn X.K (.ref C) "__init__" = some (some (.ref fI)))
    (tI : PySem.W.typeIn X.K (.ref fI) = some (.type "function")) (F1 : FnOk X.prog X.w X.K X.mg X.base CX0 k fI fd ps sp) (hr : Room (k + 1) X.A) (hb : Binds X.K fd ps [])
    (hg : Gl X x) (hm : X.mg x = some (.ref C)) (ha : PA X (e :: es) ta) (hdb : (x == ("__debug__" : Str)) = false := by decide)
    (he : starEach (e :: es) X.env = (false, eval e X.env) :: starEach es X.env := by rfl) (hpl : (backTo pos (starEach es X.env)).any (·.1) = false := by rfl) : PE X (.Call (.Name x p) (e :: es) [] pos) (tMkV C sp ta) := by
  refine ⟨fun pins s σ H Q I h => ?_⟩
  obtain ⟨nm, q, N, bs, bm, sn, sub, ab, col, dd, k0, k1, k2, k3, k5, hC, hbm⟩ := T.cls
  refine wpAny_Call_Name_kw (ld_glob I hg hm ?_ hdb)
  refine PySem.W.callWith_K (h₀ := X.base) I.ok.mod.kin T.kC (thn (ha.run pos pins s σ H _ I h) fun us s1 ⟨vs, H1, I1, r1, hz, q1⟩ => ⟨I1.kIn, ?_⟩) he hpl
  show wpAny _ _ (call (.ref C) us) _ _ _
  obtain ⟨hp, g, dr, tk, os⟩ := s1
  have hsz : hp.objs.size ≤ hp.objs.size + 1 := Nat.le_succ _
  have hn : H1 (hp.objs.size + 1) = none := I1.hok.fresh hsz
  have hq := q1 (hp.objs.size + 1) hn
  have kk : ∀ b o, hp.get? b = some o → ((hp.push (PySem.W.kdv_tup us)).push (PySem.HandSPX.excO C hp.objs.size)).get? b = some o := fun b o e => Heap.get?_push_of_some _ (Heap.get?_push_of_some _ e)
  have hget : ((hp.push (PySem.W.kdv_tup us)).push (PySem.HandSPX.excO C hp.objs.size)).get? (hp.objs.size + 1) = some (PySem.HandSPX.excO C hp.objs.size) := by heap_get
  have I2 : Inv X pins σ (upd H1 (hp.objs.size + 1) (exo (hp.objs.size + 1) C none)) ⟨(hp.push (PySem.W.kdv_tup us)).push (PySem.HandSPX.excO C hp.objs.size), g, dr, tk, os⟩ :=
    I1.laid (t' := tk) (a := hp.objs.size + 1) (o := exo (hp.objs.size + 1) C none) (h' := (hp.push (PySem.W.kdv_tup us)).push (PySem.HandSPX.excO C hp.objs.size)) kk hsz (exo_ok hget)
  have r2 : Vals (V.ref (hp.objs.size + 1) :: vs) (Value.ref (hp.objs.size + 1) :: us) := .cons (show L2.RelV (V.ref (hp.objs.size + 1)) (Value.ref (hp.objs.size + 1)) from rfl) r1
  have hl : (Value.ref (hp.objs.size + 1) :: us ++ []).length = ps.length := by
    have e := r2.length
    rw [F1.len _ _ _ _ hq] at e
    rw [List.append_nil]
    exact e.symm
  have hbb := hb _ (Value.ref (hp.objs.size + 1) :: us) I2.kIn hl
  rw [List.append_nil] at hbb
  have hus : us.length ≤ sizeLine := by
    rw [← Paired.length r1, sizeLine_eq]
    omega
  refine wpAny_call (PySem.HandSPX.call_own F.excBase_ValueError (fun Y => PySem.HandSPX.refsVE_contains Y bm hbm) (I1.kIn _ _ hC) (PySem.W.looks_findIn I1.kIn iC) (fun self => PySem.W.bind_fn I1.kIn self tI) hus
    (codeAny_mono (F1.run _ X.stack _ _ ⟨Value.ref (hp.objs.size + 1) :: us, []⟩ (Value.ref (hp.objs.size + 1) :: us) _ _ (fun _ _ _ => False) (hr.make C us []) (I2.env0.make C us []) hbb r2 hq) fun r s' hq' => ?_))
  match r, hq' with
  | .error er, z => exact False.elim z
  | .ok (.ret u), z =>
    obtain ⟨v, H2, os2, bare2, un2, hok2, rv, ev, q2⟩ := z
    subst ev
    exact ⟨rv, .ref (hp.objs.size + 1), H2, I2.call' (ch := []) os2 un2 hok2 bare2 (fun b z => absurd z (by simp)), rfl, q2⟩
  | .ok .next, z => exact False.elim z
  | .ok .brk, z => exact False.elim z
  | .ok .cont, z => exact False.elim z
/-- x.f, x an error that is kept -/
def tXo (K : PySem.W.Frag) (f : Str) (te : TE) : TE := fun σ H Q => te σ H fun x H1 => ∃ (a C d : Addr) (fs : List (Str × V)) (v : V), x = .ref a ∧ XfC K C ∧ PySem.W.findIn K (.ref C) f = some none ∧ H1 a = some (exo a C (some d)) ∧ H1 d = some (exd d fs) ∧ fs.lookup f = some v ∧ Q v H1
theorem pe_xo {e : Expr} {te : TE} {pos : Pos} {n : Str} (he : PE X e te) (hb : attributeBase e n X.env (eval e X.env) = eval e X.env := by rfl) : PE X (.Attribute e n pos) (tXo X.K n te) := by
  refine ⟨fun pins s σ H Q I h => ?_⟩
  refine attr_of hb (thn (he.run pins s σ H _ I h) fun u s1 hh => ?_)
  obtain ⟨x, H1, I1, rx, a, C, d, fs, v, ex, T, hno, ea, ed, l, q⟩ := hh
  subst ex
  obtain rfl : u = Value.ref a := rx
  obtain ⟨t0, hoe⟩ := exo_at I1.hok ea
  obtain ⟨mA, hns, hr⟩ := exd_at I1.hok ed
  obtain ⟨od, ho, hl⟩ := lookIn_ns hns
  obtain ⟨u, hu, ru⟩ := RelO.some_of (v := v) (o := mA n) (by rw [← l]; exact hr n)
  have J : PySem.W.InstAt s1.heap a _ C (some od) := ⟨hoe, rfl, rfl, ho⟩
  exact HandSPX.exc_get I1.kIn J T.ga T.gg T.exC (PySem.W.findObj_own T.hdC hno rfl (by rw [hl, hu])) (handed_of ru) ⟨v, H1, I1.tok _, ru, q⟩
/-- isinstance(x, c), x an error that is kept -/
def rIsX (K : PySem.W.Frag) : List V → Hp → VK → Prop := fun xs H Q => ∃ (a C : Addr) (d : Option Addr) (c : V) (u : Value) (b : Bool), xs = [.ref a, c] ∧ ExcC K C ∧ H a = some (exo a C d) ∧ (∀ dx, d = some dx → ∃ fs, H dx = some (exd dx fs)) ∧ ClsV c u ∧ PySem.W.kitOne K (.ref C) u = some b ∧ Q (.bl b) H
theorem call_isX : CallR X (.builtin "isinstance") (rIsX X.K) := by
  intro pins s σ H xs us Q I r h
  obtain ⟨a, C, d, c, u, b, rfl, T, ea, ed, k, e, q⟩ := h
  obtain ⟨u1, u2, rfl, r1, r2⟩ := vals2 r
  have e2 := k.eq r2
  subst e2
  cases (show u1 = Value.ref a from r1)
  obtain ⟨t0, hoe⟩ := exo_at I.hok ea
  have J : ∃ od, PySem.W.InstAt s.heap a ({ cls := .ref C, dict := d, data := .fields #[.ref t0, .none, .none, .none, .bool false, .none] } : Obj) C od := by
    cases d with
    | none => exact ⟨none, hoe, rfl, rfl, trivial⟩
    | some dx =>
      obtain ⟨fs, ed⟩ := ed dx rfl
      obtain ⟨mA, ⟨o, es, ep, ho, hr⟩, r⟩ := exd_at I.hok ed
      exact ⟨some o, hoe, rfl, rfl, ho⟩
  obtain ⟨od, J⟩ := J
  have hcl : (PySem.W.clsIn X.K C).isSome = true := by
    obtain ⟨cd, hc, _⟩ := PySem.W.any_some T.hd
    rw [hc]; rfl
  exact PySem.W.kia_one (PySem.W.kitx_exc (x := a) (od := od) hcl T.hg T.hk T.hs T.ha T.hn T.ht T.hm) I.kIn J e (fun z => nomatch z) fun tk => ⟨.bl b, H, I.tok tk, rfl, q⟩
end
end Hg
set_option maxHeartbeats 4000000
namespace Hg
open PySem PySem.Spec PyProof.Rows L2
/-! ### what frozen makes of data: tuples all through -/
mutual
def fz : PyData → PyData
  | .list ds => .tuple (fzAll ds)
  | .tuple ds => .tuple (fzAll ds)
  | .none => .none
  | .bool b => .bool b
  | .int i => .int i
  | .str x => .str x
  | .dict kvs => .dict kvs
def fzAll : List PyData → List PyData
  | [] => []
  | d :: ds => fz d :: fzAll ds
end
theorem fzAll_map : ∀ ds : List PyData, fzAll ds = ds.map fz
  | [] => rfl
  | d :: ds => by rw [fzAll, fzAll_map ds, List.map_cons]
mutual
def wk : PyData → Nat
  | .list ds => 2 + wkAll ds
  | .tuple ds => 2 + wkAll ds
  | .none => 1
  | .bool _ => 1
  | .int _ => 1
  | .str _ => 1
  | .dict _ => 1
def wkAll : List PyData → Nat
  | [] => 0
  | d :: ds => wk d + wkAll ds
end
mutual
inductive Tp (H : Hp) : V → PyData → Prop
  | non : Tp H .non .none
  | bl (b : Bool) : Tp H (.bl b) (.bool b)
  | int (i : Int) : Tp H (.int i) (.int i)
  | str (x : Str) : Tp H (.str x) (.str x)
  | tup {a : Addr} {xs : List V} {ds : List PyData} : H a = some (.tup xs) → TpAll H xs ds → Tp H (.ref a) (.tuple ds)
inductive TpAll (H : Hp) : List V → List PyData → Prop
  | nil : TpAll H [] []
  | cons {v : V} {vs : List V} {d : PyData} {ds : List PyData} : Tp H v d → TpAll H vs ds → TpAll H (v :: vs) (d :: ds)
end
abbrev Keeps (H H' : Hp) : Prop := ∀ a xs, H a = some (.tup xs) → H' a = some (.tup xs)
mutual
theorem Tp.mono {H H' : Hp} (k : Keeps H H') : ∀ (d : PyData) (v : V), Tp H v d → Tp H' v d
  | .none, _, h => by cases h; exact .non
  | .bool _, _, h => by cases h; exact .bl _
  | .int _, _, h => by cases h; exact .int _
  | .str _, _, h => by cases h; exact .str _
  | .tuple ds, _, h => by cases h with | tup e t => exact .tup (k _ _ e) (TpAll.mono k ds _ t)
  | .list _, _, h => by cases h
  | .dict _, _, h => by cases h
theorem TpAll.mono {H H' : Hp} (k : Keeps H H') : ∀ (ds : List PyData) (vs : List V), TpAll H vs ds → TpAll H' vs ds
  | [], _, h => by cases h; exact .nil
  | d :: ds, _, h => by cases h with | cons a t => exact .cons (Tp.mono k d _ a) (TpAll.mono k ds _ t)
end
mutual
theorem Tp.dp {K : PySem.W.Frag} {H : Hp} : ∀ (d : PyData) (v : V), Tp H v d → Dp K H v d
  | .none, _, h => by cases h; exact .non
  | .bool _, _, h => by cases h; exact .bl _
  | .int _, _, h => by cases h; exact .int _
  | .str _, _, h => by cases h; exact .str _
  | .tuple ds, _, h => by cases h with | tup e t => exact .tup (SqT.of e) (TpAll.dp ds _ t)
  | .list _, _, h => by cases h
  | .dict _, _, h => by cases h
theorem TpAll.dp {K : PySem.W.Frag} {H : Hp} : ∀ (ds : List PyData) (vs : List V), TpAll H vs ds → DpAll K H vs ds
  | [], _, h => by cases h; exact .nil
  | d :: ds, _, h => by cases h with | cons a t => exact .cons (Tp.dp d _ a) (TpAll.dp ds _ t)
end
theorem TpAll.snoc {H : Hp} {v : V} {d : PyData} (h : Tp H v d) : ∀ {vs : List V} {ds : List PyData}, TpAll H vs ds → TpAll H (vs ++ [v]) (ds ++ [d])
  | [], [], _ => .cons h .nil
  | v :: vs, d :: ds, t => by cases t with | cons a t => exact .cons a (TpAll.snoc h t)
theorem dpAll_len {K : PySem.W.Frag} {H : Hp} : ∀ {vs : List V} {ds : List PyData}, DpAll K H vs ds → vs.length = ds.length
  | [], [], _ => rfl
  | _ :: _, _ :: _, h => by cases h with | cons a t => rw [List.length_cons, List.length_cons, dpAll_len t]
theorem dpAll_at {K : PySem.W.Frag} {H : Hp} : ∀ {vs : List V} {ds : List PyData} {i : Nat} {d : PyData}, DpAll K H vs ds → ds[i]? = some d → ∃ v, vs[i]? = some v ∧ Dp K H v d
  | _ :: _, _ :: _, 0, d, h, e => by cases h with | cons a t => cases e; exact ⟨_, rfl, a⟩
  | _ :: vs, _ :: ds, i + 1, d, h, e => by cases h with | cons a t => exact dpAll_at (i := i) t e
  | [], [], i, d, h, e => by simp at e
/-- the kind of data -/
def kd : PyData → String
  | .none => "NoneType"
  | .bool _ => "bool"
  | .int _ => "int"
  | .str _ => "str"
  | .tuple _ => "tuple"
  | .list _ => "list"
  | .dict _ => "dict"
theorem dp_ty {K : PySem.W.Frag} {H : Hp} {v : V} {d : PyData} (h : Dp K H v d) : kd d ∈ kinds ∧ TyX K H v (.type (kd d)) := by
  cases h with
  | non => exact ⟨by simp [kinds, kd], .base .non⟩
  | bl b => exact ⟨by simp [kinds, kd], .base (.bl b)⟩
  | int i => exact ⟨by simp [kinds, kd], .base (.int i)⟩
  | str x => exact ⟨by simp [kinds, kd], .base (.str x)⟩
  | lst s _ =>
    refine ⟨by simp [kinds, kd], ?_⟩
    rcases s with (e | ⟨o, e⟩) | ⟨o, its, n, e1, e2, _⟩
    · exact .base (.lst e)
    · exact .base (.frz e)
    · exact .kList e1 e2
  | tup s _ =>
    refine ⟨by simp [kinds, kd], ?_⟩
    rcases s with (e | ⟨o, e⟩) | ⟨o, its, n, e1, e2, _⟩
    · exact .base (.tup e)
    · exact .fTuple e
    · exact .kTuple e1 e2
def isSq : PyData → Bool
  | .tuple _ => true
  | .list _ => true
  | _ => false
theorem kit_lst : ∀ n ∈ kinds, kitB n "list" = some (n == "list") := by
  intro n h
  simp only [kinds, List.mem_cons, List.not_mem_nil, or_false] at h
  rcases h with h | h | h | h | h | h <;> subst h <;> decide +kernel
theorem kit_tl {K : PySem.W.Frag} {d : PyData} (h : kd d ∈ kinds) : PySem.W.kitAny K (.type (kd d)) [.type "tuple", .type "list"] = some (isSq d) := by
  have e : isSq d = (kd d == "tuple" || kd d == "list") := by cases d <;> rfl
  rw [e]
  refine kitAny_cons (kit_ty (kit_tup _ h)) (fun h1 => ?_) (fun h1 => by rw [h1]; rfl)
  rw [h1, Bool.false_or]
  refine kitAny_cons (kit_ty (kit_lst _ h)) (fun h2 => ?_) (fun h2 => h2)
  rw [h2]
  exact kitAny_nil
theorem kIsiT {X : Cx} {K : PySem.W.Frag} (hK : X.K = K := by rfl) : CallR X (.builtin "isinstance") (rIsiT K) := hK ▸ call_isiT
/-- isinstance(x, (tuple, list)) -/
theorem isi_tl {K : PySem.W.Frag} {H : Hp} {v : V} {d : PyData} {Q : VK} (h : Dp K H v d) {tp : Addr} (e : H tp = some (.tup [.ty "tuple", .ty "list"])) (q : Q (.bl (isSq d)) H) : rIsiT K [v, .ref tp] H Q := by
  obtain ⟨h1, h2⟩ := dp_ty h
  exact ⟨v, tp, _, _, _, _, rfl, e, .cons (.ty _) (.cons (.ty _) .nil), h2, kit_tl h1, q⟩
theorem dp_atom {K : PySem.W.Frag} {H H' : Hp} {v : V} {d : PyData} (h : Dp K H v d) (n : isSq d = false) : Tp H' v (fz d) := by
  cases h with
  | non => exact .non
  | bl b => exact .bl b
  | int i => exact .int i
  | str x => exact .str x
  | lst _ _ => cases n
  | tup _ _ => cases n
/-- a sequence of data -/
theorem dp_seq {K : PySem.W.Frag} {H : Hp} {v : V} {d : PyData} (h : Dp K H v d) (n : isSq d = true) : ∃ (k : Bool) (a : Addr) (xs : List V) (ds : List PyData), v = .ref a ∧ SqK K k H a xs ∧ DpAll K H xs ds ∧ fz d = .tuple (ds.map fz) ∧ wk d = 2 + wkAll ds := by
  cases h with
  | non => cases n
  | bl b => cases n
  | int i => cases n
  | str x => cases n
  | lst s t => exact ⟨false, _, _, _, rfl, s, t, by rw [fz, fzAll_map], by rw [wk]⟩
  | tup s t => exact ⟨true, _, _, _, rfl, s, t, by rw [fz, fzAll_map], by rw [wk]⟩
mutual
theorem dp_ex {K : PySem.W.Frag} {H H' : Hp} (e : Ex H H') : ∀ (d : PyData) (v : V), Dp K H v d → Dp K H' v d
  | .none, _, h => by cases h; exact .non
  | .bool _, _, h => by cases h; exact .bl _
  | .int _, _, h => by cases h; exact .int _
  | .str _, _, h => by cases h; exact .str _
  | .tuple ds, _, h => by cases h with | tup s t => exact .tup (e.seq (k := true) s) (dpAll_ex e ds _ t)
  | .list ds, _, h => by cases h with | lst s t => exact .lst (e.seq (k := false) s) (dpAll_ex e ds _ t)
  | .dict _, _, h => by cases h
theorem dpAll_ex {K : PySem.W.Frag} {H H' : Hp} (e : Ex H H') : ∀ (ds : List PyData) (vs : List V), DpAll K H vs ds → DpAll K H' vs ds
  | [], _, h => by cases h; exact .nil
  | d :: ds, _, h => by cases h with | cons a t => exact .cons (dp_ex e d _ a) (dpAll_ex e ds _ t)
end
theorem wkAll_len : ∀ ds : List PyData, ds.length ≤ wkAll ds
  | [] => Nat.le_refl _
  | d :: ds => by
    have h1 : 1 ≤ wk d := by cases d <;> simp only [wk] <;> omega
    have h2 := wkAll_len ds
    rw [wkAll, List.length_cons]
    omega
theorem wk_at : ∀ {ds : List PyData} {i : Nat} {d : PyData}, ds[i]? = some d → wkAll (ds.drop i) = wk d + wkAll (ds.drop (i + 1)) ∧ wk d ≤ wkAll ds
  | [], i, d, h => by simp at h
  | e :: ds, 0, d, h => by cases h; exact ⟨rfl, by rw [wkAll]; omega⟩
  | e :: ds, i + 1, d, h => by
    obtain ⟨a, b⟩ := wk_at (ds := ds) (i := i) (by simpa using h)
    exact ⟨a, by rw [wkAll]; omega⟩
/-! ### a stack of what is under way -/
structure Frm1 where
  p : Addr
  a : Addr
  b : Addr
  kk : Bool
  xs : List V
  us : List V
  ds : List PyData
structure FOk (K : PySem.W.Frag) (H0 H : Hp) (f : Frm1) : Prop where
  pair : H f.p = some (.tup [.ref f.a, .ref f.b])
  src : SqK K f.kk H0 f.a f.xs
  dat : DpAll K H0 f.xs f.ds
  blt : H f.b = some (.lst f.us)
  new : H0 f.b = none
  ok : TpAll H f.us ((f.ds.take f.us.length).map fz)
  le : f.us.length ≤ f.ds.length
  sz : wkAll f.ds ≤ 100000
theorem FOk.ext {K : PySem.W.Frag} {H0 H H' : Hp} {f : Frm1} (x : FOk K H0 H f) (e : Ex H H') : FOk K H0 H' f :=
  ⟨e _ _ x.pair, x.src, x.dat, e _ _ x.blt, x.new, TpAll.mono (fun _ _ h => e _ _ h) _ _ x.ok, x.le, x.sz⟩
theorem FOk.put {K : PySem.W.Frag} {H0 H : Hp} {f : Frm1} (x : FOk K H0 H f) {c : Addr} {ys : List V} {o : HO} (hc : H c = some (.lst ys)) (n : c ≠ f.b) : FOk K H0 (upd H c o) f :=
  ⟨tk_put hc _ _ x.pair, x.src, x.dat, (upd_ne (Ne.symm n)).trans x.blt, x.new, TpAll.mono (tk_put hc) _ _ x.ok, x.le, x.sz⟩
theorem FOk.more {K : PySem.W.Frag} {H0 H : Hp} {f : Frm1} (x : FOk K H0 H f) {v : V} {d : PyData} (hd : f.ds[f.us.length]? = some d) (hv : Tp H v (fz d)) : FOk K H0 (upd H f.b (.lst (f.us ++ [v]))) { f with us := f.us ++ [v] } := by
  refine ⟨tk_put x.blt _ _ x.pair, x.src, x.dat, upd_same, x.new, ?_, ?_, x.sz⟩
  · show TpAll _ (f.us ++ [v]) ((f.ds.take (f.us ++ [v]).length).map fz)
    rw [List.length_append, List.length_singleton, List.take_succ, hd, Option.toList_some, List.map_append]
    exact (TpAll.mono (tk_put x.blt) _ _ x.ok).snoc (Tp.mono (tk_put x.blt) _ _ hv)
  · show (f.us ++ [v]).length ≤ f.ds.length
    have := (List.getElem?_eq_some_iff.mp hd).1
    rw [List.length_append, List.length_singleton]
    omega
inductive Link : List Frm1 → PyData → Prop
  | one {f : Frm1} {D : PyData} : fz D = .tuple (f.ds.map fz) → Link [f] D
  | cons {g f : Frm1} {r : List Frm1} {dg D : PyData} : f.ds[f.us.length]? = some dg → fz dg = .tuple (g.ds.map fz) → Link (f :: r) D → Link (g :: f :: r) D
theorem Link.top {g g' : Frm1} {r : List Frm1} {D : PyData} (h : Link (g :: r) D) (e : g'.ds = g.ds) : Link (g' :: r) D := by
  cases h with
  | one h => exact .one (by rw [e]; exact h)
  | cons h1 h2 h3 => exact .cons h1 (by rw [e]; exact h2) h3
def remS : List Frm1 → Nat
  | [] => 0
  | f :: r => 1 + wkAll (f.ds.drop (f.us.length + 1)) + remS r
def rem : List Frm1 → Nat
  | [] => 0
  | g :: r => 1 + wkAll (g.ds.drop g.us.length) + remS r
theorem remS_len : ∀ r : List Frm1, r.length ≤ remS r
  | [] => Nat.le_refl _
  | f :: r => by have := remS_len r; rw [remS, List.length_cons]; omega
theorem rem_len (fs : List Frm1) : fs.length ≤ rem fs := by
  cases fs with
  | nil => exact Nat.le_refl _
  | cons g r => have := remS_len r; rw [rem, List.length_cons]; omega
structure Stk (K : PySem.W.Frag) (H0 H : Hp) (S : Addr) (fs : List Frm1) (D : PyData) : Prop where
  all : ∀ f ∈ fs, FOk K H0 H f
  nod : (fs.map Frm1.b).Nodup
  sb : S ∉ fs.map Frm1.b
  st : H S = some (.lst (fs.reverse.map fun f => V.ref f.p))
  new : H0 S = none
  ex : Ex H0 H
  lk : Link fs D
theorem atI_last {xs : List V} {x : V} : atI (xs ++ [x]) (-1) = some x := by
  have e : ixN (xs.length + 1) (-1) = some xs.length := by
    unfold ixN
    rw [if_neg (by decide), if_pos (by omega)]
    congr 1
    omega
  unfold atI
  rw [List.length_append, List.length_singleton, e]
  simp
/-! ### a comprehension whose elements are new objects, without a stream -/
/-! ### what is new -/
def nw (G G2 : Hp) : Hp := fun a => if (G a).isSome then none else G2 a
theorem dpAll_snoc {K : PySem.W.Frag} {H : Hp} {v : V} {d : PyData} (h : Dp K H v d) : ∀ {vs : List V} {ds : List PyData}, DpAll K H vs ds → DpAll K H (vs ++ [v]) (ds ++ [d])
  | [], [], _ => .cons h .nil
  | v :: vs, d :: ds, t => by cases t with | cons a t => exact .cons a (dpAll_snoc h t)
end Hg
set_option maxHeartbeats 4000000
namespace Hg
open PySem PySem.Spec PyProof.Rows L2
/-! ### numbers of any size: what division asks where the divisor is great -/
structure SeeX (X : Cx) : Prop where
  ns : X.base.NoSeer
  tr : X.prog.given.tree = none
  st : X.stack = X.env :: X.outer
  gen : X.env.scope.isGenerator = false
  co : X.env.scope.isCoroutine = false
  dp : X.A.depth + Builtin.pylongFrames < recursionLimit
section
variable {X : Cx}
/-- * of two factors of together less than a hundred million bits -/
def CMulB (i j : Int) : Prop := i.natAbs.log2 + j.natAbs.log2 < 100000000
theorem CMulB.ok {i j : Int} (h : CMulB i j) : IntMulOk i j := by
  have b : ∀ x : Int, Builtin.Int.intBits x ≤ x.natAbs.log2 + 1 := fun x => by
    unfold Builtin.Int.intBits
    split <;> omega
  have h1 := b i
  have h2 := b j
  have h3 : i.natAbs.log2 + j.natAbs.log2 < 100000000 := h
  have e : bitsLine = 134217728 := by decide
  unfold IntMulOk
  intro z
  rw [Bool.and_eq_true] at z
  have z2 := z.2
  unfold Builtin.Int.intTooBig at z2
  have z3 := of_decide_eq_true z2
  rw [e] at z3
  omega
end
end Hg
set_option maxHeartbeats 4000000
namespace Hg
open PySem PySem.Spec PyProof.Rows L2
/-! ### what the lattice functions promise -/
abbrev iV (l : List Int) : List V := l.map V.int
def sm8 (B : Nat) : Prop := B.log2 < 40000000
def RowV (H : Hp) (sa : Addr) (v : V) : Option (List Int) → Prop
  | none => v = .non
  | some l => ∃ a, v = .ref a ∧ a ≠ sa ∧ H a = some (.lst (iV l))
structure StAt (H : Hp) (sa : Addr) (vs : List V) (st : Hn.Steps) : Prop where
  at_ : H sa = some (.lst vs)
  len : vs.length = st.length
  row : ∀ (i : Nat) (v : V) (x : Option (List Int)), vs[i]? = some v → st[i]? = some x → RowV H sa v x
theorem RowV.ex {H H' : Hp} {sa : Addr} {v : V} {x : Option (List Int)} (e : Ex H H') (h : RowV H sa v x) : RowV H' sa v x := by
  cases x with
  | none => exact h
  | some l => obtain ⟨a, h1, h2, h3⟩ := h; exact ⟨a, h1, h2, e _ _ h3⟩
theorem StAt.ex {H H' : Hp} {sa : Addr} {vs : List V} {st : Hn.Steps} (e : Ex H H') (h : StAt H sa vs st) : StAt H' sa vs st := ⟨e _ _ h.at_, h.len, fun i v x h1 h2 => (h.row i v x h1 h2).ex e⟩
theorem StAt.get {H : Hp} {sa : Addr} {vs : List V} {st : Hn.Steps} (h : StAt H sa vs st) {i : Nat} (hi : i < st.length) : ∃ v, vs[i]? = some v ∧ st[i]? = some st[i] ∧ RowV H sa v st[i] := by
  have hv : i < vs.length := by rw [h.len]; exact hi
  have e1 : vs[i]? = some vs[i] := List.getElem?_eq_getElem hv
  have e2 : st[i]? = some st[i] := List.getElem?_eq_getElem hi
  exact ⟨vs[i], e1, e2, h.row i _ _ e1 e2⟩
theorem StAt.set {H : Hp} {sa : Addr} {vs : List V} {st : Hn.Steps} (h : StAt H sa vs st) {c : Nat} {a : Addr} {l : List Int} (n : a ≠ sa) (ha : H a = some (.lst (iV l))) : StAt (upd H sa (.lst (vs.set c (.ref a)))) sa (vs.set c (.ref a)) (st.set c (some l)) := by
  refine ⟨upd_same, by rw [List.length_set, List.length_set, h.len], fun i v x h1 h2 => ?_⟩
  have keep : ∀ {b : Addr} {o : HO}, b ≠ sa → H b = some o → upd H sa (.lst (vs.set c (.ref a))) b = some o := fun hb e => (upd_ne hb).trans e
  rw [List.getElem?_set] at h1 h2
  by_cases e : c = i
  · rw [if_pos e] at h1 h2
    split at h1
    · split at h2
      · cases h1
        cases h2
        exact ⟨a, rfl, n, keep n ha⟩
      · cases h2
    · cases h1
  · rw [if_neg e] at h1 h2
    have := h.row i v x h1 h2
    cases x with
    | none => exact this
    | some l' => obtain ⟨b, e1, e2, e3⟩ := this; exact ⟨b, e1, e2, keep e2 e3⟩
/-- all but what lies at sa stays -/
def ExB (sa : Addr) (H H' : Hp) : Prop := ∀ a o, a ≠ sa → H a = some o → H' a = some o
theorem ExB.of {sa : Addr} {H H' : Hp} (e : Ex H H') : ExB sa H H' := fun a o _ h => e a o h
theorem ExB.trans {sa : Addr} {A B C : Hp} (x : ExB sa A B) (y : ExB sa B C) : ExB sa A C := fun a o n h => y a o n (x a o n h)
theorem ExB.put {sa : Addr} {H : Hp} {o : HO} : ExB sa H (upd H sa o) := fun a u n h => (upd_ne n).trans h
/-- the numbers of a lattice with N columns and entries up to M stay small enough -/
def rm (N M : Nat) : Prop := sm8 (Hn.zB N M * (1 + Hn.zB N M) ^ (2 * N + 4))
/-! ### a list of rows is made -/
theorem ExB.ex {D : Addr} {H H' : Hp} (e : ExB D H H') (n : H D = none) : Ex H H' := fun a o h => e a o (fun z => by rw [z, n] at h; cases h) h
theorem ExB.seq {K : PySem.W.Frag} {k : Bool} {sa : Addr} {H H' : Hp} {a : Addr} {xs : List V} (e : ExB sa H H') (n : H sa = none) (h : SqK K k H a xs) : SqK K k H' a xs := by
  have keep : ∀ {o : HO}, H a = some o → H' a = some o := fun z => e _ _ (fun q => by rw [q, n] at z; cases z) z
  have rd : ∀ {u : HO}, Rd H a u → Rd H' a u := fun {u} z => z.elim (fun z => .inl (keep z)) fun ⟨o, z⟩ => .inr ⟨o, keep z⟩
  cases k with
  | true => exact Or.imp rd id h
  | false => exact Or.imp rd id h
/-- rows that are handed in -/
def RowsK (K : PySem.W.Frag) (H : Hp) (xs : List V) (rows : List (List Int)) : Prop := xs.length = rows.length ∧ ∀ (i : Nat) (x : V) (r : List Int), xs[i]? = some x → rows[i]? = some r → ∃ (k : Bool) (a : Addr), x = .ref a ∧ SqK K k H a (iV r)
theorem RowsK.ex {K : PySem.W.Frag} {H H' : Hp} {xs : List V} {rows : List (List Int)} (e : Ex H H') (h : RowsK K H xs rows) : RowsK K H' xs rows :=
  ⟨h.1, fun i x r h1 h2 => by obtain ⟨k, a, e1, e2⟩ := h.2 i x r h1 h2; exact ⟨k, a, e1, e.seq e2⟩⟩
end Hg
namespace Hn
theorem BR.congr {N M : Nat} {R R' : Vc → Prop} {st : Steps} (b : BR N M R st) (h : ∀ v, R v ↔ R' v) : BR N M R' st := by
  have : R = R' := funext fun v => propext (h v)
  exact this ▸ b
theorem BR.empty {N M : Nat} : BR N M (fun _ => False) (List.replicate N none) := by
  have no : ∀ {c : Nat} {l : List Int}, (List.replicate N (none : Option (List Int)))[c]? ≠ some (some l) := fun {c l} h => by
    have := List.mem_of_getElem? h
    have := List.eq_of_mem_replicate this
    cases this
  refine ⟨⟨List.length_replicate, fun c l h => (no h).elim, fun c l j h => (no h).elim, fun c l h => (no h).elim⟩, fun v => ⟨fun h => h.trans fun x hx => hx.elim, fun h => h.trans fun x ⟨c, l, hc, _⟩ => (no hc).elim⟩, fun j l h => (no h).elim, fun u h => h.elim⟩
end Hn
namespace Hn
/-! ### the law's way to a basis -/
structure BI (n : Nat) (cs : List Nat) (Z : Nat) (R : List (List Int)) (i k : Nat) : Prop where
  e : EchR n cs R
  red : ∀ (h j c : Nat) (r r' : List Int), h < j → (j < i ∨ (j = i ∧ h < k)) → cs[j]? = some c → R[h]? = some r → R[j]? = some r' → 0 ≤ fv r c ∧ fv r c < fv r' c
  raw : ∀ (j : Nat) (r : List Int), i ≤ j → R[j]? = some r → bnd Z (fv r)
  low : ∀ (j : Nat) (r : List Int), k ≤ j → R[j]? = some r → bnd (Z * (1 + Z) ^ i) (fv r)
  all : ∀ (j : Nat) (r : List Int), R[j]? = some r → bnd (Z * (1 + Z) ^ (i + 1)) (fv r)
theorem BI.next {n Z : Nat} {cs : List Nat} {R : List (List Int)} {i : Nat} (b : BI n cs Z R i i) : BI n cs Z R (i + 1) 0 :=
  ⟨b.e, fun h j c r r' h1 h2 h3 h4 h5 => b.red h j c r r' h1 (by omega) h3 h4 h5, fun j r h1 h2 => b.raw j r (by omega) h2, fun j r _ h => b.all j r h,
    fun j r h => bnd_mono (Nat.mul_le_mul_left _ (Nat.pow_le_pow_right (by omega) (by omega))) (b.all j r h)⟩
theorem BI.hnf {n Z : Nat} {cs : List Nat} {R : List (List Int)} {i : Nat} (b : BI n cs Z R i 0) (h : R.length ≤ i) : Hnf n (Sp (RL R)) R :=
  b.e.hnf fun h' j c r r' h1 h2 h3 h4 => b.red h' j c r r' h1 (.inl (by have := (List.getElem?_eq_some_iff.mp h4).1; omega)) h2 h3 h4
theorem asc_lt {cs : List Nat} (h : cs.Pairwise (· < ·)) {i j a b : Nat} (hij : i < j) (ha : cs[i]? = some a) (hb : cs[j]? = some b) : a < b := by
  have hi := (List.getElem?_eq_some_iff.mp ha).1
  have hj := (List.getElem?_eq_some_iff.mp hb).1
  have := List.pairwise_iff_getElem.mp h i j hi hj hij
  rw [List.getElem?_eq_getElem hi] at ha
  rw [List.getElem?_eq_getElem hj] at hb
  cases ha
  cases hb
  exact this
theorem BI.step {n Z : Nat} {cs : List Nat} {R : List (List Int)} {i k c : Nat} {rh rl : List Int} (b : BI n cs Z R i k) (hk : k < i) (hc : cs[i]? = some c) (hh : R[k]? = some rh) (hl : R[i]? = some rl) : BI n cs Z (R.set k (plusL (0 - fv rh c / fv rl c) rl rh)) i (k + 1) := by
  obtain ⟨l1, l2, l3⟩ := b.e.row i c rl hc hl
  have kl := (List.getElem?_eq_some_iff.mp hh).1
  have kcl : k < cs.length := by rw [b.e.len]; exact kl
  have hck : cs[k]? = some cs[k] := List.getElem?_eq_getElem kcl
  generalize cs[k] = ck at hck
  obtain ⟨h1, h2, h3⟩ := b.e.row k ck rh hck hh
  have ckc : ck < c := asc_lt b.e.asc hk hck hc
  have hll : rl.length = rh.length := by rw [l1, h1]
  generalize hf : (0 - fv rh c / fv rl c) = f
  have fb : f.natAbs ≤ Z * (1 + Z) ^ i := by
    have a := b.low k rh (Nat.le_refl k) hh c
    have := Int.natAbs_ediv_le_natAbs (fv rh c) (fv rl c)
    omega
  have lz := b.raw i rl (Nat.le_refl i) hl
  have newb : bnd (Z * (1 + Z) ^ (i + 1)) (fv (plusL f rl rh)) := by
    refine bnd_mono ?_ (bnd_plus hll fb lz (b.low k rh (Nat.le_refl k) hh))
    rw [Nat.pow_succ, ← Nat.mul_assoc, Nat.mul_add, Nat.mul_one]
    omega
  have newr : ∀ j, fv (plusL f rl rh) j = f * fv rl j + fv rh j := fv_plus hll
  have at_ : ∀ (j : Nat) (r : List Int), (R.set k (plusL f rl rh))[j]? = some r → (j = k ∧ r = plusL f rl rh) ∨ (j ≠ k ∧ R[j]? = some r) := fun j r h => by
    rw [List.getElem?_set] at h
    by_cases e : k = j
    · rw [if_pos e, if_pos kl] at h; cases h; exact .inl ⟨e.symm, rfl⟩
    · rw [if_neg e] at h; exact .inr ⟨Ne.symm e, h⟩
  have piv : ∀ (j c' : Nat) (r r0 : List Int), cs[j]? = some c' → (R.set k (plusL f rl rh))[j]? = some r → R[j]? = some r0 → fv r c' = fv r0 c' := fun j c' r r0 g1 g2 g3 => by
    rcases at_ j r g2 with ⟨rfl, rfl⟩ | ⟨_, g⟩
    · rw [hh] at g3
      cases g3
      rw [hck] at g1
      cases g1
      rw [newr, l2 _ ckc]; omega
    · rw [g] at g3; cases g3; rfl
  refine ⟨⟨by rw [List.length_set]; exact b.e.len, b.e.asc, b.e.lt, fun j c' r g1 g2 => ?_⟩, fun h j c' r r' g1 g2 g3 g4 g5 => ?_, fun j r g1 g2 => ?_, fun j r g1 g2 => ?_, fun j r g2 => ?_⟩
  · rcases at_ j r g2 with ⟨rfl, rfl⟩ | ⟨_, g⟩
    · rw [hck] at g1
      cases g1
      refine ⟨by rw [len_plus hll, h1], fun x hx => ?_, ?_⟩
      · rw [newr, h2 x hx, l2 x (by omega)]; simp
      · rw [newr, l2 _ ckc]; omega
    · exact b.e.row j c' r g1 g
  · have hr' : ∃ r0, R[j]? = some r0 := ⟨_, List.getElem?_eq_getElem (by have := (List.getElem?_eq_some_iff.mp g5).1; rwa [List.length_set] at this)⟩
    obtain ⟨r0, hr0⟩ := hr'
    have ep := piv j c' r' r0 g3 g5 hr0
    rw [ep]
    rcases at_ h r g4 with ⟨rfl, rfl⟩ | ⟨ne, g⟩
    · rcases g2 with g2 | ⟨rfl, _⟩
      · have old := b.red h j c' rh r0 g1 (.inl g2) g3 hh hr0
        have : c' < c := asc_lt b.e.asc g2 g3 hc
        rw [newr, l2 c' this]
        omega
      · rw [hc] at g3
        cases g3
        rw [hl] at hr0
        cases hr0
        rw [newr, ← hf]
        have a1 := Int.emod_nonneg (fv rh c) (b := fv rl c) (by omega)
        have a2 := Int.emod_lt_of_pos (fv rh c) l3
        have a3 : (0 - fv rh c / fv rl c) * fv rl c + fv rh c = fv rh c % fv rl c := by
          have := Int.mul_ediv_add_emod (fv rh c) (fv rl c)
          grind
        omega
    · exact b.red h j c' r r0 g1 (by omega) g3 g hr0
  · rcases at_ j r g2 with ⟨rfl, rfl⟩ | ⟨_, g⟩
    · omega
    · exact b.raw j r g1 g
  · rcases at_ j r g2 with ⟨rfl, rfl⟩ | ⟨_, g⟩
    · omega
    · exact b.low j r (by omega) g
  · rcases at_ j r g2 with ⟨rfl, rfl⟩ | ⟨_, g⟩
    · exact newb
    · exact b.all j r g
end Hn
namespace Hn
/-! ### another lattice -/
theorem EchR.erase {n : Nat} {cs : List Nat} {R : List (List Int)} (e : EchR n cs R) (k : Nat) : EchR n (cs.eraseIdx k) (R.eraseIdx k) := by
  refine ⟨by rw [List.length_eraseIdx, List.length_eraseIdx, e.len], e.asc.sublist (List.eraseIdx_sublist cs k), fun c hc => e.lt c ((List.eraseIdx_sublist cs k).subset hc), fun i c r h1 h2 => ?_⟩
  rw [List.getElem?_eraseIdx] at h1 h2
  split at h1
  · rename_i hi
    rw [if_pos hi] at h2
    exact e.row i c r h1 h2
  · rename_i hi
    rw [if_neg hi] at h2
    exact e.row _ c r h1 h2
end Hn
set_option maxHeartbeats 4000000
namespace Hg
open PySem PySem.Spec PyProof.Rows L2
/-! ### what the lattice laws' own functions promise -/
def rowD (k : Bool) (r : List Int) : PyData := if k then .tuple (r.map PyData.int) else .list (r.map PyData.int)
theorem RowsK.tail {K : PySem.W.Frag} {H : Hp} {x : V} {xs : List V} {r : List Int} {rows : List (List Int)} (h : RowsK K H (x :: xs) (r :: rows)) : (∃ k a, x = .ref a ∧ SqK K k H a (iV r)) ∧ RowsK K H xs rows :=
  ⟨h.2 0 x r rfl rfl, ⟨by have := h.1; simpa using this, fun i y s h1 h2 => h.2 (i + 1) y s (by simpa using h1) (by simpa using h2)⟩⟩
theorem RowsK.dp {K : PySem.W.Frag} {H : Hp} : ∀ {xs : List V} {rows : List (List Int)}, RowsK K H xs rows → ∃ ds, DpAll K H xs ds ∧ ∃ ks : List Bool, ds = List.zipWith rowD ks rows ∧ ks.length = rows.length
  | [], [], _ => ⟨[], .nil, [], rfl, rfl⟩
  | [], r :: rows, h => by have := h.1; simp at this
  | x :: xs, [], h => by have := h.1; simp at this
  | x :: xs, r :: rows, h => by
    obtain ⟨⟨k, a, rfl, ha⟩, t⟩ := h.tail
    obtain ⟨ds, hd, ks, e, hl⟩ := t.dp
    refine ⟨rowD k r :: ds, .cons ?_ hd, k :: ks, by rw [e]; rfl, by simp [hl]⟩
    cases k with
    | true => exact dp_t ha
    | false => exact dp_l ha
theorem RowsIn.len {H : Hp} {as : List Addr} {R : List (List Int)} (h : RowsIn H as R) : as.length = R.length := h.1
theorem RowsIn.take {H : Hp} {as : List Addr} {R : List (List Int)} (h : RowsIn H as R) (k : Nat) : RowsIn H (as.take k) (R.take k) := by
  refine ⟨by rw [List.length_take, List.length_take, h.1], fun i a r h1 h2 => ?_⟩
  rw [List.getElem?_take] at h1 h2
  split at h1
  · rename_i hi
    rw [if_pos hi] at h2
    exact h.2 i a r h1 h2
  · cases h1
theorem RowsIn.drop {H : Hp} {as : List Addr} {R : List (List Int)} (h : RowsIn H as R) (k : Nat) : RowsIn H (as.drop k) (R.drop k) := by
  refine ⟨by rw [List.length_drop, List.length_drop, h.1], fun i a r h1 h2 => ?_⟩
  rw [List.getElem?_drop] at h1 h2
  exact h.2 _ a r h1 h2
theorem RowsIn.one {H : Hp} {a : Addr} {r : List Int} (h : H a = some (.tup (iV r))) : RowsIn H [a] [r] := by
  have := RowsIn.nil.snoc (H := H) h
  exact this
theorem RowsIn.k {K : PySem.W.Frag} {H : Hp} {as : List Addr} {R : List (List Int)} (h : RowsIn H as R) : RowsK K H (as.map V.ref) R := by
  refine ⟨by rw [List.length_map, h.1], fun i x r h1 h2 => ?_⟩
  rw [List.getElem?_map] at h1
  obtain ⟨a, ha, e⟩ := Option.map_eq_some_iff.mp h1
  exact ⟨true, a, e.symm, SqK.tup (h.2 i a r ha h2)⟩
end Hg
set_option maxHeartbeats 4000000
namespace Hg
open PySem PySem.Spec PyProof.Rows L2
/-! ### rows compared and shown -/
theorem dp_rowsT {K : PySem.W.Frag} {H : Hp} {p : Addr} {as : List Addr} {R : List (List Int)} (h : SqT K H p (as.map V.ref)) (r : RowsIn H as R) : Dp K H (.ref p) (.tuple (R.map fun r => PyData.tuple (r.map PyData.int))) := .tup h (dp_rows as R r)
structure Shw (d : PyData) (n : Nat) : Prop where
  s : d.showable = true
  h : d.hasDict = false
  l : d.shown.length ≤ n
end Hg
set_option maxHeartbeats 4000000
namespace Hn
theorem zE_mono {N N' x x' : Nat} (h : N ≤ N') (g : x ≤ x') : zE N x ≤ zE N' x' := by
  unfold zE
  have a : x * N ≤ x' * N' := Nat.mul_le_mul g h
  have b : x * (N + 1) ≤ x' * (N' + 1) := Nat.mul_le_mul g (by omega)
  have c : (x * (N + 1) + 1) * (N + 1) ≤ (x' * (N' + 1) + 1) * (N' + 1) := Nat.mul_le_mul (by omega) (by omega)
  omega
end Hn
namespace Hg
open PySem PySem.Spec PyProof.Rows L2
/-! ### listed things: the thing itself or new lists -/
def LstN (G G' : Hp) (p : Addr) (rows : List (List Int)) : Prop := ∃ ys : List V, G p = none ∧ G' p = some (.lst ys) ∧ ys.length = rows.length ∧ ∀ (i : Nat) (y : V) (r : List Int), ys[i]? = some y → rows[i]? = some r → ∃ b, y = .ref b ∧ G b = none ∧ G' b = some (.lst (iV r))
def sp_l_listedN (K : PySem.W.Frag) : Sp := fun vs H Q _ => ∃ (s q : Addr) (B : Nat) (G : Hp) (k : Bool) (a : Addr) (xs : List V) (rows : List (List Int)), vs = [.ref s, .ref a] ∧ Ov s q B G H ∧ B < 900000 ∧ SqK K k G a xs ∧ RowsK K G xs rows ∧ rows.length ≤ 1000 ∧ (∀ r ∈ rows, r.length ≤ 1000) ∧
  ∀ (G' H' : Hp) (p : Addr), Ex G G' → Ov s q (B + 1) G' H' → (p = a ∨ LstN G G' p rows) → Q (.ref p) H'
def LstD (D : Addr) (G : Hp) (p : Addr) (rows : List (List Int)) : Prop := ∃ ys : List V, p ≠ D ∧ G p = some (.lst ys) ∧ ys.length = rows.length ∧ ∀ (i : Nat) (y : V) (r : List Int), ys[i]? = some y → rows[i]? = some r → ∃ b, y = .ref b ∧ b ≠ D ∧ G b = some (.lst (iV r))
theorem LstD.ex {D : Addr} {G G' : Hp} {p : Addr} {rows : List (List Int)} (h : LstD D G p rows) (e : Ex G G') : LstD D G' p rows := by
  obtain ⟨ys, h1, h2, h3, h4⟩ := h
  exact ⟨ys, h1, e _ _ h2, h3, fun i y r g1 g2 => by obtain ⟨b, b1, b2, b3⟩ := h4 i y r g1 g2; exact ⟨b, b1, b2, e _ _ b3⟩⟩
theorem LstD.up {D : Addr} {G : Hp} {p : Addr} {rows : List (List Int)} {o : HO} (h : LstD D G p rows) : LstD D (upd G D o) p rows := by
  obtain ⟨ys, h1, h2, h3, h4⟩ := h
  exact ⟨ys, h1, (upd_ne h1).trans h2, h3, fun i y r g1 g2 => by obtain ⟨b, b1, b2, b3⟩ := h4 i y r g1 g2; exact ⟨b, b1, b2, (upd_ne b2).trans b3⟩⟩
/-! ### what is shown of things in one another -/
end Hg
namespace Hg
end Hg
namespace Hn
/-! ### coordinates in a basis, one by one -/
def colz : Nat → Steps → List Nat
  | _, [] => []
  | k, none :: t => colz (k + 1) t
  | k, some _ :: t => k :: colz (k + 1) t
theorem colz_ok (P : Nat → List Int → Prop) : ∀ (tl : Steps) (k : Nat), (∀ (c : Nat) (l : List Int), tl[c]? = some (some l) → P (k + c) l) →
    (colz k tl).length = (tl.filterMap id).length ∧ (colz k tl).Pairwise (· < ·) ∧ (∀ c ∈ colz k tl, k ≤ c ∧ c < k + tl.length) ∧ ∀ (i c : Nat) (r : List Int), (colz k tl)[i]? = some c → (tl.filterMap id)[i]? = some r → P c r
  | [], k, h => by simp [colz]
  | none :: t, k, h => by
    obtain ⟨h1, h2, h3, h4⟩ := colz_ok P t (k + 1) fun c l hc => by
      have := h (c + 1) l (by simpa using hc)
      rw [show k + 1 + c = k + (c + 1) by omega]
      exact this
    refine ⟨by simpa [colz] using h1, by simpa [colz] using h2, fun c hc => ?_, fun i c r e1 e2 => ?_⟩
    · have := h3 c (by simpa [colz] using hc)
      simp only [List.length_cons]
      omega
    · exact h4 i c r (by simpa [colz] using e1) (by simpa using e2)
  | some l :: t, k, h => by
    obtain ⟨h1, h2, h3, h4⟩ := colz_ok P t (k + 1) fun c l hc => by
      have := h (c + 1) l (by simpa using hc)
      rw [show k + 1 + c = k + (c + 1) by omega]
      exact this
    refine ⟨by simp [colz, h1], ?_, fun c hc => ?_, fun i c r e1 e2 => ?_⟩
    · show (k :: colz (k + 1) t).Pairwise (· < ·)
      exact List.pairwise_cons.mpr ⟨fun c hc => by have := h3 c hc; omega, h2⟩
    · have hc : c ∈ k :: colz (k + 1) t := hc
      simp only [List.length_cons]
      rcases List.mem_cons.mp hc with rfl | hc
      · omega
      · have := h3 c hc
        omega
    · have e1 : (k :: colz (k + 1) t)[i]? = some c := e1
      have e2 : (l :: t.filterMap id)[i]? = some r := e2
      cases i with
      | zero =>
        cases e1
        cases e2
        exact h 0 l rfl
      | succ i => exact h4 i c r (by simpa using e1) (by simpa using e2)
theorem Hnf.ech {n : Nat} {V : Vc → Prop} {B : List (List Int)} (hB : Hnf n V B) : ∃ cs, EchR n cs B := by
  obtain ⟨tl, e, _, _, rfl⟩ := hB
  obtain ⟨h1, h2, h3, h4⟩ := colz_ok (fun c l => l.length = n ∧ (∀ j, j < c → fv l j = 0) ∧ 0 < fv l c) tl 0 fun c l hc => by
    rw [Nat.zero_add]
    exact ⟨e.row c l hc, fun j hj => e.lo c l j hc hj, e.piv c l hc⟩
  exact ⟨colz 0 tl, h1, h2, fun c hc => by have := h3 c hc; rw [e.len] at this; omega, h4⟩
theorem Sp.head {r : List Int} {T : List (List Int)} {u : Vc} (h : Sp (RL (r :: T)) u) : ∃ (k : Int) (w : Vc), Sp (RL T) w ∧ ∀ j, u j = k * fv r j + w j := by
  induction h with
  | zero => exact ⟨0, _, .zero, fun j => by simp⟩
  | @add x v k hx _ ih =>
    obtain ⟨k', w, hw, e⟩ := ih
    obtain ⟨y, hy, rfl⟩ := hx
    rcases List.mem_cons.mp hy with rfl | hy
    · exact ⟨k + k', w, hw, fun j => by have := e j; grind⟩
    · exact ⟨k', _, .add k ⟨y, hy, rfl⟩ hw, fun j => by have := e j; grind⟩
structure Crd (n : Nat) (R : List (List Int)) (v : List Int) (B i : Nat) (rest fs : List Int) : Prop where
  len : rest.length = n
  fl : fs.length = i
  dec : ∀ j, fv v j = fv rest j + sm i fun s => fs.getD s 0 * fv (R.getD s []) j
  inn : Sp (RL R) (fv v) → Sp (RL (R.drop i)) (fv rest)
  bd : bnd (B * (1 + B) ^ i) (fv rest)
theorem Crd.q_le {n : Nat} {R : List (List Int)} {v rest fs : List Int} {B i c : Nat} {r : List Int} (h : Crd n R v B i rest fs) : (fv rest c / fv r c).natAbs ≤ B * (1 + B) ^ i := by
  have := Int.natAbs_ediv_le_natAbs (fv rest c) (fv r c)
  have := h.bd c
  omega
theorem Crd.step {n : Nat} {cs : List Nat} {R : List (List Int)} {v rest fs : List Int} {B i c : Nat} {r : List Int} (e : EchR n cs R) (h : Crd n R v B i rest fs) (hc : cs[i]? = some c) (hr : R[i]? = some r) (hb : bnd B (fv r)) :
    Crd n R v B (i + 1) (lessL rest (fv rest c / fv r c) r) (fs ++ [fv rest c / fv r c]) := by
  obtain ⟨r1, r2, r3⟩ := e.row i c r hc hr
  have hl : rest.length = r.length := by rw [h.len, r1]
  have ql := h.q_le (c := c) (r := r)
  refine ⟨by rw [len_less hl, h.len], by simp [h.fl], fun j => ?_, fun hv => ?_, fun j => ?_⟩
  · rw [fv_less hl, h.dec j]
    show _ = _ + ((sm i fun s => (fs ++ [fv rest c / fv r c]).getD s 0 * fv (R.getD s []) j) + (fs ++ [fv rest c / fv r c]).getD i 0 * fv (R.getD i []) j)
    have e1 : (fs ++ [fv rest c / fv r c]).getD i 0 = fv rest c / fv r c := by
      rw [List.getD_eq_getElem?_getD, List.getElem?_append_right (by rw [h.fl]; exact Nat.le_refl _), h.fl, Nat.sub_self]; rfl
    have e2 : R.getD i [] = r := by rw [List.getD_eq_getElem?_getD, hr]; rfl
    have e3 : (sm i fun s => (fs ++ [fv rest c / fv r c]).getD s 0 * fv (R.getD s []) j) = sm i fun s => fs.getD s 0 * fv (R.getD s []) j := sm_congr fun s hs => by
      rw [List.getD_eq_getElem?_getD, List.getElem?_append_left (by rw [h.fl]; exact hs), ← List.getD_eq_getElem?_getD]
    rw [e1, e2, e3]
    grind
  · have hd : R.drop i = r :: R.drop (i + 1) := by
      have hi := (List.getElem?_eq_some_iff.mp hr).1
      rw [List.drop_eq_getElem_cons hi]
      congr 1
      exact (List.getElem?_eq_some_iff.mp hr).2
    have := h.inn hv
    rw [hd] at this
    obtain ⟨k, w, hw, ew⟩ := this.head
    have wc : w c = 0 := hw.at0 fun u hu => by
      obtain ⟨y, hy, rfl⟩ := hu
      obtain ⟨m, hm⟩ := List.mem_iff_getElem?.mp hy
      rw [List.getElem?_drop] at hm
      obtain ⟨c', hc'⟩ : ∃ c', cs[i + 1 + m]? = some c' := ⟨_, List.getElem?_eq_getElem (by rw [e.len]; exact (List.getElem?_eq_some_iff.mp hm).1)⟩
      have lt := asc_lt e.asc (show i < i + 1 + m by omega) hc hc'
      exact (e.row _ _ _ hc' hm).2.1 c lt
    have ek : fv rest c / fv r c = k := by
      rw [ew c, wc, Int.add_zero]
      exact Int.mul_ediv_cancel _ (by omega)
    refine hw.cast fun j => ?_
    rw [fv_less hl, ek, ew j]
    omega
  · rw [fv_less hl]
    have a := h.bd j
    have b := hb j
    have m : (fv rest c / fv r c * fv r j).natAbs ≤ B * (1 + B) ^ i * B := by
      rw [Int.natAbs_mul]
      exact Nat.mul_le_mul ql b
    have t : (fv rest j - fv rest c / fv r c * fv r j).natAbs ≤ (fv rest j).natAbs + (fv rest c / fv r c * fv r j).natAbs := by omega
    have p : B * (1 + B) ^ (i + 1) = B * (1 + B) ^ i + B * (1 + B) ^ i * B := by rw [Nat.pow_succ]; grind
    omega
theorem Crd.zero {n : Nat} {R : List (List Int)} {v rest fs : List Int} {B : Nat} (h : Crd n R v B R.length rest fs) (hv : Sp (RL R) (fv v)) (j : Nat) : fv rest j = 0 := by
  have := h.inn hv
  rw [List.drop_length] at this
  exact this.at0 fun u hu => by obtain ⟨y, hy, _⟩ := hu; simp at hy
theorem Crd.mem {n : Nat} {R : List (List Int)} {v rest fs : List Int} {B : Nat} (h : Crd n R v B R.length rest fs) (hz : ∀ j, fv rest j = 0) : Sp (RL R) (fv v) := by
  have := Sp.sum (R := RL R) (T := fun s => fv (R.getD s [])) (fun s => fs.getD s 0) (m := R.length) fun s hs => .of ⟨_, by rw [List.getD_eq_getElem?_getD, List.getElem?_eq_getElem hs]; exact List.getElem_mem hs, rfl⟩
  exact this.cast fun j => by rw [h.dec j, hz j, Int.zero_add]
end Hn
set_option maxHeartbeats 4000000
namespace Hn
/-- a form's value at a vector -/
def dv (n : Nat) (f v : Vc) : Int := sm n fun j => f j * v j
theorem dv_comb {n : Nat} {f u v : Vc} {k : Int} : dv n f (fun j => k * u j + v j) = k * dv n f u + dv n f v := by
  unfold dv
  rw [← sm_mul, ← sm_add]
  exact sm_congr fun i _ => by grind
theorem dvd_span {n : Nat} {f : Vc} {d : Int} {R : Vc → Prop} (h : ∀ u, R u → d ∣ dv n f u) {v : Vc} (hv : Sp R v) : d ∣ dv n f v := by
  induction hv with
  | zero => exact ⟨0, by unfold dv; rw [sm_zero fun i _ => by simp]; simp⟩
  | @add u w k hu _ ih =>
    rw [dv_comb]
    exact Int.dvd_add (Int.dvd_mul_of_dvd_right (h u hu)) ih
/-- the greatest that divides a form's values at some rows -/
def Grn (n : Nat) (f : Vc) (R : List (List Int)) (g : Int) : Prop := 0 ≤ g ∧ ∀ d : Int, d ∣ g ↔ ∀ r ∈ R, d ∣ dv n f (fv r)
theorem Grn.span {n : Nat} {f : Vc} {R : List (List Int)} {g : Int} (h : Grn n f R g) (d : Int) : d ∣ g ↔ ∀ v, Sp (RL R) v → d ∣ dv n f v := by
  rw [h.2]
  exact ⟨fun a v hv => dvd_span (fun u hu => by obtain ⟨r, hr, rfl⟩ := hu; exact a r hr) hv, fun a r hr => a _ (.of ⟨r, hr, rfl⟩)⟩
theorem same_of_dvd {g h : Int} (hg : 0 ≤ g) (hh : 0 ≤ h) (e : ∀ d : Int, d ∣ g ↔ d ∣ h) : g = h := by
  have a := (e g).mp (Int.dvd_refl g)
  have b := (e h).mpr (Int.dvd_refl h)
  have := Nat.dvd_antisymm (Int.natAbs_dvd_natAbs.mpr a) (Int.natAbs_dvd_natAbs.mpr b)
  omega
/-- some columns of a row -/
def prjL (cs : List Nat) (r : List Int) : List Int := cs.map fun c => fv r c
theorem prjL_at {cs : List Nat} {r : List Int} {i c : Nat} (h : cs[i]? = some c) : fv (prjL cs r) i = fv r c := fv_at (by rw [prjL, List.getElem?_map, h]; rfl)
theorem prjL_bnd {cs : List Nat} {r : List Int} {B : Nat} (h : bnd B (fv r)) : bnd B (fv (prjL cs r)) := fun j => by
  by_cases hj : j < cs.length
  · rw [prjL_at (List.getElem?_eq_getElem hj)]
    exact h _
  · rw [fv_out (by simp [prjL]; omega)]
    simp
end Hn
namespace Hg
open PySem PySem.Spec PyProof.Rows L2
/-! ### coordinates, values, grains: what the program's functions promise -/
theorem dvd_gfold {d : Int} (ns : List Int) : d ∣ gfold ns ↔ ∀ x ∈ ns, d ∣ x := by
  have key : ∀ (ns : List Int) (c : Int), d ∣ ns.foldl (fun a b => ((Int.gcd a b : Nat) : Int)) c ↔ d ∣ c ∧ ∀ x ∈ ns, d ∣ x := by
    intro ns
    induction ns with
    | nil => intro c; simp
    | cons x t ih =>
      intro c
      rw [List.foldl_cons, ih]
      have : d ∣ ((Int.gcd c x : Nat) : Int) ↔ d ∣ c ∧ d ∣ x := Int.dvd_coe_gcd_iff
      rw [this]
      simp only [List.mem_cons, forall_eq_or_imp, and_assoc]
  show d ∣ ns.foldl (fun a b => ((Int.gcd a b : Nat) : Int)) 0 ↔ _
  rw [key]
  simp
theorem gfold_nonneg (ns : List Int) : 0 ≤ gfold ns := by
  have key : ∀ (ns : List Int) (c : Int), 0 ≤ c → 0 ≤ ns.foldl (fun a b => ((Int.gcd a b : Nat) : Int)) c := by
    intro ns
    induction ns with
    | nil => intro c h; exact h
    | cons x t ih => intro c h; exact ih _ (Int.natCast_nonneg _)
  exact key ns 0 (Int.le_refl 0)
end Hg
set_option maxHeartbeats 4000000
namespace Hg
open PySem PySem.Spec PyProof.Rows L2
/-! ### any of a list of numbers -/
/-! ### t.index(i) -/
/-! ### rows that comprehensions make -/
theorem RowsK.nil {K : PySem.W.Frag} {H : Hp} : RowsK K H [] [] := ⟨rfl, fun i x r h _ => by simp at h⟩
theorem RowsK.snoc {K : PySem.W.Frag} {H : Hp} {xs : List V} {R : List (List Int)} {k : Bool} {a : Addr} {r : List Int} (h : RowsK K H xs R) (ha : SqK K k H a (iV r)) : RowsK K H (xs ++ [.ref a]) (R ++ [r]) := by
  refine ⟨by simp [h.1], fun i x q h1 h2 => ?_⟩
  by_cases hi : i < xs.length
  · rw [List.getElem?_append_left hi] at h1
    rw [List.getElem?_append_left (by rw [← h.1]; exact hi)] at h2
    exact h.2 i x q h1 h2
  · rw [List.getElem?_append_right (by omega)] at h1
    rw [List.getElem?_append_right (by rw [← h.1]; omega), ← h.1] at h2
    have : i - xs.length = 0 := by have := (List.getElem?_eq_some_iff.mp h1).1; simp at this; omega
    rw [this] at h1 h2
    cases h1
    cases h2
    exact ⟨k, a, rfl, ha⟩
/-- rows that are lists beside the list that holds them -/
def RowsL (D : Addr) (H : Hp) (xs : List V) (R : List (List Int)) : Prop := xs.length = R.length ∧ ∀ (i : Nat) (x : V) (r : List Int), xs[i]? = some x → R[i]? = some r → ∃ b, x = .ref b ∧ b ≠ D ∧ H b = some (.lst (iV r))
theorem RowsL.nil {D : Addr} {H : Hp} : RowsL D H [] [] := ⟨rfl, fun i x r h _ => by simp at h⟩
theorem RowsL.snoc {D : Addr} {H : Hp} {xs : List V} {R : List (List Int)} {a : Addr} {r : List Int} (h : RowsL D H xs R) (n : a ≠ D) (ha : H a = some (.lst (iV r))) : RowsL D H (xs ++ [.ref a]) (R ++ [r]) := by
  refine ⟨by simp [h.1], fun i x q h1 h2 => ?_⟩
  by_cases hi : i < xs.length
  · rw [List.getElem?_append_left hi] at h1
    rw [List.getElem?_append_left (by rw [← h.1]; exact hi)] at h2
    exact h.2 i x q h1 h2
  · rw [List.getElem?_append_right (by omega)] at h1
    rw [List.getElem?_append_right (by rw [← h.1]; omega), ← h.1] at h2
    have : i - xs.length = 0 := by have := (List.getElem?_eq_some_iff.mp h1).1; simp at this; omega
    rw [this] at h1 h2
    cases h1
    cases h2
    exact ⟨a, rfl, n, ha⟩
theorem RowsL.k {K : PySem.W.Frag} {D : Addr} {H : Hp} {xs : List V} {R : List (List Int)} (h : RowsL D H xs R) : RowsK K H xs R := ⟨h.1, fun i x r h1 h2 => by obtain ⟨b, q1, _, q3⟩ := h.2 i x r h1 h2; exact ⟨false, b, q1, SqK.lst q3⟩⟩
theorem take_snoc {α : Type} {R : List α} {i : Nat} {r : α} (h : R[i]? = some r) : R.take (i + 1) = R.take i ++ [r] := by
  rw [List.take_succ, h]; rfl
end Hg
namespace Hn
/-- grains of one lattice that two lists of rows make -/
theorem Grn.same {n m : Nat} {f g : Vc} {R S : List (List Int)} {a b : Int} (ha : Grn n f R a) (hb : Grn m g S b) (h : ∀ d : Int, (∀ r ∈ R, d ∣ dv n f (fv r)) ↔ ∀ r ∈ S, d ∣ dv m g (fv r)) : a = b :=
  same_of_dvd ha.1 hb.1 fun d => by rw [ha.2, hb.2]; exact h d
end Hn
set_option maxHeartbeats 4000000
namespace Hg
open PySem PySem.Spec PyProof.Rows L2
/-! ### lattices within lattices, sums, preimages: promises -/
noncomputable def inB (R : List (List Int)) (r : List Int) : Bool := @decide (Hn.Sp (Hn.RL R) (Hn.fv r)) (Classical.propDecidable _)
end Hg
namespace Hn
/-! ### vectors that a matrix sends into a lattice -/
end Hn
set_option maxHeartbeats 4000000
namespace Hg
open PySem PySem.Spec PyProof.Rows L2
/-- all tuples of so many numbers between two bounds, as the laws list them -/
def cubeL (lo : Int) (n : Nat) : Nat → List (List Int)
  | 0 => [[]]
  | k + 1 => (cubeL lo n k).flatMap fun v => (List.range n).map fun i : Nat => v ++ [lo + (i : Int)]
def extL (lo : Int) (n : Nat) (v : List Int) : List (List Int) := (List.range n).map fun i : Nat => v ++ [lo + (i : Int)]
theorem ext_len {lo : Int} {n : Nat} : ∀ S : List (List Int), (S.flatMap (extL lo n)).length = S.length * n
  | [] => by simp
  | v :: S => by
    rw [List.flatMap_cons, List.length_append, ext_len S, List.length_cons, Nat.succ_mul]
    simp [extL]
    omega
theorem cube_card {lo : Int} {n : Nat} : ∀ k : Nat, (cubeL lo n k).length = n ^ k
  | 0 => rfl
  | k + 1 => by
    show ((cubeL lo n k).flatMap (extL lo n)).length = _
    rw [ext_len, cube_card k, Nat.pow_succ]
end Hg
set_option maxHeartbeats 4000000
namespace Hn
/-! ### images and what leads to them -/
theorem EchR.rlen {n : Nat} {cs : List Nat} {R : List (List Int)} (e : EchR n cs R) : R.length ≤ n := by
  rw [← e.len]
  have key : ∀ (cs : List Nat) (k m : Nat), cs.Pairwise (· < ·) → (∀ c ∈ cs, k ≤ c ∧ c < k + m) → cs.length ≤ m := by
    intro cs
    induction cs with
    | nil => intro k m _ _; exact Nat.zero_le _
    | cons c t ih =>
      intro k m h1 h2
      obtain ⟨a, b⟩ := List.pairwise_cons.mp h1
      have c1 := h2 c (by simp)
      have := ih (c + 1) (k + m - (c + 1)) b fun d hd => ⟨a d hd, by have := h2 d (by simp [hd]); have := a d hd; omega⟩
      simp only [List.length_cons]
      omega
  exact key cs 0 n e.asc fun c hc => ⟨Nat.zero_le _, by have := e.lt c hc; omega⟩
end Hn
namespace Hg
open PySem PySem.Spec PyProof.Rows L2
theorem RowsIn.ref {H : Hp} {as : List Addr} {R : List (List Int)} (h : RowsIn H as R) (i : Nat) (x : V) (r : List Int) (hx : (as.map V.ref)[i]? = some x) (hr : R[i]? = some r) : ∃ ra, x = .ref ra ∧ H ra = some (.tup (iV r)) := by
  rw [List.getElem?_map] at hx
  obtain ⟨a, ha, rfl⟩ := Option.map_eq_some_iff.mp hx
  exact ⟨a, rfl, h.2 i a r ha hr⟩
end Hg
set_option maxHeartbeats 4000000
namespace Hg
open PySem PySem.Spec PyProof.Rows L2
/-! ### {k: v} whose key is a tuple -/
/-! ### what two lattices have in common -/
end Hg
namespace Hn
end Hn
set_option maxHeartbeats 4000000
namespace Hn
/-! ### all residues of a lattice's vectors, as a search finds them -/
def stepL (b : Nat) (v r : List Int) : List Int := List.zipWith (fun x y => (x + y) % (b : Int)) v r
def inC (n b : Nat) (v : List Int) : Prop := v.length = n ∧ ∀ x ∈ v, 0 ≤ x ∧ x < (b : Int)
def Clo (n b : Nat) (R : List (List Int)) (v : List Int) : Prop := inC n b v ∧ ∃ u, Sp (RL R) u ∧ ∀ j, j < n → fv v j = u j % (b : Int)
theorem inC.at_ {n b : Nat} {v : List Int} (h : inC n b v) {j : Nat} (hj : j < n) : 0 ≤ fv v j ∧ fv v j < (b : Int) := by
  have hl : j < v.length := by rw [h.1]; exact hj
  have : v[j]? = some v[j] := List.getElem?_eq_getElem hl
  rw [fv_at this]
  exact h.2 _ (List.getElem_mem _)
theorem step_at {b : Nat} {v r : List Int} {n j : Nat} (hv : v.length = n) (hr : r.length = n) (hj : j < n) : fv (stepL b v r) j = (fv v j + fv r j) % (b : Int) := by
  refine fv_at ?_
  unfold stepL
  rw [List.getElem?_zipWith, fv_get (show j < v.length by omega), fv_get (show j < r.length by omega)]
/-- closed under every step: all residues are in it -/
theorem clo_all {b n : Nat} {R S : List (List Int)} (hb : 0 < b) (hl : ∀ r ∈ R, r.length = n) (hS : ∀ v ∈ S, inC n b v) (h0 : List.replicate n 0 ∈ S) (hc : ∀ v ∈ S, ∀ r ∈ R, stepL b v r ∈ S) {v : List Int} (h : Clo n b R v) : v ∈ S := by
  have ext : ∀ {v w : List Int}, inC n b v → inC n b w → (∀ j, j < n → fv v j = fv w j) → v = w := fun h1 h2 e => fv_ext (by rw [h1.1, h2.1]) fun j => by
    by_cases hj : j < n
    · exact e j hj
    · rw [fv_out (by rw [h1.1]; omega), fv_out (by rw [h2.1]; omega)]
  have many : ∀ (r : List Int), r ∈ R → ∀ (t : Nat) (v : List Int), v ∈ S → ∃ w ∈ S, ∀ j, j < n → fv w j = (fv v j + t * fv r j) % (b : Int) := by
    intro r hr t
    induction t with
    | zero => exact fun v hv => ⟨v, hv, fun j hj => by
        obtain ⟨a1, a2⟩ := (hS v hv).at_ hj
        rw [Int.emod_eq_of_lt (by simpa using a1) (by simpa using a2)]; simp⟩
    | succ t ih =>
      intro v hv
      obtain ⟨w, hw, e⟩ := ih v hv
      refine ⟨stepL b w r, hc w hw r hr, fun j hj => ?_⟩
      rw [step_at (hS w hw).1 (hl r hr) hj, e j hj, Int.emod_add_emod]
      congr 1
      have : ((t + 1 : Nat) : Int) = (t : Int) + 1 := by omega
      rw [this]
      grind
  obtain ⟨hv, u, hu, e⟩ := h
  have key : ∀ u, Sp (RL R) u → ∃ w ∈ S, ∀ j, j < n → fv w j = u j % (b : Int) := by
    intro u hu
    induction hu with
    | zero => exact ⟨_, h0, fun j hj => by rw [fv_at (x := 0) (by rw [List.getElem?_replicate, if_pos hj])]; simp⟩
    | @add x y k hx _ ih =>
      obtain ⟨r, hr, rfl⟩ := hx
      obtain ⟨w, hw, e⟩ := ih
      obtain ⟨t, ht⟩ : ∃ t : Nat, (t : Int) = k % (b : Int) := ⟨(k % (b : Int)).toNat, by have := Int.emod_nonneg k (show (b : Int) ≠ 0 by omega); omega⟩
      obtain ⟨w2, hw2, e2⟩ := many r hr t w hw
      refine ⟨w2, hw2, fun j hj => ?_⟩
      rw [e2 j hj, e j hj, ht, Int.emod_add_emod]
      show (y j + k % ↑b * fv r j) % ↑b = (k * fv r j + y j) % ↑b
      rw [Int.add_comm (k * fv r j), Int.add_emod, Int.mul_emod, Int.emod_emod, ← Int.mul_emod, ← Int.add_emod]
  obtain ⟨w, hw, e2⟩ := key u hu
  rw [ext hv (hS w hw) fun j hj => by rw [e j hj, e2 j hj]]
  exact hw
theorem nd_len {α : Type} [DecidableEq α] : ∀ {S C : List α}, S.Nodup → (∀ v ∈ S, v ∈ C) → S.length ≤ C.length
  | [], C, _, _ => Nat.zero_le _
  | x :: S, C, nd, h => by
    obtain ⟨h1, h2⟩ := List.nodup_cons.mp nd
    have hx := h x (by simp)
    have := nd_len (C := C.erase x) h2 fun v hv => (List.mem_erase_of_ne (fun e : v = x => h1 (e ▸ hv))).mpr (h v (by simp [hv]))
    rw [List.length_erase_of_mem hx] at this
    have : 0 < C.length := List.length_pos_of_mem hx
    simp only [List.length_cons]
    omega
structure CI (n b : Nat) (R S Q : List (List Int)) (P : List Int → Prop) : Prop where
  mem : ∀ v ∈ S, Clo n b R v
  nd : S.Nodup
  sub : ∀ q ∈ Q, q ∈ S
  zero : List.replicate n 0 ∈ S
  cl : ∀ v ∈ S, v ∈ Q ∨ P v ∨ ∀ r ∈ R, stepL b v r ∈ S
theorem CI.more {n b : Nat} {R S Q : List (List Int)} {P : List Int → Prop} {x : List Int} (h : CI n b R S Q P) (hx : Clo n b R x) (n0 : x ∉ S) : CI n b R (S ++ [x]) (Q ++ [x]) P := by
  refine ⟨fun v hv => (List.mem_append.mp hv).elim (h.mem v) fun e => List.mem_singleton.mp e ▸ hx, ?_, fun q hq => ?_, by simp [h.zero], fun v hv => ?_⟩
  · refine List.nodup_append.mpr ⟨h.nd, by simp, fun a ha c hc e => n0 ?_⟩
    rw [← List.mem_singleton.mp hc, ← e]; exact ha
  · rcases List.mem_append.mp hq with h1 | h1
    · simp [h.sub q h1]
    · simp [List.mem_singleton.mp h1]
  · rcases List.mem_append.mp hv with h1 | h1
    · rcases h.cl v h1 with h2 | h2 | h2
      · exact .inl (by simp [h2])
      · exact .inr (.inl h2)
      · exact .inr (.inr fun r hr => by simp [h2 r hr])
    · exact .inl (by simp [List.mem_singleton.mp h1])
theorem CI.all {n b : Nat} {R S : List (List Int)} (hb : 0 < b) (hl : ∀ r ∈ R, r.length = n) (h : CI n b R S [] fun _ => False) (v : List Int) : v ∈ S ↔ Clo n b R v :=
  ⟨h.mem v, clo_all hb hl (fun v hv => (h.mem v hv).1) h.zero fun v hv => (h.cl v hv).elim (fun e => by simp at e) fun e => e.elim (fun e => e.elim) id⟩
end Hn
namespace Hg
open PySem PySem.Spec PyProof.Rows L2
theorem mem_cube {b : Nat} : ∀ {n : Nat} {v : List Int}, Hn.inC n b v → v ∈ cubeL 0 b n
  | 0, v, h => by
    have : v = [] := List.length_eq_zero_iff.mp h.1
    subst this
    simp [cubeL]
  | n + 1, v, h => by
    obtain ⟨x, u, rfl⟩ : ∃ x u, v = u ++ [x] := ⟨v.getLast (fun e => by have := h.1; simp [e] at this), v.dropLast, (List.dropLast_concat_getLast _).symm⟩
    have hl : u.length = n := by have := h.1; simpa using this
    obtain ⟨x0, x1⟩ := h.2 x (by simp)
    refine List.mem_flatMap.mpr ⟨u, mem_cube ⟨hl, fun y hy => h.2 y (by simp [hy])⟩, List.mem_map.mpr ⟨x.toNat, List.mem_range.mpr (by omega), ?_⟩⟩
    rw [show (0 : Int) + (x.toNat : Int) = x by omega]
/-! ### a dict of tuples of numbers as a set -/
end Hg
namespace Hn
/-- multiples of b times the unit vectors -/
def unitB (n b : Nat) : List (List Int) := (List.range n).map fun k => (List.range n).map fun j => if j = k then (b : Int) else 0
theorem unitB_at {n b k : Nat} (hk : k < n) : (unitB n b)[k]? = some ((List.range n).map fun j => if j = k then (b : Int) else 0) := by
  unfold unitB
  rw [List.getElem?_map, List.getElem?_range hk]
  rfl
theorem fv_unitB {n b k : Nat} (j : Nat) (hk : k < n) : fv ((List.range n).map fun j => if j = k then (b : Int) else 0) j = if j = k then (b : Int) else 0 := by
  by_cases hj : j < n
  · exact fv_at (by rw [List.getElem?_map, List.getElem?_range hj]; rfl)
  · rw [fv_out (by simp; omega), if_neg (by omega)]
theorem unitB_sp {n b : Nat} {w : Vc} (h0 : ∀ j, n ≤ j → w j = 0) : Sp (RL (unitB n b)) fun j => (b : Int) * w j := by
  have := Sp.sum (R := RL (unitB n b)) (T := fun k => fv ((List.range n).map fun j => if j = k then (b : Int) else 0)) w (m := n) fun k hk => .of ⟨_, List.mem_of_getElem? (unitB_at hk), rfl⟩
  refine this.cast fun j => ?_
  by_cases hj : j < n
  · rw [sm_one (j := j) hj fun k hk ne => by rw [fv_unitB j hk, if_neg (Ne.symm ne), Int.mul_zero], fv_unitB j hj, if_pos rfl, Int.mul_comm]
  · rw [h0 j (by omega), sm_zero fun k hk => by rw [fv_unitB j hk, if_neg (by omega), Int.mul_zero]]
    simp
end Hn
namespace Hg
open PySem PySem.Spec PyProof.Rows L2
/-- lists of rows that stand beside la -/
def AllL (G : Hp) (la : Addr) (ls : List Addr) (Rs : List (List (List Int))) : Prop := ls.length = Rs.length ∧ ∀ (j : Nat) (l : Addr) (R : List (List Int)), ls[j]? = some l → Rs[j]? = some R → l ≠ la ∧ ∃ as : List Addr, G l = some (.lst (as.map V.ref)) ∧ RowsIn G as R
theorem AllL.nil {G : Hp} {la : Addr} : AllL G la [] [] := ⟨rfl, fun j l R h => by simp at h⟩
theorem AllL.ex {G G' : Hp} {la : Addr} {ls : List Addr} {Rs : List (List (List Int))} (h : AllL G la ls Rs) (e : Ex G G') : AllL G' la ls Rs :=
  ⟨h.1, fun j l R h1 h2 => by obtain ⟨n, as, a, b⟩ := h.2 j l R h1 h2; exact ⟨n, as, e _ _ a, b.mono fun x ys h => e _ _ h⟩⟩
theorem AllL.snoc {G : Hp} {la l : Addr} {ls as : List Addr} {Rs : List (List (List Int))} {R : List (List Int)} (h : AllL G la ls Rs) (n : l ≠ la) (a : G l = some (.lst (as.map V.ref))) (b : RowsIn G as R) : AllL G la (ls ++ [l]) (Rs ++ [R]) := by
  refine ⟨by simp [h.1], fun j l' R' h1 h2 => ?_⟩
  by_cases hj : j < ls.length
  · rw [List.getElem?_append_left hj] at h1
    rw [List.getElem?_append_left (by rw [← h.1]; exact hj)] at h2
    exact h.2 j l' R' h1 h2
  · rw [List.getElem?_append_right (by omega)] at h1
    rw [List.getElem?_append_right (by rw [← h.1]; omega), ← h.1] at h2
    have z : j - ls.length = 0 := by
      by_cases z : j - ls.length = 0
      · exact z
      · rw [List.getElem?_eq_none (by simp only [List.length_cons, List.length_nil]; omega)] at h1; cases h1
    rw [z] at h1 h2
    cases h1
    cases h2
    exact ⟨n, as, a, b⟩
theorem AllL.put {G : Hp} {la : Addr} {ls : List Addr} {Rs : List (List (List Int))} {ys zs : List V} (h : AllL G la ls Rs) (hl : G la = some (.lst ys)) : AllL (upd G la (.lst zs)) la ls Rs :=
  ⟨h.1, fun j l R h1 h2 => by obtain ⟨n, as, a, b⟩ := h.2 j l R h1 h2; exact ⟨n, as, (upd_ne n).trans a, b.mono fun x ys h => tk_put hl x ys h⟩⟩
end Hg
namespace Hn
/-! ### a frame of vectors and forms; lattices by moduli -/
def gt (U : List (List Int)) (i : Nat) : Vc := fv (U.getD i [])
theorem gt_set {U : List (List Int)} {a j : Nat} {x : List Int} (ha : a < U.length) : gt (U.set a x) j = if j = a then fv x else gt U j := by
  unfold gt
  rw [List.getD_eq_getElem?_getD, List.getElem?_set]
  by_cases h : j = a
  · rw [if_pos h.symm, if_pos h, if_pos ha]; rfl
  · rw [if_neg (Ne.symm h), if_neg h, List.getD_eq_getElem?_getD]
theorem gt_at {U : List (List Int)} {i : Nat} {u : List Int} (h : U[i]? = some u) : gt U i = fv u := by
  unfold gt
  rw [List.getD_eq_getElem?_getD, h]; rfl
def smallR (n : Nat) (u : List Int) : Prop := u.length = n ∧ ∀ x ∈ u, x.natAbs ≤ 99
structure Frm (n : Nat) (U F : List (List Int)) : Prop where
  ul : U.length = n
  fl : F.length = n
  us : ∀ u ∈ U, smallR n u
  fs : ∀ u ∈ F, smallR n u
  du : ∀ i j, i < n → j < n → dv n (gt F i) (gt U j) = if i = j then 1 else 0
theorem dv_addr {n : Nat} {f u v : Vc} {k : Int} : dv n f (fun j => k * u j + v j) = k * dv n f u + dv n f v := dv_comb
theorem dv_comm {n : Nat} {f u : Vc} : dv n f u = dv n u f := sm_congr fun _ _ => Int.mul_comm _ _
theorem dv_addl {n : Nat} {f u v : Vc} {k : Int} : dv n (fun j => k * u j + v j) f = k * dv n u f + dv n v f := by
  rw [dv_comm, dv_comb, dv_comm (f := f), dv_comm (f := f)]
theorem mem_set' {U : List (List Int)} {a : Nat} {x y : List Int} (h : y ∈ U.set a x) : y ∈ U ∨ y = x := (List.mem_or_eq_of_mem_set h)
theorem Frm.step {n : Nat} {U F : List (List Int)} (h : Frm n U F) {a b : Nat} (ha : a < n) (hb : b < n) (ne : a ≠ b) {k : Int} {ua ub fa fb : List Int} (hua : U[a]? = some ua) (hub : U[b]? = some ub) (hfa : F[a]? = some fa) (hfb : F[b]? = some fb)
    (su : smallR n (plusL k ub ua)) (sf : smallR n (plusL (0 - k) fa fb)) : Frm n (U.set a (plusL k ub ua)) (F.set b (plusL (0 - k) fa fb)) := by
  have l1 := (h.us ua (List.mem_of_getElem? hua)).1
  have l2 := (h.us ub (List.mem_of_getElem? hub)).1
  have l3 := (h.fs fa (List.mem_of_getElem? hfa)).1
  have l4 := (h.fs fb (List.mem_of_getElem? hfb)).1
  have gu : fv (plusL k ub ua) = fun j => k * gt U b j + gt U a j := funext fun j => by rw [gt_at hua, gt_at hub, fv_plus (by omega)]
  have gf : fv (plusL (0 - k) fa fb) = fun j => (0 - k) * gt F a j + gt F b j := funext fun j => by rw [gt_at hfa, gt_at hfb, fv_plus (by omega)]
  refine ⟨by rw [List.length_set, h.ul], by rw [List.length_set, h.fl], fun y hy => (mem_set' hy).elim (h.us y) fun e => e ▸ su, fun y hy => (mem_set' hy).elim (h.fs y) fun e => e ▸ sf, fun i j hi hj => ?_⟩
  rw [gt_set (by rw [h.fl]; exact hb), gt_set (by rw [h.ul]; exact ha), gu, gf]
  by_cases e1 : i = b
  · rw [if_pos e1]
    subst e1
    by_cases e2 : j = a
    · rw [if_pos e2]
      subst e2
      rw [dv_addr, dv_addl, dv_addl, h.du j i hj hi, h.du i i hi hi, h.du j j hj hj, h.du i j hi hj, if_neg ne, if_pos rfl, if_pos rfl, if_neg (Ne.symm ne)]
      omega
    · rw [if_neg e2, dv_addl, h.du a j ha hj, h.du i j hi hj, if_neg (Ne.symm e2)]
      omega
  · rw [if_neg e1]
    by_cases e2 : j = a
    · rw [if_pos e2]
      subst e2
      rw [dv_addr, h.du i b hi hb, h.du i j hi hj, if_neg e1]
      omega
    · rw [if_neg e2]; exact h.du i j hi hj
/-- the multiples of a frame's vectors by their moduli, none for 0 -/
def timesL : List Int → List (List Int) → List (List Int)
  | d :: ds, u :: us => if d = 0 then timesL ds us else (u.map fun e => d * e) :: timesL ds us
  | _, _ => []
theorem fv_times {d : Int} {u : List Int} : fv (u.map fun e => d * e) = fun j => d * fv u j := funext fun j => by
  by_cases hj : j < u.length
  · rw [fv_at (x := d * u[j]) (by rw [List.getElem?_map, List.getElem?_eq_getElem hj]; rfl), fv_at (List.getElem?_eq_getElem hj)]
  · rw [fv_out (by rw [List.length_map]; omega), fv_out (by omega), Int.mul_zero]
theorem times_mem {t : List Int} : ∀ {ds : List Int} {us : List (List Int)}, t ∈ timesL ds us ↔ ∃ (i : Nat) (d : Int) (u : List Int), ds[i]? = some d ∧ us[i]? = some u ∧ d ≠ 0 ∧ t = u.map fun e => d * e
  | [], us => by simp [timesL]
  | d :: ds, [] => by simp [timesL]
  | d :: ds, u :: us => by
    have ih := times_mem (t := t) (ds := ds) (us := us)
    have e : t ∈ timesL (d :: ds) (u :: us) ↔ (d ≠ 0 ∧ t = u.map fun e => d * e) ∨ t ∈ timesL ds us := by
      show t ∈ (if d = 0 then timesL ds us else (u.map fun e => d * e) :: timesL ds us) ↔ _
      by_cases h : d = 0
      · rw [if_pos h]; simp [h]
      · rw [if_neg h, List.mem_cons]; simp [h]
    rw [e, ih]
    constructor
    · rintro (⟨h1, h2⟩ | ⟨i, d', u', h1, h2, h3⟩)
      · exact ⟨0, d, u, rfl, rfl, h1, h2⟩
      · exact ⟨i + 1, d', u', by simpa using h1, by simpa using h2, h3⟩
    · rintro ⟨i, d', u', h1, h2, h3⟩
      cases i with
      | zero => cases h1; cases h2; exact .inl h3
      | succ i => exact .inr ⟨i, d', u', by simpa using h1, by simpa using h2, h3⟩
/-- a lattice by its coordinates in the frame -/
theorem lat_iff {n : Nat} {ds : List Int} {U : List (List Int)} (hd : ds.length = n) (hU : U.length = n) (v : Vc) :
    Sp (RL (timesL ds U)) v ↔ ∃ t : Nat → Int, (∀ i, i < n → ds.getD i 0 ∣ t i) ∧ ∀ j, v j = sm n fun i => t i * gt U i j := by
  constructor
  · intro h
    induction h with
    | zero => exact ⟨fun _ => 0, fun i _ => Int.dvd_zero _, fun j => (sm_zero fun i _ => by simp).symm⟩
    | @add x y k hx _ ih =>
      obtain ⟨r, hr, rfl⟩ := hx
      obtain ⟨t, h1, h2⟩ := ih
      obtain ⟨i, d, u, a1, a2, a3, rfl⟩ := times_mem.mp hr
      have hi : i < n := by rw [← hd]; exact (List.getElem?_eq_some_iff.mp a1).1
      have ed : ds.getD i 0 = d := by rw [List.getD_eq_getElem?_getD, a1]; rfl
      refine ⟨fun s => (if s = i then k * d else 0) + t s, fun s hs => ?_, fun j => ?_⟩
      · refine Int.dvd_add ?_ (h1 s hs)
        by_cases e : s = i
        · rw [if_pos e, e, ed]; exact Int.dvd_mul_left _ _
        · rw [if_neg e]; exact Int.dvd_zero _
      · show k * fv (u.map fun e => d * e) j + y j = sm n fun s => ((if s = i then k * d else 0) + t s) * gt U s j
        have e1 : (sm n fun s => ((if s = i then k * d else 0) + t s) * gt U s j) = k * d * gt U i j + sm n fun s => t s * gt U s j := by
          rw [sm_congr (g := fun s => (if s = i then k * d else 0) * gt U s j + t s * gt U s j) fun s _ => Int.add_mul _ _ _, sm_add, sm_one (j := i) hi fun s _ ne => by rw [if_neg ne, Int.zero_mul], if_pos rfl]
        rw [e1, h2 j, fv_times, gt_at a2, Int.mul_assoc]
  · rintro ⟨t, h1, h2⟩
    have key : ∀ i, i < n → Sp (RL (timesL ds U)) fun j => t i * gt U i j := fun i hi => by
      have a1 : ds[i]? = some (ds[i]'(by omega)) := List.getElem?_eq_getElem (by omega)
      have a2 : U[i]? = some (U[i]'(by omega)) := List.getElem?_eq_getElem (by omega)
      generalize ds[i]'(by omega) = d at a1
      generalize U[i]'(by omega) = u at a2
      have ed : ds.getD i 0 = d := by rw [List.getD_eq_getElem?_getD, a1]; rfl
      obtain ⟨q, hq⟩ := h1 i hi
      rw [ed] at hq
      by_cases d0 : d = 0
      · exact Sp.zero.cast fun j => by rw [hq, d0]; simp
      · refine ((Sp.of ⟨_, times_mem.mpr ⟨i, d, u, a1, a2, d0, rfl⟩, rfl⟩ : Sp (RL (timesL ds U)) _).mul q).cast fun j => ?_
        rw [fv_times, hq, gt_at a2]
        grind
    have := Sp.sum (R := RL (timesL ds U)) (T := fun i j => t i * gt U i j) (fun _ => 1) (m := n) fun i hi => key i hi
    exact this.cast fun j => by rw [h2 j]; exact sm_congr fun i _ => by rw [Int.one_mul]
theorem Frm.coord {n : Nat} {U F : List (List Int)} (h : Frm n U F) {t : Nat → Int} {v : Vc} (e : ∀ j, v j = sm n fun i => t i * gt U i j) {a : Nat} (ha : a < n) : dv n (gt F a) v = t a := by
  have : dv n (gt F a) v = sm n fun i => t i * dv n (gt F a) (gt U i) := by
    unfold dv
    rw [sm_congr (g := fun j => sm n fun i => gt F a j * (t i * gt U i j)) fun j _ => by rw [e j, sm_mul], sm_swap]
    refine sm_congr fun i _ => ?_
    rw [← sm_mul]
    exact sm_congr fun j _ => by grind
  rw [this, sm_one ha fun i hi ne => by rw [h.du a i ha hi, if_neg (Ne.symm ne), Int.mul_zero], h.du a a ha ha, if_pos rfl, Int.mul_one]
/-! ### the new modulus -/
end Hn
set_option maxHeartbeats 4000000
namespace Hn
/-! ### a lattice restricted by a form -/
end Hn
namespace Hg
open PySem PySem.Spec PyProof.Rows L2
/-- a list of rows, or one row, as it is or as lists -/
def FlatN (G G' : Hp) (p : Addr) (ns : List Int) : Prop := G p = none ∧ G' p = some (.lst (iV ns))
def sp_l_listedM (K : PySem.W.Frag) : Sp := fun vs H Q E => sp_l_listedN K vs H Q E ∨ ∃ (s q : Addr) (B : Nat) (G : Hp) (k : Bool) (a : Addr) (ns : List Int), vs = [.ref s, .ref a] ∧ Ov s q B G H ∧ B < 900000 ∧ SqK K k G a (iV ns) ∧ ns.length ≤ 1000 ∧
  ∀ (G' H' : Hp) (p : Addr), Ex G G' → Ov s q (B + 1) G' H' → (p = a ∨ FlatN G G' p ns) → Q (.ref p) H'
theorem listedM_len {vs : List V} {K : PySem.W.Frag} {H : Hp} {Q : VK} {E : XK} (h : sp_l_listedM K vs H Q E) : vs.length = 2 := by
  rcases h with ⟨_, _, _, _, _, _, _, _, rfl, _⟩ | ⟨_, _, _, _, _, _, _, rfl, _⟩ <;> rfl
theorem RowsIn.two {H : Hp} {as : List Addr} {R : List (List Int)} (h : RowsIn H as R) {i : Nat} (hi : i < R.length) : ∃ a r, as[i]? = some a ∧ R[i]? = some r ∧ H a = some (.tup (iV r)) := by
  have h1 : as[i]? = some (as[i]'(by rw [h.1]; exact hi)) := List.getElem?_eq_getElem _
  have h2 : R[i]? = some R[i] := List.getElem?_eq_getElem hi
  exact ⟨_, _, h1, h2, h.2 i _ _ h1 h2⟩
/-! ### what is shown of larger things -/
theorem rm_pow16 {N N' M x : Nat} (hN : N ≤ N') (h8 : N' ≤ 16) (hM : M ≤ 2 ^ x) (h : Hn.zE N' (x + 5) + (Hn.zE N' (x + 5) + 1) * (2 * N' + 4) < 40000000) : rm N M := by
  unfold rm sm8
  refine Hn.rm_le (x := x + 5) ?_ ?_ ?_
  · have : 2 * N * M ≤ 2 ^ 5 * 2 ^ x := Nat.mul_le_mul (by omega) hM
    rw [Nat.pow_add]
    omega
  · exact Nat.le_trans hM (Nat.pow_le_pow_right (by decide) (by omega))
  · have a := Hn.zE_mono hN (Nat.le_refl (x + 5))
    have b : (Hn.zE N (x + 5) + 1) * (2 * N + 4) ≤ (Hn.zE N' (x + 5) + 1) * (2 * N' + 4) := Nat.mul_le_mul (by omega) (by omega)
    omega
end Hg
namespace Hn
end Hn
namespace Hg
open PySem PySem.Spec PyProof.Rows L2
/-! ### all but one object -/
def er (G : Hp) (D : Addr) : Hp := fun a => if a = D then none else G a
theorem er_of {G : Hp} {D a : Addr} {o : HO} (n : a ≠ D) (h : G a = some o) : er G D a = some o := by
  unfold er; rw [if_neg n]; exact h
theorem er_ex {G : Hp} {D : Addr} : Ex (er G D) G := fun a o h => by
  unfold er at h
  split at h
  · cases h
  · exact h
theorem er_tup {G : Hp} {D a : Addr} {xs ys : List V} (d : G D = some (.lst xs)) (h : G a = some (.tup ys)) : er G D a = some (.tup ys) :=
  er_of (fun e => by rw [e, d] at h; cases h) h
end Hg
set_option maxHeartbeats 4000000
namespace Hg
open PySem PySem.Spec PyProof.Rows L2
/-- the numbers of Euclid's way, where it begins with 0 too -/
def Bzz (a b c d l m : Int) : Prop := Hn.Bz a b c d l m ∨ (a = 0 ∧ ((c = 0 ∧ d = b ∧ l = 1 ∧ m = 0) ∨ (c = b ∧ d = 0 ∧ l = 0 ∧ m = 1)))
theorem Bzz.step {a b c d l m : Int} (z : Bzz a b c d l m) (hd : d ≠ 0) : Bzz a b d (c.fmod d) m (l - c.fdiv d * m) := by
  rcases z with z | ⟨h0, h | h⟩
  · exact .inl (z.step hd)
  · obtain ⟨rfl, rfl, rfl, rfl⟩ := h
    refine .inr ⟨h0, .inr ⟨rfl, Int.zero_fmod _, rfl, ?_⟩⟩
    rw [Int.zero_fdiv]; rfl
  · exact absurd h.2.1 hd
end Hg
namespace Hn
/-! ### a vector with a form's value, as a function -/
def solSt (n : Nat) (f : Vc) (s : Int × List Int) (r : List Int) : Int × List Int :=
  if s.1 = 0 ∨ (dv n f (fv r)).fmod s.1 ≠ 0 then ((bezF s.1 (dv n f (fv r))).1, combL (bezF s.1 (dv n f (fv r))).2.1 s.2 (bezF s.1 (dv n f (fv r))).2.2 r) else s
def solGo (n : Nat) (f : Vc) (R : List (List Int)) : Int × List Int := R.foldl (solSt n f) (0, List.replicate n 0)
def solF (n : Nat) (f : Vc) (R : List (List Int)) (v : Int) : Option (List Int) :=
  if (solGo n f R).1 = 0 then (if v = 0 then some (solGo n f R).2 else none) else if v.fmod (solGo n f R).1 = 0 then some ((solGo n f R).2.map fun e => v.fdiv (solGo n f R).1 * e) else none
theorem solGo_snoc {n : Nat} {f : Vc} {R : List (List Int)} {r : List Int} : solGo n f (R ++ [r]) = solSt n f (solGo n f R) r := by
  unfold solGo
  rw [List.foldl_append]
  rfl
structure SI (n W B : Nat) (f : Vc) (P : List (List Int)) (g : Int) (F : List Int) : Prop where
  g0 : 0 ≤ g
  gW : g.natAbs ≤ W
  dvd : ∀ r ∈ P, g ∣ dv n f (fv r)
  sp : Sp (RL P) (fv F)
  val : dv n f (fv F) = g
  len : F.length = n
  bd : bnd (B * (2 + 2 * W) ^ P.length) (fv F)
theorem SI.start {n W B : Nat} {f : Vc} : SI n W B f [] 0 (List.replicate n 0) := by
  have z : fv (List.replicate n (0 : Int)) = fun _ => 0 := funext fun j => by
    by_cases hj : j < n
    · exact fv_at (by rw [List.getElem?_replicate, if_pos hj])
    · exact fv_out (by simp; omega)
  refine ⟨Int.le_refl _, Nat.zero_le _, by simp, by rw [z]; exact .zero, ?_, List.length_replicate, fun j => by rw [z]; exact Nat.zero_le _⟩
  rw [z]
  exact sm_zero fun i _ => by simp
theorem RL_app {P : List (List Int)} {r : List Int} {v : Vc} (h : Sp (RL P) v) : Sp (RL (P ++ [r])) v := h.mono fun x ⟨y, hy, e⟩ => ⟨y, List.mem_append.mpr (.inl hy), e⟩
theorem dv_lin {n : Nat} {f u v : Vc} {a b : Int} : dv n f (fun j => a * u j + b * v j) = a * dv n f u + b * dv n f v := by
  unfold dv
  rw [← sm_mul, ← sm_mul, ← sm_add]
  exact sm_congr fun i _ => by grind
theorem SI.comb {n W B : Nat} {f : Vc} {P : List (List Int)} {g : Int} {F r : List Int} (h : SI n W B f P g F) (hr : r.length = n) (rB : bnd B (fv r)) {g' s t : Int} (h1 : 0 ≤ g') (hW : g'.natAbs ≤ W) (hs : s.natAbs ≤ 1 + W) (ht : t.natAbs ≤ 1 + W)
    (e : s * g + t * dv n f (fv r) = g') (d1 : ∀ x ∈ P, g' ∣ dv n f (fv x)) (d2 : g' ∣ dv n f (fv r)) : SI n W B f (P ++ [r]) g' (combL s F t r) := by
  have hl : F.length = r.length := by rw [h.len, hr]
  have ef : fv (combL s F t r) = fun j => s * fv F j + t * fv r j := funext fun j => fv_comb hl j
  refine ⟨h1, hW, fun x hx => (List.mem_append.mp hx).elim (d1 x) fun hx => by rw [List.mem_singleton.mp hx]; exact d2, ?_, ?_, by rw [len_comb hl, h.len], fun j => ?_⟩
  · rw [ef]
    exact (RL_app h.sp).comb s t (.of ⟨r, by simp, rfl⟩)
  · rw [ef, dv_lin, h.val, e]
  · rw [ef, List.length_append]
    show (s * fv F j + t * fv r j).natAbs ≤ B * (2 + 2 * W) ^ (P.length + 1)
    have a1 : (s * fv F j).natAbs ≤ (1 + W) * (B * (2 + 2 * W) ^ P.length) := by rw [Int.natAbs_mul]; exact Nat.mul_le_mul hs (h.bd j)
    have a2 : (t * fv r j).natAbs ≤ (1 + W) * B := by rw [Int.natAbs_mul]; exact Nat.mul_le_mul ht (rB j)
    have a3 : B ≤ B * (2 + 2 * W) ^ P.length := Nat.le_mul_of_pos_right _ (Nat.pow_pos (by omega))
    have a4 : (1 + W) * B ≤ (1 + W) * (B * (2 + 2 * W) ^ P.length) := Nat.mul_le_mul_left _ a3
    have a5 : B * (2 + 2 * W) ^ (P.length + 1) = (1 + W) * (B * (2 + 2 * W) ^ P.length) + (1 + W) * (B * (2 + 2 * W) ^ P.length) := by
      rw [Nat.pow_succ]; grind
    omega
theorem SI.step {n W B : Nat} {f : Vc} {P : List (List Int)} {g : Int} {F r : List Int} (h : SI n W B f P g F) (hr : r.length = n) (rB : bnd B (fv r)) (wW : (dv n f (fv r)).natAbs ≤ W) :
    SI n W B f (P ++ [r]) (solSt n f (g, F) r).1 (solSt n f (g, F) r).2 := by
  unfold solSt
  dsimp only
  generalize hw : dv n f (fv r) = w at wW
  by_cases c : g = 0 ∨ w.fmod g ≠ 0
  · rw [if_pos c]
    show SI n W B f (P ++ [r]) (bezF g w).1 (combL (bezF g w).2.1 F (bezF g w).2.2 r)
    by_cases h0 : g = 0
    · subst h0
      rw [bezF_zero]
      dsimp only
      have s1 : (if w = 0 then (1 : Int) else 0).natAbs ≤ 1 + W := by split <;> omega
      have t1 : (if w = 0 then (0 : Int) else if w < 0 then -1 else 1).natAbs ≤ 1 + W := by
        split
        · omega
        · split <;> omega
      refine h.comb hr rB (Int.natCast_nonneg _) (by omega) s1 t1 ?_ (fun x hx => ?_) ?_
      · rw [hw]
        split
        · omega
        · split
          · omega
          · omega
      · have := h.dvd x hx
        rw [Int.zero_dvd.mp this]; exact Int.dvd_zero _
      · rw [hw]; exact Int.natAbs_dvd.mpr (Int.dvd_refl _)
    · have gp : 0 < g := by have := h.g0; omega
      have w0 : w ≠ 0 := fun e => by
        rw [e] at c
        exact (c.resolve_left h0) (Int.zero_fmod _)
      obtain ⟨p1, p, q, e1, e2, e3, e4, e5⟩ := bezF_pos gp w0
      generalize (bezF g w).1 = g' at *
      generalize (bezF g w).2.1 = s at *
      generalize (bezF g w).2.2 = t at *
      have gle : g' ≤ g := Int.le_of_dvd gp ⟨p, by rw [Int.mul_comm]; exact e1⟩
      have := h.gW
      refine h.comb hr rB (by omega) (by omega) (by omega) (by omega) (by rw [hw]; exact e3) (fun x hx => Int.dvd_trans ⟨p, by rw [Int.mul_comm]; exact e1⟩ (h.dvd x hx)) ?_
      rw [hw]
      exact ⟨q, by rw [Int.mul_comm]; exact e2⟩
  · rw [if_neg c]
    show SI n W B f (P ++ [r]) g F
    have c1 : g ≠ 0 := fun e => c (.inl e)
    have c2 : w.fmod g = 0 := Classical.byContradiction fun e => c (.inr e)
    refine ⟨h.g0, h.gW, fun x hx => (List.mem_append.mp hx).elim (h.dvd x) fun hx => ?_, RL_app h.sp, h.val, h.len, bnd_mono ?_ h.bd⟩
    · rw [List.mem_singleton.mp hx, hw]
      exact Int.dvd_of_fmod_eq_zero c2
    · rw [List.length_append]
      exact Nat.mul_le_mul_left _ (Nat.pow_le_pow_right (by omega) (by simp))
theorem SI.all {n W B : Nat} {f : Vc} {R : List (List Int)} (hR : ∀ r ∈ R, r.length = n ∧ bnd B (fv r) ∧ (dv n f (fv r)).natAbs ≤ W) : ∀ k, SI n W B f (R.take k) (solGo n f (R.take k)).1 (solGo n f (R.take k)).2
  | 0 => by rw [List.take_zero]; exact SI.start
  | k + 1 => by
    have ih := SI.all hR k
    by_cases hk : k < R.length
    · have hr : R[k]? = some R[k] := List.getElem?_eq_getElem hk
      have e : R.take (k + 1) = R.take k ++ [R[k]] := by rw [List.take_succ, hr]; rfl
      obtain ⟨h1, h2, h3⟩ := hR _ (List.getElem_mem hk)
      rw [e, solGo_snoc]
      exact ih.step h1 h2 h3
    · rw [List.take_of_length_le (by omega)] at ih ⊢
      exact ih
theorem solF_none {n W B : Nat} {f : Vc} {R : List (List Int)} {g v : Int} {F : List Int} (h : SI n W B f R g F) (e : solGo n f R = (g, F)) : solF n f R v = none ↔ ¬ (v = 0 ∨ (g ≠ 0 ∧ g ∣ v)) := by
  unfold solF
  rw [e]
  dsimp only
  by_cases g0 : g = 0
  · rw [if_pos g0]
    by_cases v0 : v = 0
    · rw [if_pos v0]; simp [v0]
    · rw [if_neg v0]; simp [v0, g0]
  · rw [if_neg g0]
    have d : v.fmod g = 0 ↔ g ∣ v := ⟨Int.dvd_of_fmod_eq_zero, fun ⟨q, hq⟩ => by rw [hq, Int.mul_fmod_right]⟩
    by_cases c : v.fmod g = 0
    · rw [if_pos c]
      have := d.mp c
      simp [g0, this]
    · rw [if_neg c]
      have n1 : ¬ g ∣ v := fun z => c (d.mpr z)
      have n2 : v ≠ 0 := fun z => n1 (z ▸ Int.dvd_zero _)
      simp [n1, n2]
theorem solF_some {n W B : Nat} {f : Vc} {R : List (List Int)} {g v : Int} {F u : List Int} (h : SI n W B f R g F) (e : solGo n f R = (g, F)) (hu : solF n f R v = some u) : u.length = n ∧ Sp (RL R) (fv u) ∧ dv n f (fv u) = v := by
  unfold solF at hu
  rw [e] at hu
  dsimp only at hu
  by_cases g0 : g = 0
  · rw [if_pos g0] at hu
    by_cases v0 : v = 0
    · rw [if_pos v0] at hu
      cases hu
      exact ⟨h.len, h.sp, by rw [h.val, g0, v0]⟩
    · rw [if_neg v0] at hu; cases hu
  · rw [if_neg g0] at hu
    by_cases c : v.fmod g = 0
    · rw [if_pos c] at hu
      cases hu
      have ef : fv (F.map fun e => v.fdiv g * e) = fun j => v.fdiv g * fv F j := fv_times
      refine ⟨by rw [List.length_map, h.len], by rw [ef]; exact h.sp.mul _, ?_⟩
      rw [ef]
      have : dv n f (fun j => v.fdiv g * fv F j) = v.fdiv g * dv n f (fv F) := by
        unfold dv
        rw [← sm_mul]
        exact sm_congr fun i _ => by grind
      rw [this, h.val]
      have := fdm v g
      omega
    · rw [if_neg c] at hu; cases hu
end Hn
set_option maxHeartbeats 4000000
namespace Hg
open PySem PySem.Spec PyProof.Rows L2
end Hg
namespace Hn
theorem SI.grn {n W B : Nat} {f : Vc} {R : List (List Int)} {g : Int} {F : List Int} (h : SI n W B f R g F) : Grn n f R g :=
  ⟨h.g0, fun d => ⟨fun hd r hr => Int.dvd_trans hd (h.dvd r hr), fun hd => by
    rw [← h.val]
    exact dvd_span (fun u hu => by obtain ⟨r, hr, rfl⟩ := hu; exact hd r hr) h.sp⟩⟩
theorem Grn.eq {n : Nat} {f : Vc} {R : List (List Int)} {g h : Int} (a : Grn n f R g) (b : Grn n f R h) : g = h := same_of_dvd a.1 b.1 fun d => (a.2 d).trans (b.2 d).symm
end Hn
namespace Hn
theorem solF_bnd {n W B Vb : Nat} {f : Vc} {R : List (List Int)} {g v : Int} {F u : List Int} (h : SI n W B f R g F) (e : solGo n f R = (g, F)) (hv : v.natAbs ≤ Vb) (hu : solF n f R v = some u) : bnd ((Vb + 1) * (B * (2 + 2 * W) ^ R.length)) (fv u) := by
  unfold solF at hu
  rw [e] at hu
  dsimp only at hu
  by_cases g0 : g = 0
  · rw [if_pos g0] at hu
    by_cases v0 : v = 0
    · rw [if_pos v0] at hu
      cases hu
      exact bnd_mono (Nat.le_mul_of_pos_left _ (by omega)) h.bd
    · rw [if_neg v0] at hu; cases hu
  · rw [if_neg g0] at hu
    by_cases c : v.fmod g = 0
    · rw [if_pos c] at hu
      cases hu
      have ef : fv (F.map fun e => v.fdiv g * e) = fun j => v.fdiv g * fv F j := fv_times
      intro j
      rw [ef]
      show (v.fdiv g * fv F j).natAbs ≤ _
      rw [Int.natAbs_mul]
      have := fdiv_le (c := v) g0
      exact Nat.mul_le_mul (by omega) (h.bd j)
    · rw [if_neg c] at hu; cases hu
end Hn
namespace Hg
open PySem PySem.Spec PyProof.Rows L2
theorem ne_ints {K : PySem.W.Frag} {H : Hp} {p q : Addr} {xs ys : List Int} {Q : VK} (hp : H p = some (.tup (iV xs))) (hq : H q = some (.tup (iV ys))) (k : Q (.bl (!decide (xs = ys))) H) : rNeA K (.ref p) (.ref q) H Q :=
  .inr ⟨_, _, dp_t (SqT.of hp), dp_t (SqT.of hq), shaped_t _, shaped_t _, by rw [eqv_t]; exact k⟩
end Hg
namespace Hn
/-! ### kernels of exact forms: few small vectors span a sublattice of known index -/
structure KE (n : Nat) (K : Vc → Prop) (R : List Vc) (M d : Nat) : Prop where
  inK : ∀ u ∈ R, K u
  ge : 1 ≤ d
  gen : ∀ v, K v → Sp (fun u => u ∈ R) (fun j => (d : Int) * v j)
  b : ∀ u ∈ R, bnd M u
theorem dv_absB {n A M : Nat} {f u : Vc} (hf : bnd A f) (hu : bnd M u) : (dv n f u).natAbs ≤ n * (A * M) := by
  unfold dv
  refine sm_abs fun i _ => ?_
  rw [Int.natAbs_mul]
  exact Nat.mul_le_mul (hf i) (hu i)
theorem elim_sp {n : Nat} {f w : Vc} {R R' : Vc → Prop} (h : ∀ u, R u → Sp R' fun j => dv n f w * u j - dv n f u * w j) {x : Vc} (hx : Sp R x) : Sp R' fun j => dv n f w * x j - dv n f x * w j := by
  induction hx with
  | zero =>
    have z : dv n f (fun _ => 0) = 0 := by
      have := dv_comb (n := n) (f := f) (u := fun _ => 0) (v := fun _ => 0) (k := 1)
      simp only [Int.mul_zero, Int.add_zero] at this
      omega
    refine Sp.zero.cast fun j => ?_
    show _ = dv n f w * 0 - dv n f (fun _ => 0) * w j
    rw [z]; omega
  | add k hu hv ih =>
    refine (((h _ hu).mul k).plus ih).cast fun j => ?_
    show _ = _ - dv n f (fun j => _) * w j
    rw [dv_comb]
    grind
theorem KE.step {n A M d : Nat} {K : Vc → Prop} {R : List Vc} {f : Vc} (hf : bnd A f) (k : KE n K R M d) (cl : ∀ (a b : Int) (u v : Vc), K u → K v → K fun j => a * u j - b * v j) :
    KE n (fun v => K v ∧ dv n f v = 0) R M d ∨ ∃ (R' : List Vc) (d' : Nat), KE n (fun v => K v ∧ dv n f v = 0) R' (2 * (n * (A * M) * M)) d' ∧ R'.length + 1 = R.length ∧ d' ≤ n * (A * M) * d := by
  by_cases h : ∀ u ∈ R, dv n f u = 0
  · exact .inl ⟨fun u hu => ⟨k.inK u hu, h u hu⟩, k.ge, fun v hv => k.gen v hv.1, k.b⟩
  · have ⟨w, hw, w0⟩ : ∃ w, w ∈ R ∧ dv n f w ≠ 0 := by
      refine Classical.byContradiction fun h' => h fun u hu => Classical.byContradiction fun c => h' ⟨u, hu, c⟩
    obtain ⟨R1, R2, e⟩ := List.append_of_mem hw
    have mem : ∀ u, u ∈ R ↔ u = w ∨ u ∈ R1 ++ R2 := fun u => by rw [e]; simp; grind
    have dvl : ∀ (a b : Int) (u v : Vc), dv n f (fun j => a * u j - b * v j) = a * dv n f u - b * dv n f v := fun a b u v => by
      have e1 := dv_comb (n := n) (f := f) (u := u) (v := fun j => (-b) * v j + 0) (k := a)
      have e2 := dv_comb (n := n) (f := f) (u := v) (v := fun _ => 0) (k := -b)
      have e3 := dv_comb (n := n) (f := f) (u := fun _ => 0) (v := fun _ => 0) (k := 1)
      simp only [Int.mul_zero, Int.add_zero] at e1 e2 e3
      have : (fun j => a * u j - b * v j) = fun j => a * u j + -b * v j := funext fun j => by grind
      rw [this, e1, e2]
      grind
    refine .inr ⟨(R1 ++ R2).map fun u j => dv n f w * u j - dv n f u * w j, (dv n f w).natAbs * d, ⟨fun x hx => ?_, ?_, fun v hv => ?_, fun x hx => ?_⟩, ?_, ?_⟩
    · obtain ⟨u, hu, rfl⟩ := List.mem_map.mp hx
      exact ⟨cl _ _ _ _ (k.inK u ((mem u).mpr (.inr hu))) (k.inK w hw), by rw [dvl]; grind⟩
    · exact Nat.mul_pos (by omega) k.ge
    · have g := elim_sp (f := f) (n := n) (w := w) (R' := fun x => x ∈ (R1 ++ R2).map fun u j => dv n f w * u j - dv n f u * w j) (fun u hu => by
        rcases (mem u).mp hu with rfl | h2
        · exact Sp.zero.cast fun j => by omega
        · exact .of (List.mem_map.mpr ⟨u, h2, rfl⟩)) (k.gen v hv.1)
      have z : dv n f (fun j => (d : Int) * v j) = 0 := by
        have := dvl (d : Int) 0 v v
        rw [hv.2] at this
        simp only [Int.zero_mul, Int.sub_zero, Int.mul_zero] at this
        exact this
      obtain ⟨s, hs⟩ : ∃ s : Int, ((dv n f w).natAbs : Int) = s * dv n f w := by
        rcases Int.natAbs_eq (dv n f w) with h | h
        · exact ⟨1, by omega⟩
        · exact ⟨-1, by omega⟩
      refine (g.mul s).cast fun j => ?_
      rw [z, Int.natCast_mul, hs]
      grind
    · obtain ⟨u, hu, rfl⟩ := List.mem_map.mp hx
      have bu := k.b u ((mem u).mpr (.inr hu))
      have bw := k.b w hw
      intro j
      show (dv n f w * u j - dv n f u * w j).natAbs ≤ _
      have a1 : (dv n f w * u j).natAbs ≤ n * (A * M) * M := by
        rw [Int.natAbs_mul]; exact Nat.mul_le_mul (dv_absB hf bw) (bu j)
      have a2 : (dv n f u * w j).natAbs ≤ n * (A * M) * M := by
        rw [Int.natAbs_mul]; exact Nat.mul_le_mul (dv_absB hf bu) (bw j)
      omega
    · rw [e]; simp; omega
    · exact Nat.mul_le_mul_right _ (dv_absB hf (k.b w hw))
/-- the bounds after s real steps -/
def keM (n A : Nat) : Nat → Nat
  | 0 => 1
  | s + 1 => 2 * (n * (A * keM n A s) * keM n A s)
def keD (n A : Nat) : Nat → Nat
  | 0 => 1
  | s + 1 => n * (A * keM n A s) * keD n A s
def Ker (n : Nat) (E : List (List Int)) (v : Vc) : Prop := (∀ j, n ≤ j → v j = 0) ∧ ∀ f ∈ E, dv n (fv f) v = 0
theorem dv_sub {n : Nat} {f u v : Vc} {a b : Int} : dv n f (fun j => a * u j - b * v j) = a * dv n f u - b * dv n f v := by
  have e1 := dv_comb (n := n) (f := f) (u := u) (v := fun j => (-b) * v j + 0) (k := a)
  have e2 := dv_comb (n := n) (f := f) (u := v) (v := fun _ => 0) (k := -b)
  have e3 := dv_comb (n := n) (f := f) (u := fun _ => 0) (v := fun _ => 0) (k := 1)
  simp only [Int.mul_zero, Int.add_zero] at e1 e2 e3
  have : (fun j => a * u j - b * v j) = fun j => a * u j + -b * v j := funext fun j => by grind
  rw [this, e1, e2]
  grind
theorem Ker.cl {n : Nat} {E : List (List Int)} (a b : Int) (u v : Vc) (hu : Ker n E u) (hv : Ker n E v) : Ker n E fun j => a * u j - b * v j :=
  ⟨fun j hj => by show a * u j - b * v j = 0; rw [hu.1 j hj, hv.1 j hj]; omega, fun f hf => by rw [dv_sub, hu.2 f hf, hv.2 f hf]; omega⟩
theorem KE.congr {n M d : Nat} {K K' : Vc → Prop} {R : List Vc} (k : KE n K R M d) (h : ∀ v, K v ↔ K' v) : KE n K' R M d :=
  ⟨fun u hu => (h u).mp (k.inK u hu), k.ge, fun v hv => k.gen v ((h v).mpr hv), k.b⟩
def unitV (i : Nat) : Vc := fun j => if j = i then 1 else 0
theorem KE.start {n : Nat} : KE n (Ker n []) ((List.range n).map unitV) 1 1 := by
  refine ⟨fun u hu => ?_, Nat.le_refl _, fun v hv => ?_, fun u hu => ?_⟩
  · obtain ⟨i, hi, rfl⟩ := List.mem_map.mp hu
    have := List.mem_range.mp hi
    exact ⟨fun j hj => if_neg (by omega), fun f hf => by cases hf⟩
  · have : ∀ m, m ≤ n → Sp (fun u => u ∈ (List.range n).map unitV) fun j => if j < m then v j else 0 := by
      intro m
      induction m with
      | zero => exact fun _ => Sp.zero.cast fun j => by simp
      | succ m ih =>
        intro hm
        refine (Sp.add (v m) (List.mem_map.mpr ⟨m, List.mem_range.mpr (by omega), rfl⟩) (ih (by omega))).cast fun j => ?_
        unfold unitV
        grind
    refine (this n (Nat.le_refl _)).cast fun j => ?_
    have := hv.1 j
    split <;> grind
  · obtain ⟨i, hi, rfl⟩ := List.mem_map.mp hu
    intro j
    unfold unitV
    split <;> decide
theorem KE.all {n A : Nat} (E : List (List Int)) (hE : ∀ f ∈ E, bnd A (fv f)) : ∃ (R : List Vc) (s d : Nat), KE n (Ker n E) R (keM n A s) d ∧ R.length + s = n ∧ d ≤ keD n A s := by
  induction E with
  | nil => exact ⟨_, 0, 1, KE.start, by simp, Nat.le_refl _⟩
  | cons f E ih =>
    obtain ⟨R, s, d, k, hl, hd⟩ := ih fun g hg => hE g (.tail _ hg)
    have cg : ∀ v, (Ker n E v ∧ dv n (fv f) v = 0) ↔ Ker n (f :: E) v := fun v => by
      unfold Ker; simp; grind
    rcases k.step (hE f (.head _)) (fun a b u v => Ker.cl a b u v) with h | ⟨R', d', h, h1, h2⟩
    · exact ⟨R, s, d, h.congr cg, hl, hd⟩
    · exact ⟨R', s + 1, d', h.congr cg, by omega, Nat.le_trans h2 (Nat.mul_le_mul_left _ hd)⟩
end Hn
namespace Hn
/-! ### a lattice times a number -/
def scL (d : Int) (l : List Int) : List Int := l.map (d * ·)
theorem fv_scL {d : Int} {l : List Int} : fv (scL d l) = fun j => d * fv l j := by
  funext j
  unfold fv scL
  rw [List.getD_eq_getElem?_getD, List.getD_eq_getElem?_getD, List.getElem?_map]
  cases l[j]? <;> simp
def scS (d : Int) (st : Steps) : Steps := st.map (Option.map (scL d))
theorem scS_some {d : Int} {st : Steps} {c : Nat} {x : List Int} (h : (scS d st)[c]? = some (some x)) : ∃ l, st[c]? = some (some l) ∧ x = scL d l := by
  unfold scS at h
  rw [List.getElem?_map] at h
  cases e : st[c]? with
  | none => rw [e] at h; simp at h
  | some o =>
    cases o with
    | none => rw [e] at h; simp at h
    | some l => rw [e] at h; simp at h; exact ⟨l, rfl, h.symm⟩
theorem scS_of {d : Int} {st : Steps} {c : Nat} {l : List Int} (h : st[c]? = some (some l)) : (scS d st)[c]? = some (some (scL d l)) := by
  unfold scS
  rw [List.getElem?_map, h]; rfl
theorem Hnf.scale {n : Nat} {V : Vc → Prop} {C : List (List Int)} (h : Hnf n V C) {d : Int} (hd : 0 < d) : Hnf n (fun v => ∃ x, V x ∧ v = fun j => d * x j) (C.map (scL d)) := by
  obtain ⟨st, e, r, sp, rfl⟩ := h
  refine ⟨scS d st, ⟨?_, fun c l hc => ?_, fun c l j hc hj => ?_, fun c l hc => ?_⟩, fun c l j l' hc hj hl => ?_, fun v => ⟨fun hv => ?_, ?_⟩, ?_⟩
  · unfold scS; rw [List.length_map]; exact e.len
  · obtain ⟨x, hx, rfl⟩ := scS_some hc
    unfold scL; rw [List.length_map]; exact e.row _ _ hx
  · obtain ⟨x, hx, rfl⟩ := scS_some hc
    rw [fv_scL]; show d * fv x j = 0; rw [e.lo _ _ _ hx hj]; omega
  · obtain ⟨x, hx, rfl⟩ := scS_some hc
    rw [fv_scL]; exact Int.mul_pos hd (e.piv _ _ hx)
  · obtain ⟨x, hx, rfl⟩ := scS_some hc
    obtain ⟨y, hy, rfl⟩ := scS_some hl
    rw [fv_scL, fv_scL]
    have := r _ _ _ _ hx hj hy
    exact ⟨Int.mul_nonneg (by omega) this.1, Int.mul_lt_mul_of_pos_left this.2 hd⟩
  · induction hv with
    | zero => exact ⟨fun _ => 0, (sp _).mp .zero, funext fun j => (Int.mul_zero d).symm⟩
    | add k hu _ ih =>
      obtain ⟨x, hx, rfl⟩ := ih
      obtain ⟨c, l, hc, rfl⟩ := hu
      obtain ⟨y, hy, rfl⟩ := scS_some hc
      refine ⟨fun j => k * fv y j + x j, (sp _).mp (.add k ⟨c, y, hy, rfl⟩ ((sp _).mpr hx)), ?_⟩
      rw [fv_scL]
      funext j
      grind
  · rintro ⟨x, hx, rfl⟩
    have := (sp _).mpr hx
    clear hx
    induction this with
    | zero => exact Sp.zero.cast fun j => (Int.mul_zero d).symm
    | add k hu _ ih =>
      obtain ⟨c, l, hc, rfl⟩ := hu
      refine (Sp.add k ⟨c, _, scS_of (d := d) hc, rfl⟩ ih).cast fun j => ?_
      rw [fv_scL]; grind
  · have : ∀ st : Steps, (st.filterMap id).map (scL d) = (scS d st).filterMap id := fun st => by
      unfold scS
      induction st with
      | nil => rfl
      | cons o st ih => cases o <;> simp [ih]
    exact this st
/-- the numbers of a lattice between a kernel and its multiples -/
theorem Hnf.pinchK {n M d P : Nat} {V K : Vc → Prop} {R : List Vc} {C : List (List Int)} (hC : Hnf n V C) (k : KE n K R M d) (hP : 1 ≤ P) (hM : 1 ≤ M) (h1 : ∀ v, V v → K v) (h2 : ∀ u, K u → V fun j => (P : Int) * u j) : ∀ r ∈ C, bnd (pinB (d * P) n M) (fv r) := by
  have hd := k.ge
  have s := (hC.scale (d := d) (by omega)).pinch (m0 := d * P) (M := M) (R := fun u => u ∈ R) (Nat.mul_pos hd hP) hM k.b (fun v ⟨x, hx, e⟩ => e ▸ k.gen x (h1 x hx)) (fun u hu => ⟨_, h2 u (k.inK u hu), funext fun j => by rw [Int.natCast_mul, Int.mul_assoc]⟩)
  intro r hr j
  have := s _ (List.mem_map.mpr ⟨r, hr, rfl⟩) j
  rw [fv_scL] at this
  refine Nat.le_trans ?_ this
  rw [Int.natAbs_mul]
  exact Nat.le_mul_of_pos_left _ (by omega)
end Hn
namespace Hn
/-! ### the lattice of some forms by their moduli, 0 for exactly 0 -/
def LatS (n : Nat) (S : List (List Int × Nat)) (v : Vc) : Prop := (∀ j, n ≤ j → v j = 0) ∧ ∀ p ∈ S, (p.2 : Int) ∣ dv n (fv p.1) v
def exS (S : List (List Int × Nat)) : List (List Int) := (S.filter fun p => p.2 == 0).map (·.1)
def prS : List (List Int × Nat) → Nat
  | [] => 1
  | p :: S => (if p.2 = 0 then 1 else p.2) * prS S
theorem prS_pos : ∀ S : List (List Int × Nat), 1 ≤ prS S
  | [] => Nat.le_refl _
  | p :: S => by
    unfold prS
    refine Nat.mul_pos ?_ (prS_pos S)
    split <;> omega
theorem prS_dvd : ∀ {S : List (List Int × Nat)} {p}, p ∈ S → p.2 ≠ 0 → p.2 ∣ prS S
  | q :: S, p, h, z => by
    unfold prS
    rcases List.mem_cons.mp h with rfl | h
    · rw [if_neg z]; exact Nat.dvd_mul_right _ _
    · exact Nat.dvd_trans (prS_dvd h z) (Nat.dvd_mul_left _ _)
end Hn
namespace Hn
/-! ### the same lattice by other lists of forms -/
theorem prS_le {x : Nat} : ∀ {S : List (List Int × Nat)}, (∀ p ∈ S, p.2 ≤ 2 ^ x) → prS S ≤ 2 ^ (x * S.length)
  | [], _ => by simp [prS]
  | p :: S, h => by
    have ih := prS_le (S := S) fun q hq => h q (.tail _ hq)
    have hp := h p (.head _)
    unfold prS
    rw [List.length_cons, Nat.mul_add, Nat.mul_one, Nat.add_comm, Nat.pow_add]
    refine Nat.mul_le_mul ?_ ih
    split
    · exact Nat.one_le_two_pow
    · exact hp
theorem LatS.mem {n : Nat} {S T : List (List Int × Nat)} (h : ∀ p, p ∈ S ↔ p ∈ T) {v : Vc} : LatS n S v ↔ LatS n T v :=
  ⟨fun ⟨a, b⟩ => ⟨a, fun p hp => b p ((h p).mpr hp)⟩, fun ⟨a, b⟩ => ⟨a, fun p hp => b p ((h p).mp hp)⟩⟩
theorem LatS.app {n : Nat} {S T : List (List Int × Nat)} {v : Vc} : LatS n (S ++ T) v ↔ LatS n S v ∧ LatS n T v := by
  unfold LatS
  constructor
  · rintro ⟨a, b⟩
    exact ⟨⟨a, fun p hp => b p (List.mem_append.mpr (.inl hp))⟩, a, fun p hp => b p (List.mem_append.mpr (.inr hp))⟩
  · rintro ⟨⟨a, b⟩, _, c⟩
    exact ⟨a, fun p hp => (List.mem_append.mp hp).elim (b p) (c p)⟩
theorem LatS.nil {n : Nat} {v : Vc} : LatS n [] v ↔ ∀ j, n ≤ j → v j = 0 := ⟨fun h => h.1, fun h => ⟨h, fun p hp => by cases hp⟩⟩
theorem LatS.one {n : Nat} {f : List Int} {m : Nat} {v : Vc} : LatS n [(f, m)] v ↔ (∀ j, n ≤ j → v j = 0) ∧ (m : Int) ∣ dv n (fv f) v := by
  unfold LatS; simp
/-- one more form -/
theorem LatS.step {n m : Nat} {S : List (List Int × Nat)} {f : List Int} {B C : List (List Int)} (hB : Hnf n (LatS n S) B) (hC : Hnf n (fun v => Sp (RL B) v ∧ (m : Int) ∣ dv n (fv f) v) C) : Hnf n (LatS n (S ++ [(f, m)])) C :=
  hC.congr fun v => by
    rw [LatS.app, LatS.one, ← hB.span v]
    exact ⟨fun ⟨a, b⟩ => ⟨a, a.1, b⟩, fun ⟨a, _, b⟩ => ⟨a, b⟩⟩
theorem LatS.two {n a b : Nat} {f : List Int} {v : Vc} (h : Nat.gcd a b = 1) : LatS n [(f, a), (f, b)] v ↔ LatS n [(f, a * b)] v := by
  rw [show [(f, a), (f, b)] = [(f, a)] ++ [(f, b)] from rfl, LatS.app, LatS.one, LatS.one, LatS.one]
  constructor
  · rintro ⟨⟨z, h1⟩, _, h2⟩
    refine ⟨z, ?_⟩
    have h1 := Int.ofNat_dvd_left.mp h1
    have h2 := Int.ofNat_dvd_left.mp h2
    exact Int.ofNat_dvd_left.mpr (Nat.Coprime.mul_dvd_of_dvd_of_dvd h h1 h2)
  · rintro ⟨z, h1⟩
    have h1 := Int.ofNat_dvd_left.mp h1
    exact ⟨⟨z, Int.ofNat_dvd_left.mpr (Nat.dvd_trans (Nat.dvd_mul_right _ _) h1)⟩, z, Int.ofNat_dvd_left.mpr (Nat.dvd_trans (Nat.dvd_mul_left _ _) h1)⟩
theorem LatS.ins {n i : Nat} {S : List (List Int × Nat)} {p : List Int × Nat} {v : Vc} : LatS n (S.take i ++ p :: S.drop i) v ↔ LatS n (S ++ [p]) v :=
  LatS.mem fun q => by
    have : q ∈ S ↔ q ∈ S.take i ∨ q ∈ S.drop i := by
      rw [← List.mem_append, List.take_append_drop]
    simp only [List.mem_append, List.mem_cons, this]
    simp
    grind
end Hn
namespace Hn
theorem Hnf.le {n : Nat} {V : Vc → Prop} {C : List (List Int)} (h : Hnf n V C) : C.length ≤ n := by
  obtain ⟨st, e, _, _, rfl⟩ := h
  rw [← e.len]
  exact List.length_filterMap_le _ _
theorem Hnf.units {n : Nat} : Hnf n (LatS n []) (unitB n 1) := by
  have E : EchR n (List.range n) (unitB n 1) := by
    refine ⟨by simp [unitB], List.pairwise_lt_range, fun c hc => List.mem_range.mp hc, fun i c r h1 h2 => ?_⟩
    have hi : i < n := by have := (List.getElem?_eq_some_iff.mp h1).1; simpa using this
    rw [List.getElem?_range hi] at h1
    cases h1
    rw [unitB_at hi] at h2
    cases h2
    refine ⟨by simp, fun j hj => ?_, ?_⟩
    · rw [fv_unitB j hi, if_neg (by omega)]
    · rw [fv_unitB i hi, if_pos rfl]; decide
  refine (E.hnf fun i j c r r' hij h1 h2 h3 => ?_).congr fun v => ⟨fun h => LatS.nil.mpr fun j hj => h.at0 fun u ⟨r, hr, e⟩ => ?_, fun h => ?_⟩
  · have hj : j < n := by have := (List.getElem?_eq_some_iff.mp h1).1; simpa using this
    rw [List.getElem?_range hj] at h1
    cases h1
    rw [unitB_at hj] at h3
    rw [unitB_at (by omega)] at h2
    cases h2
    cases h3
    rw [fv_unitB j (by omega), fv_unitB j hj, if_neg (by omega), if_pos rfl]
    decide
  · obtain ⟨k, hk, rfl⟩ := List.mem_map.mp hr
    rw [e, fv_unitB j (List.mem_range.mp hk), if_neg (by have := List.mem_range.mp hk; omega)]
  · exact (unitB_sp (b := 1) (LatS.nil.mp h)).cast fun j => by show ((1 : Nat) : Int) * v j = v j; omega
end Hn
namespace Hn
/-! ### a form of few generators: few rows, small numbers -/
theorem RL_coef {G : List (List Int)} {v : Vc} (h : Sp (RL G) v) : ∃ z : Nat → Int, ∀ j, v j = sm G.length fun l => z l * gt G l j := by
  induction h with
  | zero => exact ⟨fun _ => 0, fun j => (sm_zero fun s _ => by simp).symm⟩
  | @add u v k h1 _ ih =>
    obtain ⟨r, hr, rfl⟩ := h1
    obtain ⟨i, hi⟩ := List.mem_iff_getElem?.mp hr
    have hl := (List.getElem?_eq_some_iff.mp hi).1
    obtain ⟨b, hb⟩ := ih
    refine ⟨fun l => (if l = i then k else 0) + b l, fun j => ?_⟩
    show k * fv r j + v j = _
    have e1 : sm G.length (fun l => (if l = i then k else 0) * gt G l j) = k * fv r j := by
      rw [sm_one hl (fun s' _ hne => by rw [if_neg hne, Int.zero_mul]), if_pos rfl, gt_at hi]
    rw [hb, ← e1, ← sm_add]
    exact sm_congr fun s _ => by grind
theorem supB (Z : Nat → Nat → Int) : ∀ a b : Nat, ∃ B : Nat, ∀ s l, s < a → l < b → (Z s l).natAbs ≤ B := by
  intro a
  induction a with
  | zero => exact fun b => ⟨0, fun s l hs => by omega⟩
  | succ a ih =>
    intro b
    obtain ⟨B, hB⟩ := ih b
    have row : ∃ B', ∀ l, l < b → (Z a l).natAbs ≤ B' := by
      clear hB
      induction b with
      | zero => exact ⟨0, fun l hl => by omega⟩
      | succ b ihb =>
        obtain ⟨B', hB'⟩ := ihb
        refine ⟨B' + (Z a b).natAbs, fun l hl => ?_⟩
        by_cases e : l = b
        · rw [e]; omega
        · have := hB' l (by omega); omega
    obtain ⟨B', hB'⟩ := row
    refine ⟨B + B', fun s l hs hl => ?_⟩
    by_cases e : s = a
    · rw [e]; have := hB' l hl; omega
    · have := hB s l (by omega) hl; omega
theorem rank_le {m k : Nat} {T : Nat → Vc} {c : Nat → Nat} (h : Tri m T c) {Gv : Nat → Vc} (hg : ∀ s, s < m → ∃ z : Nat → Int, ∀ j, T s j = sm k fun l => z l * Gv l j) : m ≤ k := by
  refine Classical.byContradiction fun hlt => ?_
  have hz : ∀ s, ∃ z : Nat → Int, s < m → ∀ j, T s j = sm k fun l => z l * Gv l j := fun s => by
    by_cases hs : s < m
    · obtain ⟨z, hz⟩ := hg s hs
      exact ⟨z, fun _ => hz⟩
    · exact ⟨fun _ => 0, fun hs' => absurd hs' hs⟩
  obtain ⟨Z, hZ⟩ := Classical.axiomOfChoice hz
  obtain ⟨B, hB⟩ := supB Z m k
  obtain ⟨y, ⟨i0, hi0, hy0⟩, _, ye⟩ := siegel (k := m) (t := k) (M := B + 1) (by omega) (by omega) (fun l s => Z s l) fun l s hl hs => by have := hB s l hs hl; omega
  have z0 : ∀ j, (0 : Int) = sm m fun s => y s * T s j := fun j => by
    have e1 : sm m (fun s => y s * T s j) = sm m (fun s => sm k fun l => Gv l j * (Z s l * y s)) := sm_congr fun s hs => by
      rw [hZ s hs, ← sm_mul]
      exact sm_congr fun l _ => by grind
    rw [e1, sm_swap]
    refine (sm_zero fun l hl => ?_).symm
    rw [sm_mul, ye l hl, Int.mul_zero]
  exact hy0 (h.coef (v := fun _ => 0) z0 (k := m) (Nat.le_refl _) (fun i hi => rfl) i0 hi0)
theorem EchR.tri {n : Nat} {cs : List Nat} {R : List (List Int)} (e : EchR n cs R) : Tri R.length (gt R) (fun i => cs.getD i 0) := by
  have at_ : ∀ s, s < R.length → ∃ c r, cs[s]? = some c ∧ R[s]? = some r ∧ cs.getD s 0 = c ∧ gt R s = fv r := fun s hs => by
    have h1 : s < cs.length := by rw [e.len]; exact hs
    exact ⟨cs[s], R[s], List.getElem?_eq_getElem h1, List.getElem?_eq_getElem hs, by rw [List.getD_eq_getElem?_getD, List.getElem?_eq_getElem h1]; rfl, gt_at (List.getElem?_eq_getElem hs)⟩
  refine ⟨fun s i hs hi => ?_, fun s hs => ?_⟩
  · obtain ⟨c, r, a1, a2, a3, a4⟩ := at_ s hs
    obtain ⟨c', r', b1, b2, b3, b4⟩ := at_ i (by omega)
    rw [a4, b3]
    refine (e.row s c r a1 a2).2.1 c' ?_
    have p := List.pairwise_iff_getElem.mp e.asc i s (List.getElem?_eq_some_iff.mp b1).1 (List.getElem?_eq_some_iff.mp a1).1 hi
    rw [(List.getElem?_eq_some_iff.mp b1).2, (List.getElem?_eq_some_iff.mp a1).2] at p
    exact p
  · obtain ⟨c, r, a1, a2, a3, a4⟩ := at_ s hs
    rw [a4, a3]
    have := (e.row s c r a1 a2).2.2
    omega
theorem Hnf.few {n M k : Nat} {V : Vc → Prop} {C G : List (List Int)} (hC : Hnf n V C) (hV : ∀ v, V v ↔ Sp (RL G) v) (hk : G.length ≤ k) (hM : 1 ≤ M) (hG : ∀ r ∈ G, bnd M (fv r)) : C.length ≤ k ∧ ∀ r ∈ C, bnd (pinB 1 (k + 1) M) (fv r) := by
  have hlen : C.length ≤ k := by
    obtain ⟨cs, e⟩ := hC.ech
    refine Nat.le_trans (rank_le e.tri fun s hs => RL_coef ((hV _).mp ((hC.span _).mpr (.of ?_)))) hk
    exact ⟨_, List.mem_of_getElem? (List.getElem?_eq_getElem hs), gt_at (List.getElem?_eq_getElem hs)⟩
  refine ⟨hlen, ?_⟩
  obtain ⟨st, e, red, sp, rfl⟩ := hC
  have hR : ∀ u, RL G u → bnd M u := fun u ⟨r, hr, e⟩ => e ▸ hG r hr
  have g : GensM ((1 : Nat) : Int) (cols st).length (TI st) (RL G) := by
    refine ⟨fun s hs => (hV _).mp ((sp _).mp ((gens_self st).ts s hs)), fun u hu => ?_⟩
    have := (gens_self st).sp ((sp _).mpr ((hV _).mpr (.of hu)))
    obtain ⟨z, hz⟩ := this
    exact ⟨z, fun j => by rw [← hz]; simp⟩
  have mk : (cols st).length ≤ k := Nat.le_trans (rank_le e.tri fun s hs => RL_coef (g.ts s hs)) hk
  have z0 : ((1 : Nat) : Int) ≠ 0 := by omega
  have piv : ∀ c l, st[c]? = some (some l) → (fv l c).natAbs ≤ 1 * pB (k + 1) M := fun c l hc => by
    obtain ⟨i, hi, ei⟩ := cI_of hc
    have := piv_boundM (n := k + 1) z0 hM e.tri g (fun u hu i _ => hR u hu _) (by omega) hi
    unfold TI at this
    rw [ei, hc] at this
    exact this
  intro r hr
  obtain ⟨x, hx, ex⟩ := List.mem_filterMap.mp hr
  change x = some r at ex
  subst ex
  obtain ⟨c, hc⟩ := List.mem_iff_getElem?.mp hx
  have vR : Sp (RL G) (fv r) := (hV _).mp ((sp _).mp (.of ⟨c, r, hc, rfl⟩))
  have at_ : ∀ c' l, st[c']? = some (some l) → (fv r c').natAbs ≤ 1 * pB (k + 1) M := fun c' l hl => by
    rcases Nat.lt_trichotomy c' c with h | h | h
    · rw [e.lo _ _ _ hc h]; simp
    · subst h
      rw [hc] at hl
      cases hl
      exact piv _ _ hc
    · have := red _ _ _ _ hc h hl
      have := piv _ _ hl
      omega
  refine bnd_out (e.row _ _ hc) fun j hj => ?_
  by_cases hst : ∃ l, st[j]? = some (some l)
  · obtain ⟨l, hl⟩ := hst
    exact Nat.le_trans (at_ j l hl) (Nat.le_add_right _ _)
  · obtain ⟨x, d, d0, dB, xB, hf⟩ := form_boundM (n := k + 1) z0 hM e.tri g hR (by omega) j
    have f1 := hf _ vR
    generalize hm : (cols st).length = m at *
    have hci : ∀ i, i < m → (fv r (cI st i)).natAbs ≤ 1 * pB (k + 1) M := fun i hi => at_ _ _ (cI_step (by omega))
    have key : d * fv r j = -(sm m fun i => x i * fv r (cI st i)) := by omega
    have b2 : (d * fv r j).natAbs ≤ (k + 1) * ((2 * (k + 1) * M) ^ (k + 1) * (1 * pB (k + 1) M)) := by
      rw [key, Int.natAbs_neg]
      refine Nat.le_trans (sm_abs (B := (2 * (k + 1) * M) ^ (k + 1) * (1 * pB (k + 1) M)) fun i hi => ?_) (Nat.mul_le_mul_right _ (by omega))
      rw [Int.natAbs_mul]
      exact Nat.mul_le_mul (xB i hi) (hci i hi)
    have hd : (fv r j).natAbs ≤ (d * fv r j).natAbs := by
      rw [Int.natAbs_mul]
      exact Nat.le_mul_of_pos_left _ (by omega)
    unfold pinB
    omega
end Hn
namespace Hn
/-! ### the index of a lattice in another one -/
structure Lat (L : Vc → Prop) : Prop where
  z : L fun _ => 0
  c : ∀ (k : Int) (u v : Vc), L u → L v → L fun j => k * u j + v j
theorem Lat.cast {L : Vc → Prop} {u v : Vc} (h : L u) (e : ∀ j, u j = v j) : L v := (funext e : u = v) ▸ h
theorem Lat.sub {L : Vc → Prop} (l : Lat L) {u v : Vc} (hu : L u) (hv : L v) : L fun j => u j - v j := Lat.cast (l.c (-1) v u hv hu) fun j => by omega
theorem Lat.add {L : Vc → Prop} (l : Lat L) {u v : Vc} (hu : L u) (hv : L v) : L fun j => u j + v j := Lat.cast (l.c 1 u v hu hv) fun j => by omega
theorem Lat.mul {L : Vc → Prop} (l : Lat L) (k : Int) {u : Vc} (hu : L u) : L fun j => k * u j := Lat.cast (l.c k u _ hu l.z) fun j => by omega
theorem Lat.sp (R : Vc → Prop) : Lat (Sp R) := ⟨.zero, fun k u v hu hv => (hu.mul k).plus hv⟩
def Idx (L M : Vc → Prop) (N : Nat) : Prop := ∃ A : List Vc, A.length = N ∧ (∀ u ∈ A, L u) ∧ A.Pairwise (fun u w => ¬ M fun j => u j - w j) ∧ ∀ v, L v → ∃ u ∈ A, M fun j => v j - u j
theorem idx_le {M : Vc → Prop} (hM : Lat M) : ∀ {A B : List Vc}, A.Pairwise (fun u w => ¬ M fun j => u j - w j) → (∀ u ∈ A, ∃ w ∈ B, M fun j => u j - w j) → A.length ≤ B.length
  | [], B, _, _ => Nat.zero_le _
  | a :: A, B, p, h => by
    obtain ⟨b, hb, e⟩ := h a (.head _)
    obtain ⟨B1, B2, rfl⟩ := List.append_of_mem hb
    rw [List.pairwise_cons] at p
    have ih := idx_le hM (A := A) (B := B1 ++ B2) p.2 fun u hu => by
      obtain ⟨w, hw, ew⟩ := h u (.tail _ hu)
      have nb : w ≠ b := fun e' => p.1 u hu (by
        subst e'
        exact Lat.cast (hM.sub e ew) fun j => by omega)
      refine ⟨w, ?_, ew⟩
      simp only [List.mem_append, List.mem_cons] at hw ⊢
      rcases hw with h | h | h
      · exact .inl h
      · exact absurd h nb
      · exact .inr h
    simp only [List.length_append, List.length_cons] at ih ⊢
    omega
theorem Idx.uniq {L M : Vc → Prop} (hM : Lat M) {N K : Nat} (h : Idx L M N) (g : Idx L M K) : N = K := by
  obtain ⟨A, rfl, a1, a2, a3⟩ := h
  obtain ⟨B, rfl, b1, b2, b3⟩ := g
  exact Nat.le_antisymm (idx_le hM a2 fun u hu => b3 u (a1 u hu)) (idx_le hM b2 fun u hu => a3 u (b1 u hu))
theorem Idx.congr {L L' M M' : Vc → Prop} {N : Nat} (h : Idx L M N) (e1 : ∀ v, L v ↔ L' v) (e2 : ∀ v, M v ↔ M' v) : Idx L' M' N := by
  obtain ⟨A, a0, a1, a2, a3⟩ := h
  exact ⟨A, a0, fun u hu => (e1 u).mp (a1 u hu), a2.imp fun h' g => h' ((e2 _).mpr g), fun v hv => let ⟨u, hu, g⟩ := a3 v ((e1 v).mpr hv); ⟨u, hu, (e2 _).mp g⟩⟩
theorem Idx.self {L : Vc → Prop} (l : Lat L) : Idx L L 1 := ⟨[fun _ => 0], rfl, fun u hu => List.mem_singleton.mp hu ▸ l.z, List.pairwise_singleton _ _, fun v hv => ⟨_, .head _, Lat.cast hv fun j => by omega⟩⟩
theorem Idx.pos {L M : Vc → Prop} (l : Lat L) {N : Nat} (h : Idx L M N) : 1 ≤ N := by
  obtain ⟨A, rfl, a1, a2, a3⟩ := h
  obtain ⟨u, hu, _⟩ := a3 _ l.z
  exact List.length_pos_of_mem hu
theorem Idx.mul {L M Q : Vc → Prop} (hL : Lat L) (hM : Lat M) (sM : ∀ v, M v → L v) (sQ : ∀ v, Q v → M v) {N K : Nat} (h : Idx L M N) (g : Idx M Q K) : Idx L Q (N * K) := by
  obtain ⟨A, rfl, a1, a2, a3⟩ := h
  obtain ⟨B, rfl, b1, b2, b3⟩ := g
  refine ⟨A.flatMap fun a => B.map fun b => fun j => a j + b j, ?_, fun u hu => ?_, ?_, fun v hv => ?_⟩
  · rw [List.length_flatMap]
    have : (A.map fun a => (B.map fun b => fun j => a j + b j).length) = A.map fun _ => B.length := List.map_congr_left fun a _ => List.length_map _
    rw [this, List.map_const', List.sum_replicate_nat]
  · obtain ⟨a, ha, hu⟩ := List.mem_flatMap.mp hu
    obtain ⟨b, hb, rfl⟩ := List.mem_map.mp hu
    exact hL.add (a1 a ha) (sM b (b1 b hb))
  · rw [List.pairwise_flatMap]
    refine ⟨fun a _ => ?_, a2.imp fun {a a'} h' x hx y hy q => h' ?_⟩
    · rw [List.pairwise_map]
      exact b2.imp fun {b b'} h' q => h' (Lat.cast q fun j => by show (a j + b j) - (a j + b' j) = b j - b' j; omega)
    · obtain ⟨b, hb, rfl⟩ := List.mem_map.mp hx
      obtain ⟨b', hb', rfl⟩ := List.mem_map.mp hy
      exact Lat.cast (hM.add (sQ _ q) (hM.sub (b1 b' hb') (b1 b hb))) fun j => by show (a j + b j) - (a' j + b' j) + (b' j - b j) = a j - a' j; omega
  · obtain ⟨a, ha, e⟩ := a3 v hv
    obtain ⟨b, hb, e'⟩ := b3 _ e
    exact ⟨_, List.mem_flatMap.mpr ⟨a, ha, List.mem_map.mpr ⟨b, hb, rfl⟩⟩, Lat.cast e' fun j => by omega⟩
/-- a lattice by one more vector -/
theorem Idx.cyc {L M : Vc → Prop} (hL : Lat L) (hM : Lat M) {u : Vc} {b : Nat} (hb : 1 ≤ b) (hu : L u) (gen : ∀ v, L v → ∃ t : Int, M fun j => v j - t * u j) (bu : M fun j => (b : Int) * u j) (tor : ∀ t : Int, M (fun j => t * u j) → (b : Int) ∣ t) : Idx L M b := by
  refine ⟨(List.range b).map fun (t : Nat) => fun j => (t : Int) * u j, by simp, fun x hx => ?_, ?_, fun v hv => ?_⟩
  · obtain ⟨t, _, rfl⟩ := List.mem_map.mp hx
    exact hL.mul _ hu
  · rw [List.pairwise_map, List.pairwise_iff_getElem]
    intro i j hi hj hij q
    rw [List.length_range] at hi hj
    rw [List.getElem_range, List.getElem_range] at q
    have := tor ((i : Int) - j) (Lat.cast q fun k => by grind)
    have := Int.le_of_dvd (a := b) (b := (j : Int) - i) (by omega) (by rw [← Int.dvd_neg]; rwa [show -((j : Int) - i) = (i : Int) - j by omega])
    omega
  · obtain ⟨t, ht⟩ := gen v hv
    have h0 := Int.emod_nonneg t (b := (b : Int)) (by omega)
    have h1 := Int.emod_lt_of_pos t (b := (b : Int)) (by omega)
    refine ⟨_, List.mem_map.mpr ⟨(t % (b : Int)).toNat, List.mem_range.mpr (by omega), rfl⟩, ?_⟩
    refine Lat.cast (hM.add ht (hM.mul (t / b) bu)) fun j => ?_
    show _ = v j - ((t % b).toNat : Int) * u j
    rw [Int.toNat_of_nonneg h0]
    have := Int.mul_ediv_add_emod t b
    grind
end Hn
namespace Hn
/-! ### the index by the pivots -/
def pP : List Nat → List (List Int) → Int
  | c :: cs, r :: R => fv r c * pP cs R
  | _, _ => 1
theorem pP_set : ∀ {cs : List Nat} {R : List (List Int)} {k c : Nat} {r : List Int} (r' : List Int), cs[k]? = some c → R[k]? = some r → pP cs (R.set k r') * fv r c = fv r' c * pP cs R
  | [], _, k, c, r, r', h, _ => by simp at h
  | _ :: _, [], k, c, r, r', _, h => by simp at h
  | c0 :: cs, r0 :: R, 0, c, r, r', h1, h2 => by
    obtain rfl : c0 = c := by simpa using h1
    obtain rfl : r0 = r := by simpa using h2
    show fv r' c0 * pP cs R * fv r0 c0 = fv r' c0 * (fv r0 c0 * pP cs R)
    grind
  | c0 :: cs, r0 :: R, k + 1, c, r, r', h1, h2 => by
    have ih := pP_set (cs := cs) (R := R) (k := k) r' h1 h2
    show fv r0 c0 * pP cs (R.set k r') * fv r c = fv r' c * (fv r0 c0 * pP cs R)
    grind
theorem sub_sorted : ∀ {cs ds : List Nat}, cs.Pairwise (· < ·) → ds.Pairwise (· < ·) → (∀ d ∈ ds, d ∈ cs) → ds.length ≤ cs.length ∧ (ds.length = cs.length → ds = cs)
  | [], ds, _, _, h => by
    cases ds with
    | nil => simp
    | cons d ds => exact absurd (h d (.head _)) (by simp)
  | c :: cs, [], _, _, _ => by simp
  | c :: cs, d :: ds, p, q, h => by
    rw [List.pairwise_cons] at p q
    by_cases e : d = c
    · subst e
      have ih := sub_sorted p.2 q.2 fun x hx => by
        rcases List.mem_cons.mp (h x (.tail _ hx)) with e | e
        · have := q.1 x hx; omega
        · exact e
      refine ⟨by simpa using ih.1, fun e => ?_⟩
      rw [ih.2 (by simpa using e)]
    · have dm : d ∈ cs := (List.mem_cons.mp (h d (.head _))).resolve_left e
      have ih := sub_sorted (cs := cs) (ds := d :: ds) p.2 (List.pairwise_cons.mpr q) fun x hx => by
        rcases List.mem_cons.mp hx with e2 | e2
        · exact e2 ▸ dm
        · have a := p.1 d dm
          have b := q.1 x e2
          rcases List.mem_cons.mp (h x (.tail _ e2)) with e3 | e3
          · omega
          · exact e3
      have := ih.1
      simp only [List.length_cons] at this ⊢
      exact ⟨by omega, fun e => by omega⟩
theorem Sp.sumz {R : Vc → Prop} {us : Nat → Vc} (y : Nat → Int) : ∀ {m : Nat}, (∀ t, t < m → y t = 0 ∨ Sp R (us t)) → Sp R fun j => sm m fun t => y t * us t j
  | 0, _ => Sp.zero.cast fun j => rfl
  | m + 1, h => by
    have ih := Sp.sumz y (m := m) fun t ht => h t (by omega)
    rcases h m (by omega) with e | e
    · refine ih.cast fun j => ?_
      show _ = sm m (fun t => y t * us t j) + y m * us m j
      rw [e]; omega
    · exact ((e.mul (y m)).plus ih).cast fun j => by
        show y m * us m j + _ = sm m (fun t => y t * us t j) + y m * us m j
        omega
theorem EchR.set {n : Nat} {cs : List Nat} {E : List (List Int)} (e : EchR n cs E) {k c : Nat} {r' : List Int} (hc : cs[k]? = some c) (hl : r'.length = n) (h0 : ∀ j, j < c → fv r' j = 0) (hp : 0 < fv r' c) : EchR n cs (E.set k r') := by
  refine ⟨by rw [List.length_set]; exact e.len, e.asc, e.lt, fun i c' r h1 h2 => ?_⟩
  rw [List.getElem?_set] at h2
  by_cases hk : k = i
  · subst hk
    rw [if_pos rfl] at h2
    split at h2
    · cases h2
      rw [hc] at h1; cases h1
      exact ⟨hl, h0, hp⟩
    · cases h2
  · rw [if_neg hk] at h2
    exact e.row i c' r h1 h2
theorem piv_step {n : Nat} {cs : List Nat} {C E : List (List Int)} (eC : EchR n cs C) (eE : EchR n cs E) {k c : Nat} {r r' : List Int} (hc : cs[k]? = some c) (hr : C[k]? = some r) (hE : ∀ i, k ≤ i → E[i]? = C[i]?) (hl : r'.length = n) (h0 : ∀ j, j < c → fv r' j = 0) (hp : 0 < fv r' c) (hs : Sp (RL C) (fv r')) :
    ∃ b : Nat, 1 ≤ b ∧ Idx (Sp (RL E)) (Sp (RL (E.set k r'))) b ∧ (∀ v, Sp (RL (E.set k r')) v → Sp (RL E) v) ∧ pP cs (E.set k r') = b * pP cs E ∧ ∀ v, Sp (RL E) v → Sp (RL (E.set k r')) fun j => (b : Int) * v j := by
  have kl : k < C.length := (List.getElem?_eq_some_iff.mp hr).1
  have El : E.length = C.length := by rw [← eE.len, eC.len]
  have eE' := eE.set hc hl h0 hp
  have hEk : E[k]? = some r := (hE k (Nat.le_refl _)).trans hr
  have ck : cs.getD k 0 = c := by rw [List.getD_eq_getElem?_getD, hc]; rfl
  have lt_c : ∀ i, i < k → cs.getD i 0 < c := fun i hi => by
    have hil : i < cs.length := by rw [eC.len]; omega
    rw [List.getD_eq_getElem?_getD, List.getElem?_eq_getElem hil]
    exact asc_lt eC.asc hi (List.getElem?_eq_getElem hil) hc
  have rp := (eC.row k c r hc hr).2.2
  have rz : ∀ i, i < k → fv r (cs.getD i 0) = 0 := fun i hi => (eC.row k c r hc hr).2.1 _ (lt_c i hi)
  obtain ⟨z, hz⟩ := RL_coef hs
  have z0 : ∀ i, i < k → z i = 0 := eC.tri.coef (v := fv r') hz (k := k) (by omega) fun i hi => h0 _ (lt_c i hi)
  have zk : fv r' c = z k * fv r c := by
    rw [hz, sm_one kl (fun s hs' hne => ?_), gt_at hr]
    by_cases hlt : s < k
    · rw [z0 s hlt, Int.zero_mul]
    · have := eC.tri.lo s k hs' (by omega)
      rw [ck] at this
      rw [this, Int.mul_zero]
  have zp : 0 < z k := by
    rw [zk] at hp
    exact Int.pos_of_mul_pos_left hp rp
  obtain ⟨b, hb⟩ : ∃ b : Nat, z k = (b : Int) := ⟨(z k).toNat, by omega⟩
  -- members
  have memE : ∀ i, i < E.length → Sp (RL E) (gt E i) := fun i hi => .of ⟨_, List.mem_of_getElem? (List.getElem?_eq_getElem hi), gt_at (List.getElem?_eq_getElem hi)⟩
  have memE' : ∀ i, i < E.length → i ≠ k → Sp (RL (E.set k r')) (gt E i) := fun i hi hne => .of ⟨E[i], List.mem_of_getElem? (i := i) (by rw [List.getElem?_set, if_neg (Ne.symm hne)]; exact List.getElem?_eq_getElem hi), gt_at (List.getElem?_eq_getElem hi)⟩
  have hE'k : (E.set k r')[k]? = some r' := by rw [List.getElem?_set, if_pos rfl, if_pos (by omega)]
  have memr' : Sp (RL (E.set k r')) (fv r') := .of ⟨r', List.mem_of_getElem? hE'k, rfl⟩
  have memr : Sp (RL E) (fv r) := .of ⟨r, List.mem_of_getElem? hEk, rfl⟩
  have gC : ∀ i, k ≤ i → gt C i = gt E i := fun i hi => by unfold gt; rw [List.getD_eq_getElem?_getD, List.getD_eq_getElem?_getD, hE i hi]
  have r'E : Sp (RL E) (fv r') := (Sp.sumz (us := gt C) z (m := C.length) fun t ht => by
    by_cases hlt : t < k
    · exact .inl (z0 t hlt)
    · rw [gC t (by omega)]; exact .inr (memE t (by omega))).cast fun j => (hz j).symm
  have sub : ∀ v, Sp (RL (E.set k r')) v → Sp (RL E) v := fun v hv => by
    obtain ⟨y, hy⟩ := RL_coef hv
    refine (Sp.sumz (us := gt (E.set k r')) y (m := (E.set k r').length) fun t ht => .inr ?_).cast fun j => (hy j).symm
    rw [List.length_set] at ht
    by_cases e : t = k
    · rw [e, gt_at hE'k]; exact r'E
    · have : (E.set k r')[t]? = some E[t] := by rw [List.getElem?_set, if_neg (Ne.symm e)]; exact List.getElem?_eq_getElem ht
      rw [gt_at this, ← gt_at (List.getElem?_eq_getElem ht)]
      exact memE t ht
  have gen : ∀ v, Sp (RL E) v → ∃ t : Int, Sp (RL (E.set k r')) fun j => v j - t * fv r j := fun v hv => by
    obtain ⟨y, hy⟩ := RL_coef hv
    refine ⟨y k, ?_⟩
    refine (Sp.sumz (us := gt E) (fun s => if s = k then 0 else y s) (m := E.length) fun t ht => ?_).cast fun j => ?_
    · by_cases e : t = k
      · exact .inl (if_pos e)
      · exact .inr (memE' t ht e)
    · have e1 : sm E.length (fun s => (if s = k then y k else 0) * gt E s j) = y k * fv r j := by
        rw [sm_one (by omega : k < E.length) (fun s _ hne => by rw [if_neg hne, Int.zero_mul]), if_pos rfl, gt_at hEk]
      have e2 : v j = sm E.length (fun s => (if s = k then 0 else y s) * gt E s j) + sm E.length (fun s => (if s = k then y k else 0) * gt E s j) := by
        rw [hy, ← sm_add]
        exact sm_congr fun s _ => by
          by_cases e : s = k
          · rw [if_pos e, if_pos e, e]; omega
          · rw [if_neg e, if_neg e]; omega
      rw [e2, e1]; omega
  have bu : Sp (RL (E.set k r')) fun j => (b : Int) * fv r j := by
    have h1 : Sp (RL (E.set k r')) (fun j => sm C.length fun s => (if s = k then 0 else z s) * gt C s j) := Sp.sumz (us := gt C) (fun s => if s = k then 0 else z s) fun t ht => by
      by_cases e : t = k
      · exact .inl (if_pos e)
      · by_cases hlt : t < k
        · exact .inl (by rw [if_neg e]; exact z0 t hlt)
        · rw [gC t (by omega)]
          exact .inr (memE' t (by omega) e)
    refine ((Lat.sp _).sub memr' h1).cast fun j => ?_
    have e1 : sm C.length (fun s => (if s = k then z k else 0) * gt C s j) = z k * fv r j := by
      rw [sm_one kl (fun s _ hne => by rw [if_neg hne, Int.zero_mul]), if_pos rfl, gt_at hr]
    have e2 : fv r' j = sm C.length (fun s => (if s = k then 0 else z s) * gt C s j) + sm C.length (fun s => (if s = k then z k else 0) * gt C s j) := by
      rw [hz, ← sm_add]
      exact sm_congr fun s _ => by
        by_cases e : s = k
        · rw [if_pos e, if_pos e, e]; omega
        · rw [if_neg e, if_neg e]; omega
    rw [e2, e1, hb]; omega
  refine ⟨b, by omega, Idx.cyc (u := fv r) (Lat.sp _) (Lat.sp _) (by omega) memr gen bu (fun t ht => ?_), sub, ?_, fun v hv => ?_⟩
  · obtain ⟨y, hy⟩ := RL_coef ht
    have El' : (E.set k r').length = C.length := by rw [List.length_set]; exact El
    have y0 : ∀ i, i < k → y i = 0 := eE'.tri.coef (v := fun j => t * fv r j) hy (k := k) (by omega) fun i hi => by
      show t * fv r (cs.getD i 0) = 0
      rw [rz i hi, Int.mul_zero]
    have yk : t * fv r c = y k * fv r' c := by
      rw [show t * fv r c = _ from hy c, sm_one (by omega : k < (E.set k r').length) (fun s hs' hne => ?_), gt_at hE'k]
      by_cases hlt : s < k
      · rw [y0 s hlt, Int.zero_mul]
      · have := eE'.tri.lo s k hs' (by omega)
        rw [ck] at this
        rw [this, Int.mul_zero]
    rw [zk, hb, ← Int.mul_assoc] at yk
    have := Int.eq_of_mul_eq_mul_right (by omega) yk
    exact ⟨y k, by rw [this, Int.mul_comm]⟩
  · have := pP_set r' hc hEk
    rw [zk, hb] at this
    exact Int.eq_of_mul_eq_mul_right (a := fv r c) (by omega) (by rw [this]; grind)
  · obtain ⟨t, ht⟩ := gen v hv
    exact ((ht.mul (b : Int)).plus (bu.mul t)).cast fun j => by grind
theorem Idx.piv {n : Nat} {cs : List Nat} {C D : List (List Int)} (eC : EchR n cs C) (eD : EchR n cs D) (sub : ∀ r ∈ D, Sp (RL C) (fv r)) : ∃ N : Nat, 1 ≤ N ∧ Idx (Sp (RL C)) (Sp (RL D)) N ∧ pP cs D = N * pP cs C ∧ ∀ v, Sp (RL C) v → Sp (RL D) fun j => (N : Int) * v j := by
  have Dl : D.length = C.length := by rw [← eD.len, eC.len]
  have key : ∀ k, k ≤ C.length → ∃ (E : List (List Int)) (N : Nat), 1 ≤ N ∧ EchR n cs E ∧ (∀ i, k ≤ i → E[i]? = C[i]?) ∧ (∀ i, i < k → E[i]? = D[i]?) ∧ Idx (Sp (RL C)) (Sp (RL E)) N ∧ (∀ v, Sp (RL E) v → Sp (RL C) v) ∧ pP cs E = N * pP cs C ∧ ∀ v, Sp (RL C) v → Sp (RL E) fun j => (N : Int) * v j := by
    intro k
    induction k with
    | zero => exact fun _ => ⟨C, 1, Nat.le_refl _, eC, fun _ _ => rfl, fun i hi => by omega, Idx.self (Lat.sp _), fun _ h => h, by simp, fun v hv => hv.cast fun j => by simp⟩
    | succ k ih =>
      intro hk
      obtain ⟨E, N, n1, eE, a1, a2, a3, a4, a5, a6⟩ := ih (by omega)
      have hcl : k < cs.length := by rw [eC.len]; omega
      have hc : cs[k]? = some cs[k] := List.getElem?_eq_getElem hcl
      have hr : C[k]? = some C[k] := List.getElem?_eq_getElem (by omega)
      have hdl : k < D.length := by omega
      have hd : D[k]? = some D[k] := List.getElem?_eq_getElem hdl
      obtain ⟨d1, d2, d3⟩ := eD.row k _ _ hc hd
      obtain ⟨b, b1, b2, b3, b4, b5⟩ := piv_step eC eE hc hr a1 d1 d2 d3 (sub _ (List.mem_of_getElem? hd))
      refine ⟨E.set k D[k], N * b, Nat.mul_pos n1 b1, eE.set hc d1 d2 d3, fun i hi => ?_, fun i hi => ?_, Idx.mul (Lat.sp _) (Lat.sp _) a4 b3 a3 b2, fun v hv => a4 v (b3 v hv), by rw [b4, a5, Int.natCast_mul]; grind, fun v hv => (b5 _ (a6 v hv)).cast fun j => by rw [Int.natCast_mul]; grind⟩
      · rw [List.getElem?_set, if_neg (by omega)]; exact a1 i (by omega)
      · rw [List.getElem?_set]
        by_cases e : k = i
        · subst e
          have El : E.length = C.length := by rw [← eE.len, eC.len]
          rw [if_pos rfl, if_pos (by omega), hd]
        · rw [if_neg e]; exact a2 i (by omega)
  obtain ⟨E, N, n1, eE, a1, a2, a3, a4, a5, a6⟩ := key C.length (Nat.le_refl _)
  have : E = D := List.ext_getElem? fun i => by
    by_cases h : i < C.length
    · exact a2 i h
    · rw [a1 i (by omega), List.getElem?_eq_none (by omega), List.getElem?_eq_none (by omega)]
  subst this
  exact ⟨N, n1, a3, a5, a6⟩
end Hn
set_option maxHeartbeats 4000000
namespace Hg
open PySem PySem.Spec PyProof.Rows L2
/-! ### products of pivots, class counts, saturations -/
end Hg
namespace Hn
def VanP (n : Nat) (R : List (List Int)) (v : Vc) : Prop := (∀ j, n ≤ j → v j = 0) ∧ ∀ r ∈ R, dv n (fv r) v = 0
/-- the saturation: what every form that vanishes on the lattice vanishes at -/
def SatP (n : Nat) (R : List (List Int)) (v : Vc) : Prop := (∀ j, n ≤ j → v j = 0) ∧ ∀ x, VanP n R x → dv n x v = 0
end Hn
namespace Hg
open PySem PySem.Spec PyProof.Rows L2
end Hg
namespace Hn
/-- a count as the program tells it, and an index as another way tells it -/
def Cnt (C D : List (List Int)) (N : Nat) : Prop := (D.length < C.length → N = 0) ∧ (D.length = C.length → 1 ≤ N ∧ Idx (Sp (RL C)) (Sp (RL D)) N)
theorem Cnt.eq {C D : List (List Int)} {N K : Nat} (h : Cnt C D N) (g0 : K = 0 → D.length < C.length) (g1 : K ≠ 0 → D.length = C.length ∧ Idx (Sp (RL C)) (Sp (RL D)) K) : N = K := by
  by_cases hk : K = 0
  · rw [hk]; exact h.1 (g0 hk)
  · obtain ⟨a, b⟩ := g1 hk
    exact (h.2 a).2.uniq (Lat.sp _) b
end Hn
namespace Hg
open PySem PySem.Spec PyProof.Rows L2
/-- a list's places: pairs of a form and its modulus -/
def PairsIn (H : Hp) (as : List Addr) (S : List (List Int × Nat)) : Prop := as.length = S.length ∧ ∀ (i : Nat) (a : Addr) (p : List Int × Nat), as[i]? = some a → S[i]? = some p → ∃ fa : Addr, H a = some (.tup [.ref fa, .int (p.2 : Nat)]) ∧ H fa = some (.tup (iV p.1))
theorem PairsIn.mono {H H' : Hp} {as : List Addr} {S : List (List Int × Nat)} (h : PairsIn H as S) (k : ∀ a xs, H a = some (.tup xs) → H' a = some (.tup xs)) : PairsIn H' as S :=
  ⟨h.1, fun i a p h1 h2 => let ⟨fa, x, y⟩ := h.2 i a p h1 h2; ⟨fa, k _ _ x, k _ _ y⟩⟩
def okP (n : Nat) (p : List Int × Nat) : Prop := p.1.length = n ∧ Hn.bnd 99 (Hn.fv p.1) ∧ p.2 ≤ 2 ^ 20
theorem sm8_2 {x : Nat} (h : x < 40000000) : sm8 (2 ^ x) := by unfold sm8; rw [Nat.log2_two_pow]; exact h
end Hg
namespace Hg
open PySem PySem.Spec PyProof.Rows L2
end Hg
namespace Hg
open PySem PySem.Spec PyProof.Rows L2
theorem PairsIn.nil {H : Hp} : PairsIn H [] [] := ⟨rfl, fun i a r h => by simp at h⟩
theorem PairsIn.one {H : Hp} {a fa : Addr} {f : List Int} {m : Nat} (h : H a = some (.tup [.ref fa, .int (m : Nat)])) (hf : H fa = some (.tup (iV f))) : PairsIn H [a] [(f, m)] :=
  ⟨rfl, fun i b p h1 h2 => by
    cases i with
    | zero => cases h1; cases h2; exact ⟨fa, h, hf⟩
    | succ i => simp at h1⟩
theorem PairsIn.take {H : Hp} {as : List Addr} {R : List (List Int × Nat)} (h : PairsIn H as R) (k : Nat) : PairsIn H (as.take k) (R.take k) := by
  refine ⟨by rw [List.length_take, List.length_take, h.1], fun i a p h1 h2 => ?_⟩
  rw [List.getElem?_take] at h1 h2
  split at h1
  · rename_i hi
    rw [if_pos hi] at h2
    exact h.2 i a p h1 h2
  · cases h1
theorem PairsIn.drop {H : Hp} {as : List Addr} {R : List (List Int × Nat)} (h : PairsIn H as R) (k : Nat) : PairsIn H (as.drop k) (R.drop k) := by
  refine ⟨by rw [List.length_drop, List.length_drop, h.1], fun i a p h1 h2 => ?_⟩
  rw [List.getElem?_drop] at h1 h2
  exact h.2 _ a p h1 h2
/-- a pair at a place -/
theorem PairsIn.at_ {H : Hp} {as : List Addr} {S : List (List Int × Nat)} (h : PairsIn H as S) {i : Nat} {a : Addr} (ha : as[i]? = some a) : ∃ (fa : Addr) (f : List Int) (m : Nat), S[i]? = some (f, m) ∧ H a = some (.tup [.ref fa, .int (m : Nat)]) ∧ H fa = some (.tup (iV f)) := by
  have hi := (List.getElem?_eq_some_iff.mp ha).1
  have hl : i < S.length := by rw [← h.1]; exact hi
  have hs : S[i]? = some S[i] := List.getElem?_eq_getElem hl
  obtain ⟨fa, h1, h2⟩ := h.2 i a _ ha hs
  exact ⟨fa, _, _, hs, h1, h2⟩
theorem okP.mod {n m m' : Nat} {f : List Int} (h : okP n (f, m)) (hm : m' ≤ m) : okP n (f, m') := ⟨h.1, h.2.1, Nat.le_trans hm h.2.2⟩
end Hg
namespace Hg
open PySem PySem.Spec PyProof.Rows L2
/-- a list of parts beside the list that is made -/
structure PrtIn (n : Nat) (f : List Int) (m : Nat) (s q Lf pl fb : Addr) (bs : List Addr) (T : List (List Int × Nat)) (H : Hp) : Prop where
  lf : H Lf = some (.lst (bs.map V.ref))
  tin : PairsIn H bs T
  n1 : pl ≠ s
  n2 : pl ≠ q
  n3 : pl ≠ Lf
  ex : ∃ (g : List Int) (ps : List Addr) (P : List (List Int × Nat)), H pl = some (.lst (ps.map V.ref)) ∧ PairsIn H ps P ∧ H fb = some (.tup (iV g)) ∧ okP n (g, m) ∧ (∀ p ∈ P, okP n p) ∧ P.length ≤ 2 ∧ (∀ v, Hn.LatS n P v ↔ Hn.LatS n [(f, m)] v) ∧ ∀ v, Hn.LatS n [(g, m)] v ↔ Hn.LatS n [(f, m)] v
theorem PrtIn.keep {n m : Nat} {f : List Int} {s q Lf pl fb : Addr} {bs : List Addr} {T : List (List Int × Nat)} {H H' : Hp} (h : PrtIn n f m s q Lf pl fb bs T H) (k : ∀ a xs, H a = some (.tup xs) → H' a = some (.tup xs)) (k1 : ∀ o, H Lf = some o → H' Lf = some o) (k2 : ∀ o, H pl = some o → H' pl = some o) : PrtIn n f m s q Lf pl fb bs T H' :=
  let ⟨g, ps, P, a, b, c, d⟩ := h.ex
  ⟨k1 _ h.lf, h.tin.mono k, h.n1, h.n2, h.n3, g, ps, P, k2 _ a, b.mono k, k _ _ c, d⟩
theorem PrtIn.ext {n m : Nat} {f : List Int} {s q Lf pl fb : Addr} {bs : List Addr} {T : List (List Int × Nat)} {H H' : Hp} (h : PrtIn n f m s q Lf pl fb bs T H) (e : Ex H H') : PrtIn n f m s q Lf pl fb bs T H' := h.keep (fun _ _ x => e _ _ x) (fun _ x => e _ _ x) (fun _ x => e _ _ x)
end Hg
set_option maxHeartbeats 4000000
namespace Hg
open PySem PySem.Spec PyProof.Rows L2
/-! ### the class Knowledge: its names, its methods -/
/-- an __init__ whose last argument has a tuple at d as its default -/
structure InitK (K : PySem.W.Frag) (C : Addr) (qual : Str) (st : Stmt) (ps : List Str) (d : Addr) (f : Addr) (fd : FuncData) : Prop where
  fn : FunD K "__init__" qual (defArgs st) (defBody st) (defScope st) [.ref d] [] f fd
  bd : Binds K fd ps []
  bd1 : Binds K fd ps [.ref d]
  mak : Mk K C f
  at_ : ∀ H : Hp, SqT K H d []
theorem InitK.dv {K : PySem.W.Frag} {C : Addr} {qual : Str} {st : Stmt} {ps : List Str} {d f : Addr} {fd : FuncData} (_ : InitK K C qual st ps d f fd) : Vals [.ref d] [.ref d] := .cons rfl .nil
/-! ### its fields -/
def kf (n : Int) (o s : Addr) : List (Str × V) := [("_size", .int n), ("_observations", .ref o), ("_stages", .ref s)]
theorem lk_put {x y : Str} {v w : V} {l : List (Str × V)} : ((x, v) :: l).lookup y = if y = x then some v else l.lookup y := by
  rw [List.lookup_cons]
  by_cases h : y = x
  · rw [if_pos h, h]; simp
  · rw [if_neg h]; have : (y == x) = false := by simpa using h
    rw [this]
theorem kf_no {n : Int} {o s : Addr} {m : Str} (h1 : ¬ m = "_size") (h2 : ¬ m = "_observations") (h3 : ¬ m = "_stages") : (kf n o s).lookup m = none := by
  unfold kf; rw [lk_put (w := .non), if_neg h1, lk_put (w := .non), if_neg h2, lk_put (w := .non), if_neg h3]; rfl
/-! ### its data -/
/-- a tuple or a list of whole numbers -/
def FrmAt (H : Hp) (a : Addr) (f : List Int) : Prop := H a = some (.tup (iV f)) ∨ H a = some (.lst (iV f))
theorem FrmAt.ex {H H' : Hp} {a : Addr} {f : List Int} (e : Ex H H') (h : FrmAt H a f) : FrmAt H' a f := h.imp (e _ _) (e _ _)
/-- pairs of a form, a tuple or a list, and its modulus -/
def ObsIn (H : Hp) (as : List Addr) (S : List (List Int × Nat)) : Prop := as.length = S.length ∧ ∀ (i : Nat) (a : Addr) (p : List Int × Nat), as[i]? = some a → S[i]? = some p → ∃ fa : Addr, H a = some (.tup [.ref fa, .int (p.2 : Nat)]) ∧ FrmAt H fa p.1
theorem ObsIn.ex {H H' : Hp} {as : List Addr} {S : List (List Int × Nat)} (e : Ex H H') (h : ObsIn H as S) : ObsIn H' as S :=
  ⟨h.1, fun i a p h1 h2 => let ⟨fa, x, y⟩ := h.2 i a p h1 h2; ⟨fa, e _ _ x, y.ex e⟩⟩
/-- bases of lattices, one behind the other -/
def StIn (H : Hp) (ts : List Addr) (Bs : List (List (List Int))) : Prop := ts.length = Bs.length ∧ ∀ (i : Nat) (t : Addr) (R : List (List Int)), ts[i]? = some t → Bs[i]? = some R → ∃ as : List Addr, H t = some (.tup (as.map V.ref)) ∧ RowsIn H as R
theorem StIn.mono {H H' : Hp} {ts : List Addr} {Bs : List (List (List Int))} (k : ∀ a xs, H a = some (.tup xs) → H' a = some (.tup xs)) (h : StIn H ts Bs) : StIn H' ts Bs :=
  ⟨h.1, fun i a p h1 h2 => let ⟨fa, x, y⟩ := h.2 i a p h1 h2; ⟨fa, k _ _ x, y.mono k⟩⟩
theorem StIn.snoc {H : Hp} {ts : List Addr} {Bs : List (List (List Int))} (h : StIn H ts Bs) {t : Addr} {R : List (List Int)} {as : List Addr} (h1 : H t = some (.tup (as.map V.ref))) (h2 : RowsIn H as R) : StIn H (ts ++ [t]) (Bs ++ [R]) := by
  refine ⟨by simp [h.1], fun i b x h3 h4 => ?_⟩
  by_cases hi : i < ts.length
  · rw [List.getElem?_append_left hi] at h3
    rw [List.getElem?_append_left (by rw [← h.1]; exact hi)] at h4
    exact h.2 i b x h3 h4
  · rw [List.getElem?_append_right (by omega)] at h3
    rw [List.getElem?_append_right (by rw [← h.1]; omega), ← h.1] at h4
    have : i - ts.length = 0 := by have := (List.getElem?_eq_some_iff.mp h3).1; simp at this; omega
    rw [this] at h3 h4
    cases h3; cases h4
    exact ⟨as, h1, h2⟩
theorem PairsIn.snoc {H : Hp} {as : List Addr} {S : List (List Int × Nat)} (h : PairsIn H as S) {a fa : Addr} {f : List Int} {m : Nat} (h1 : H a = some (.tup [.ref fa, .int (m : Nat)])) (h2 : H fa = some (.tup (iV f))) : PairsIn H (as ++ [a]) (S ++ [(f, m)]) := by
  refine ⟨by simp [h.1], fun i b x h3 h4 => ?_⟩
  by_cases hi : i < as.length
  · rw [List.getElem?_append_left hi] at h3
    rw [List.getElem?_append_left (by rw [← h.1]; exact hi)] at h4
    exact h.2 i b x h3 h4
  · rw [List.getElem?_append_right (by omega)] at h3
    rw [List.getElem?_append_right (by rw [← h.1]; omega), ← h.1] at h4
    have : i - as.length = 0 := by have := (List.getElem?_eq_some_iff.mp h3).1; simp at this; omega
    rw [this] at h3 h4
    cases h3; cases h4
    exact ⟨fa, h1, h2⟩
/-- each is the basis of what the observations ahead of it tell -/
def Chain (n : Nat) (S : List (List Int × Nat)) (Bs : List (List (List Int))) : Prop := Bs.length = S.length + 1 ∧ ∀ (i : Nat) (R : List (List Int)), Bs[i]? = some R → Hn.Hnf n (Hn.LatS n (S.take i)) R
theorem Chain.nil {n : Nat} : Chain n [] [Hn.unitB n 1] := ⟨rfl, fun i R h => by
  cases i with
  | zero => cases h; exact Hn.Hnf.units
  | succ i => simp at h⟩
theorem Chain.snoc {n : Nat} {S : List (List Int × Nat)} {Bs : List (List (List Int))} (h : Chain n S Bs) {p : List Int × Nat} {R : List (List Int)} (hR : Hn.Hnf n (Hn.LatS n (S ++ [p])) R) : Chain n (S ++ [p]) (Bs ++ [R]) := by
  refine ⟨by simp [h.1], fun i Q hi => ?_⟩
  by_cases c : i < Bs.length
  · rw [List.getElem?_append_left c] at hi
    rw [List.take_append_of_le_length (by have := h.1; omega)]
    exact h.2 i Q hi
  · rw [List.getElem?_append_right (by omega)] at hi
    have e : i - Bs.length = 0 := by have := (List.getElem?_eq_some_iff.mp hi).1; simp at this; omega
    rw [e] at hi
    cases hi
    rw [List.take_of_length_le (by have := h.1; simp; omega)]
    exact hR
def KnD (H : Hp) (n : Nat) (S : List (List Int × Nat)) (o s : Addr) : Prop := ∃ (oas ts : List Addr) (Bs : List (List (List Int))), H o = some (.tup (oas.map V.ref)) ∧ PairsIn H oas S ∧ H s = some (.tup (ts.map V.ref)) ∧ StIn H ts Bs ∧ Chain n S Bs
theorem KnD.mono {H H' : Hp} {n : Nat} {S : List (List Int × Nat)} {o s : Addr} (k : ∀ a xs, H a = some (.tup xs) → H' a = some (.tup xs)) (h : KnD H n S o s) : KnD H' n S o s := by
  obtain ⟨oas, ts, Bs, h1, h2, h3, h4, h5⟩ := h
  exact ⟨oas, ts, Bs, k _ _ h1, h2.mono k, k _ _ h3, h4.mono k, h5⟩
/-- at p stands a Knowledge of n cells from the observations S -/
def KnAt (C : Addr) (H : Hp) (p : Addr) (n : Nat) (S : List (List Int × Nat)) : Prop := ∃ dx o s : Addr, H p = some (.ins C dx (kf n o s)) ∧ KnD H n S o s
theorem KnAt.ex {C : Addr} {H H' : Hp} {p : Addr} {n : Nat} {S : List (List Int × Nat)} (e : Ex H H') (h : KnAt C H p n S) : KnAt C H' p n S := by
  obtain ⟨dx, o, s, h1, h2⟩ := h
  exact ⟨dx, o, s, e _ _ h1, h2.mono fun a xs z => e _ _ z⟩
/-- sizes of numbers: A of forms, B of rows, M ahead of a restriction -/
structure KB (n A B M : Nat) : Prop where
  n1 : 1 ≤ n
  n12 : n ≤ 12
  sA : sm8 A
  sB : sm8 B
  h0 : A ≤ B
  h1 : n * (A * B) ≤ M
  h2 : B ≤ M
  h3 : 1000000 ≤ M
  hr : rm (1 + n) M
/-- what a list of observations keeps -/
structure KS (n A B : Nat) (S : List (List Int × Nat)) : Prop where
  ok : ∀ p ∈ S, p.1.length = n ∧ Hn.bnd A (Hn.fv p.1) ∧ p.2 ≤ 1000000
  le : S.length ≤ 200
  bd : ∀ (i : Nat) (R : List (List Int)), Hn.Hnf n (Hn.LatS n (S.take i)) R → ∀ r ∈ R, Hn.bnd B (Hn.fv r)
/-- all but p is kept -/
def Bt (p : Addr) (H H' : Hp) : Prop := ∀ b u, b ≠ p → H b = some u → H' b = some u
/-! ### the promises -/
/-! ### lemmas -/
theorem Bt.ex {p : Addr} {H0 H H' : Hp} (b : Bt p H H') (e : Ex H0 H) (n : H0 p = none) : Ex H0 H' := fun a o h => b a o (ne_of_none h n) (e _ _ h)
theorem KS.left {n A B : Nat} {S T : List (List Int × Nat)} (h : KS n A B (S ++ T)) : KS n A B S := by
  refine ⟨fun p hp => h.ok p (List.mem_append_left _ hp), by have := h.le; rw [List.length_append] at this; omega, fun i R hR => ?_⟩
  by_cases c : i ≤ S.length
  · exact h.bd i R (by rw [List.take_append_of_le_length c]; exact hR)
  · refine h.bd S.length R ?_
    rw [List.take_append_of_le_length (Nat.le_refl _), List.take_length]
    rw [List.take_of_length_le (by omega)] at hR
    exact hR
end Hg
namespace Hg
open PySem PySem.Spec PyProof.Rows L2
theorem FrmAt.dp {K : PySem.W.Frag} {H : Hp} {a : Addr} {f : List Int} (h : FrmAt H a f) : ∃ d, Dp K H (.ref a) d ∧ isSq d = true := by
  rcases h with h | h
  · exact ⟨_, dp_t (SqT.of h), rfl⟩
  · exact ⟨_, dp_l (SqL.of h), rfl⟩
end Hg
namespace Hn
theorem Hnf.rlen {n : Nat} {V : Vc → Prop} {R : List (List Int)} (h : Hnf n V R) : ∀ r ∈ R, r.length = n := fun r hr => by
  obtain ⟨cs, ec⟩ := h.ech
  obtain ⟨i, hi⟩ := List.getElem?_of_mem hr
  have hl : i < cs.length := by rw [ec.len]; exact (List.getElem?_eq_some_iff.mp hi).1
  exact (ec.row i _ r (List.getElem?_eq_getElem hl) hi).1
end Hn
namespace Hg
open PySem PySem.Spec PyProof.Rows L2
theorem KS.none {n A B : Nat} {S : List (List Int × Nat)} (h : KS n A B S) : KS n A B [] := KS.left (S := []) (T := S) h
end Hg
namespace Hn
/-! ### saturations: rank, index, numbers -/
theorem Lat.van (n : Nat) (R : List (List Int)) : Lat (VanP n R) := by
  refine ⟨⟨fun _ _ => rfl, fun r _ => sm_zero fun i _ => by simp⟩, fun k u v hu hv => ⟨fun j hj => ?_, fun r hr => ?_⟩⟩
  · show k * u j + v j = 0
    rw [hu.1 j hj, hv.1 j hj]; omega
  · rw [dv_comb, hu.2 r hr, hv.2 r hr]; omega
theorem Lat.sat (n : Nat) (R : List (List Int)) : Lat (SatP n R) := by
  refine ⟨⟨fun _ _ => rfl, fun x _ => sm_zero fun i _ => by simp⟩, fun k u v hu hv => ⟨fun j hj => ?_, fun x hx => ?_⟩⟩
  · show k * u j + v j = 0
    rw [hu.1 j hj, hv.1 j hj]; omega
  · rw [dv_comb, hu.2 x hx, hv.2 x hx]; omega
theorem Lat.sum {L : Vc → Prop} (l : Lat L) {T : Nat → Vc} (y : Nat → Int) : ∀ {m : Nat}, (∀ s, s < m → L (T s)) → L fun j => sm m fun s => y s * T s j
  | 0, _ => Lat.cast l.z fun j => rfl
  | m + 1, h => Lat.cast (l.c (y m) (T m) _ (h m (by omega)) (Lat.sum l y (m := m) fun s hs => h s (by omega))) fun j => by
      show y m * T m j + _ = sm m (fun s => y s * T s j) + y m * T m j
      omega
end Hn
namespace Hn
/-! ### the index of a restriction -/
theorem bez (a : Int) : ∀ b : Int, ∃ x y : Int, (x * a + y * b) ∣ a ∧ (x * a + y * b) ∣ b := fun b => by
  generalize hn : b.natAbs = n
  induction n using Nat.strongRecOn generalizing a b with
  | ind n ih =>
    by_cases hb : b = 0
    · subst hb
      exact ⟨1, 0, by simp, Int.dvd_zero _⟩
    · have h0 := Int.emod_nonneg a hb
      have h1 := Int.emod_lt a hb
      obtain ⟨x, y, d1, d2⟩ := ih (a % b).natAbs (by omega) b (a % b) rfl
      have e := Int.mul_ediv_add_emod a b
      refine ⟨y, x - y * (a / b), ?_, ?_⟩
      · have : y * a + (x - y * (a / b)) * b = x * b + y * (a % b) := by
          have : y * a = y * (b * (a / b)) + y * (a % b) := by rw [← Int.mul_add, e]
          rw [this]; grind
        rw [this]
        exact (congrArg (fun z => x * b + y * (a % b) ∣ z) e) ▸ Int.dvd_add (Int.dvd_trans d1 (Int.dvd_mul_right _ _)) d2
      · have : y * a + (x - y * (a / b)) * b = x * b + y * (a % b) := by
          have : y * a = y * (b * (a / b)) + y * (a % b) := by rw [← Int.mul_add, e]
          rw [this]; grind
        rw [this]
        exact d1
theorem val_least {n : Nat} {f : Vc} : ∀ R : List (List Int), ∃ u, Sp (RL R) u ∧ ∀ r ∈ R, dv n f u ∣ dv n f (fv r)
  | [] => ⟨_, .zero, by simp⟩
  | r :: R => by
    obtain ⟨u, hu, hd⟩ := val_least (n := n) (f := f) R
    obtain ⟨x, y, d1, d2⟩ := bez (dv n f (fv r)) (dv n f u)
    have e : dv n f (fun j => x * fv r j + y * u j) = x * dv n f (fv r) + y * dv n f u := by
      have h1 := dv_comb (n := n) (f := f) (u := fv r) (v := fun j => y * u j) (k := x)
      have h2 := dv_comb (n := n) (f := f) (u := u) (v := fun _ => 0) (k := y)
      have z : dv n f (fun _ => 0) = 0 := sm_zero fun i _ => by simp
      rw [z] at h2
      rw [h1]
      simp only [Int.add_zero] at h2
      rw [h2]
    refine ⟨fun j => x * fv r j + y * u j, ((Sp.of ⟨r, .head _, rfl⟩).mul x).plus ((hu.mono fun v ⟨q, hq, e⟩ => ⟨q, .tail _ hq, e⟩).mul y), fun q hq => ?_⟩
    rw [e]
    rcases List.mem_cons.mp hq with rfl | hq
    · exact d1
    · exact Int.dvd_trans d2 (hd q hq)
theorem Grn.val {n : Nat} {f : Vc} {R : List (List Int)} {g : Int} (h : Grn n f R g) : ∃ u, Sp (RL R) u ∧ dv n f u = g := by
  obtain ⟨u, hu, hd⟩ := val_least (n := n) (f := f) R
  have d1 : dv n f u ∣ g := (h.2 _).mpr hd
  have d2 : g ∣ dv n f u := (h.span g).mp (Int.dvd_refl g) u hu
  have := Int.natAbs_eq_of_dvd_dvd d1 d2
  rcases (by omega : dv n f u = g ∨ dv n f u = -g) with e | e
  · exact ⟨u, hu, e⟩
  · refine ⟨fun j => -1 * u j, hu.mul (-1), ?_⟩
    have h2 := dv_comb (n := n) (f := f) (u := u) (v := fun _ => 0) (k := -1)
    have z : dv n f (fun _ => 0) = 0 := sm_zero fun i _ => by simp
    rw [z, e] at h2
    simp only [Int.add_zero] at h2
    rw [h2]; omega
end Hn
namespace Hn
/-! ### lattices by a frame and divisors: index, meets, joins, saturations -/
theorem Frm.swap {n : Nat} {U F : List (List Int)} (h : Frm n U F) : Frm n F U := ⟨h.fl, h.ul, h.fs, h.us, fun i j hi hj => by
  rw [dv_comm, h.du j i hj hi]
  by_cases e : j = i
  · rw [if_pos e, if_pos e.symm]
  · rw [if_neg e, if_neg (Ne.symm e)]⟩
theorem dv_sum {n m : Nat} {f : Vc} {y : Nat → Int} {T : Nat → Vc} : dv n f (fun j => sm m fun s => y s * T s j) = sm m fun s => y s * dv n f (T s) := by
  unfold dv
  have : sm n (fun i => f i * sm m fun s => y s * T s i) = sm n (fun i => sm m fun s => y s * (f i * T s i)) := sm_congr fun i _ => by
    rw [← sm_mul]
    exact sm_congr fun s _ => by grind
  rw [this, sm_swap]
  exact sm_congr fun s _ => sm_mul _ _ _
theorem Frm.zero {n : Nat} {U F : List (List Int)} (h : Frm n U F) {w : Vc} (h0 : ∀ j, n ≤ j → w j = 0) (hw : ∀ i, i < n → dv n (gt F i) w = 0) (j : Nat) : w j = 0 := by
  refine Classical.byContradiction fun hj => ?_
  have T : Nat → Vc := fun s => if s = n then w else gt U s
  obtain ⟨B, hB⟩ := supB (fun s e => if s = n then w e else gt U s e) (n + 1) n
  obtain ⟨y, ⟨i0, hi0, hy0⟩, _, ye⟩ := siegel (k := n + 1) (t := n) (M := B + 1) (by omega) (by omega) (fun e s => if s = n then w e else gt U s e) fun e s he hs => by have := hB s e hs he; omega
  have rel : ∀ e, e < n → (sm n fun s => y s * gt U s e) + y n * w e = 0 := fun e he => by
    have := ye e he
    rw [show sm (n + 1) (fun i => (if i = n then w e else gt U i e) * y i) = sm n (fun i => (if i = n then w e else gt U i e) * y i) + (if n = n then w e else gt U n e) * y n from rfl, if_pos rfl] at this
    rw [sm_congr (g := fun i => (if i = n then w e else gt U i e) * y i) fun s hs => by rw [if_neg (by omega), Int.mul_comm]]
    rw [Int.mul_comm (y n)]
    exact this
  have z : ∀ i, i < n → y i = 0 := fun i hi => by
    have e1 : dv n (gt F i) (fun e => (sm n fun s => y s * gt U s e) + y n * w e) = 0 := sm_zero fun e he => by
      show gt F i e * ((sm n fun s => y s * gt U s e) + y n * w e) = 0
      rw [rel e he, Int.mul_zero]
    have e2 : dv n (gt F i) (fun e => (sm n fun s => y s * gt U s e) + y n * w e) = (sm n fun s => y s * dv n (gt F i) (gt U s)) + y n * dv n (gt F i) w := by
      rw [← dv_sum]
      have := dv_comb (n := n) (f := gt F i) (u := w) (v := fun e => sm n fun s => y s * gt U s e) (k := y n)
      rw [show (fun e => (sm n fun s => y s * gt U s e) + y n * w e) = fun e => y n * w e + sm n fun s => y s * gt U s e from funext fun e => Int.add_comm _ _, this]
      omega
    rw [e2, hw i hi, sm_one hi (fun s hs hne => by rw [h.du i s hi hs, if_neg (Ne.symm hne), Int.mul_zero]), h.du i i hi hi, if_pos rfl] at e1
    omega
  have hjn : j < n := Classical.byContradiction fun hh => hj (h0 j (by omega))
  have := rel j hjn
  rw [sm_zero fun s hs => by rw [z s hs, Int.zero_mul], Int.zero_add] at this
  have yn : y n = 0 := (Int.mul_eq_zero.mp this).resolve_right hj
  by_cases e : i0 = n
  · exact hy0 (e ▸ yn)
  · exact hy0 (z i0 (by omega))
theorem gt_out {n : Nat} {U : List (List Int)} (hs : ∀ u ∈ U, smallR n u) {i j : Nat} (hj : n ≤ j) : gt U i j = 0 := by
  unfold gt
  by_cases hi : i < U.length
  · rw [List.getD_eq_getElem?_getD, List.getElem?_eq_getElem hi]
    exact fv_out (by have := (hs _ (List.getElem_mem hi)).1; show (U[i]).length ≤ j; omega)
  · rw [List.getD_eq_getElem?_getD, List.getElem?_eq_none (by omega)]
    exact fv_out (by simp)
theorem Frm.full {n : Nat} {U F : List (List Int)} (h : Frm n U F) {x : Vc} (h0 : ∀ j, n ≤ j → x j = 0) (j : Nat) : x j = sm n fun i => dv n (gt F i) x * gt U i j := by
  have hz := h.zero (w := fun j => x j - sm n fun i => dv n (gt F i) x * gt U i j) (fun j hj => by
    show x j - (sm n fun i => dv n (gt F i) x * gt U i j) = 0
    rw [h0 j hj, sm_zero fun i _ => by rw [gt_out h.us hj, Int.mul_zero]]; rfl) (fun i hi => by
    have e := dv_sub (n := n) (f := gt F i) (u := x) (v := fun j => sm n fun i => dv n (gt F i) x * gt U i j) (a := 1) (b := 1)
    simp only [Int.one_mul] at e
    rw [e, dv_sum, sm_one hi (fun s hs hne => by rw [h.du i s hi hs, if_neg (Ne.symm hne), Int.mul_zero]), h.du i i hi hi, if_pos rfl]
    omega) j
  have : x j - (sm n fun i => dv n (gt F i) x * gt U i j) = 0 := hz
  omega
/-- the lattice of the divisors e -/
def FP (n : Nat) (F : List (List Int)) (e : Nat → Int) (v : Vc) : Prop := (∀ j, n ≤ j → v j = 0) ∧ ∀ i, i < n → e i ∣ dv n (gt F i) v
theorem Frm.lat {n : Nat} {U F : List (List Int)} (h : Frm n U F) {ds : List Int} (hd : ds.length = n) (v : Vc) : Sp (RL (timesL ds U)) v ↔ FP n F (fun i => ds.getD i 0) v := by
  rw [lat_iff hd h.ul]
  constructor
  · rintro ⟨t, t1, t2⟩
    refine ⟨fun j hj => ?_, fun i hi => ?_⟩
    · rw [t2 j]; exact sm_zero fun i _ => by rw [gt_out h.us hj, Int.mul_zero]
    · rw [h.coord t2 hi]; exact t1 i hi
  · rintro ⟨h0, h1⟩
    exact ⟨fun i => dv n (gt F i) v, h1, h.full h0⟩
theorem Lat.fp (n : Nat) (F : List (List Int)) (e : Nat → Int) : Lat (FP n F e) := by
  refine ⟨⟨fun _ _ => rfl, fun i _ => ?_⟩, fun k u v hu hv => ⟨fun j hj => ?_, fun i hi => ?_⟩⟩
  · rw [show dv n (gt F i) (fun _ => 0) = 0 from sm_zero fun i _ => by simp]; exact Int.dvd_zero _
  · show k * u j + v j = 0
    rw [hu.1 j hj, hv.1 j hj]; omega
  · rw [dv_comb]
    exact Int.dvd_add (Int.dvd_mul_of_dvd_right (hu.2 i hi)) (hv.2 i hi)
theorem Frm.fpU {n : Nat} {U F : List (List Int)} (h : Frm n U F) {e : Nat → Int} {i : Nat} (hi : i < n) {k : Int} : FP n F e (fun j => k * gt U i j) ↔ e i ∣ k := by
  have dk : ∀ a, a < n → dv n (gt F a) (fun j => k * gt U i j) = if a = i then k else 0 := fun a ha => by
    have h2 := dv_comb (n := n) (f := gt F a) (u := gt U i) (v := fun _ => 0) (k := k)
    have z : dv n (gt F a) (fun _ => 0) = 0 := sm_zero fun i _ => by simp
    rw [z] at h2
    simp only [Int.add_zero] at h2
    rw [h2, h.du a i ha hi]
    by_cases e : a = i
    · rw [if_pos e, if_pos e, Int.mul_one]
    · rw [if_neg e, if_neg e, Int.mul_zero]
  constructor
  · intro hh
    have := hh.2 i hi
    rwa [dk i hi, if_pos rfl] at this
  · intro hd
    refine ⟨fun j hj => by (show k * gt U i j = 0; rw [gt_out h.us hj, Int.mul_zero]), fun a ha => ?_⟩
    rw [dk a ha]
    by_cases e' : a = i
    · rw [if_pos e', e']; exact hd
    · rw [if_neg e']; exact Int.dvd_zero _
theorem Frm.inside {n : Nat} {U F : List (List Int)} (h : Frm n U F) {d e : Nat → Int} : (∀ v, FP n F e v → FP n F d v) ↔ ∀ i, i < n → d i ∣ e i :=
  ⟨fun hh i hi => (h.fpU hi).mp (hh _ ((h.fpU hi).mpr (Int.dvd_refl _))), fun hd v hv => ⟨hv.1, fun i hi => Int.dvd_trans (hd i hi) (hv.2 i hi)⟩⟩
/-- the count of the classes, as the law computes it -/
def cP (ds es : List Int) : Nat → Int
  | 0 => 1
  | k + 1 => cP ds es k * (if 0 < ds.getD k 0 then es.getD k 0 / ds.getD k 0 else 1)
theorem Frm.idx1 {n : Nat} {U F : List (List Int)} (h : Frm n U F) {d e : Nat → Int} {k : Nat} (hk : k < n) {b : Nat} (hb : 1 ≤ b) (hd : 0 < d k) (he : e k = b * d k) (same : ∀ i, i < n → i ≠ k → e i = d i) : Idx (FP n F d) (FP n F e) b := by
  have mulk : ∀ t : Int, (fun j => t * (d k * gt U k j)) = fun j => (t * d k) * gt U k j := fun t => funext fun j => by grind
  refine Idx.cyc (u := fun j => d k * gt U k j) (Lat.fp n F d) (Lat.fp n F e) hb ((h.fpU hk).mpr (Int.dvd_refl _)) (fun v hv => ?_) ?_ fun t ht => ?_
  · obtain ⟨t, ht⟩ := hv.2 k hk
    refine ⟨t, fun j hj => ?_, fun i hi => ?_⟩
    · show v j - t * (d k * gt U k j) = 0
      rw [hv.1 j hj, gt_out h.us hj]; simp
    · have e1 := dv_sub (n := n) (f := gt F i) (u := v) (v := gt U k) (a := 1) (b := t * d k)
      simp only [Int.one_mul] at e1
      rw [show (fun j => v j - t * (d k * gt U k j)) = fun j => v j - t * d k * gt U k j from funext fun j => by grind, e1, h.du i k hi hk]
      by_cases ik : i = k
      · subst ik
        rw [if_pos rfl, ht]
        exact ⟨0, by grind⟩
      · rw [if_neg ik, same i hi ik, Int.mul_zero, Int.sub_zero]
        exact hv.2 i hi
  · rw [mulk]
    exact (h.fpU hk).mpr ⟨1, by rw [he]; omega⟩
  · rw [mulk] at ht
    obtain ⟨z, hz⟩ := (h.fpU hk).mp ht
    rw [he] at hz
    exact ⟨z, Int.eq_of_mul_eq_mul_right (a := d k) (by omega) (by rw [hz]; grind)⟩
theorem Frm.idx {n : Nat} {U F : List (List Int)} (h : Frm n U F) {ds es : List Int} (d0 : ∀ i, i < n → 0 ≤ ds.getD i 0) (e0 : ∀ i, i < n → 0 ≤ es.getD i 0) (dvd : ∀ i, i < n → ds.getD i 0 ∣ es.getD i 0) (pos : ∀ i, i < n → 0 < ds.getD i 0 → 0 < es.getD i 0) :
    ∀ k, k ≤ n → ∃ N : Nat, 1 ≤ N ∧ cP ds es k = N ∧ Idx (FP n F fun i => ds.getD i 0) (FP n F fun i => if i < k then es.getD i 0 else ds.getD i 0) N
  | 0, _ => ⟨1, Nat.le_refl _, rfl, (Idx.self (Lat.fp n F _)).congr (fun _ => Iff.rfl) fun v => by simp⟩
  | k + 1, hk => by
    obtain ⟨N, n1, hc, hi⟩ := Frm.idx h d0 e0 dvd pos k (by omega)
    have sub1 : ∀ v, FP n F (fun i => if i < k then es.getD i 0 else ds.getD i 0) v → FP n F (fun i => ds.getD i 0) v := h.inside.mpr fun i hi => by
      by_cases hik : i < k
      · rw [if_pos hik]; exact dvd i hi
      · rw [if_neg hik]; exact Int.dvd_refl _
    have sub2 : ∀ v, FP n F (fun i => if i < k + 1 then es.getD i 0 else ds.getD i 0) v → FP n F (fun i => if i < k then es.getD i 0 else ds.getD i 0) v := h.inside.mpr fun i hi => by
      by_cases hik : i < k
      · rw [if_pos hik, if_pos (by omega)]; exact Int.dvd_refl _
      · rw [if_neg hik]
        by_cases hik2 : i < k + 1
        · rw [if_pos hik2]; exact dvd i hi
        · rw [if_neg hik2]; exact Int.dvd_refl _
    by_cases hd : 0 < ds.getD k 0
    · obtain ⟨q, hq⟩ := dvd k (by omega)
      have ep := pos k (by omega) hd
      have qp : 0 < q := by
        rw [hq] at ep
        exact Int.pos_of_mul_pos_right ep hd
      obtain ⟨b, hb⟩ : ∃ b : Nat, q = (b : Int) := ⟨q.toNat, by omega⟩
      have i1 := h.idx1 (d := fun i => if i < k then es.getD i 0 else ds.getD i 0) (e := fun i => if i < k + 1 then es.getD i 0 else ds.getD i 0) (k := k) (by omega) (b := b) (by omega) (by (show 0 < if k < k then _ else _); rw [if_neg (by omega)]; exact hd) (by
        show (if k < k + 1 then es.getD k 0 else ds.getD k 0) = b * if k < k then es.getD k 0 else ds.getD k 0
        rw [if_pos (by omega), if_neg (by omega), hq, hb, Int.mul_comm]) fun i hi ne => by
        show (if i < k + 1 then es.getD i 0 else ds.getD i 0) = if i < k then es.getD i 0 else ds.getD i 0
        by_cases hik : i < k
        · rw [if_pos hik, if_pos (by omega)]
        · rw [if_neg hik, if_neg (by omega)]
      refine ⟨N * b, Nat.mul_pos n1 (by omega), ?_, Idx.mul (Lat.fp n F _) (Lat.fp n F _) sub1 sub2 hi i1⟩
      show cP ds es k * (if 0 < ds.getD k 0 then es.getD k 0 / ds.getD k 0 else 1) = _
      rw [if_pos hd, hc, hq, Int.mul_ediv_cancel_left _ (by omega), hb, Int.natCast_mul]
    · have dz : ds.getD k 0 = 0 := by have := d0 k (by omega); omega
      have ez : es.getD k 0 = 0 := by have := dvd k (by omega); rw [dz] at this; exact Int.zero_dvd.mp this
      refine ⟨N, n1, ?_, hi.congr (fun _ => Iff.rfl) fun v => ⟨fun hv => ⟨hv.1, fun i hi' => ?_⟩, sub2 v⟩⟩
      · show cP ds es k * (if 0 < ds.getD k 0 then es.getD k 0 / ds.getD k 0 else 1) = _
        rw [if_neg hd, hc, Int.mul_one]
      · have := hv.2 i hi'
        by_cases hik : i = k
        · subst hik
          show (if i < i + 1 then es.getD i 0 else ds.getD i 0) ∣ _
          rw [if_pos (by omega), ez]
          dsimp only at this
          rwa [if_neg (by omega), dz] at this
        · dsimp only at this ⊢
          by_cases h1 : i < k
          · rw [if_pos (by omega)]; rwa [if_pos h1] at this
          · rw [if_neg (by omega)]; rwa [if_neg h1] at this
end Hn
namespace Hn
/-! ### by a frame: meets, joins, what is around -/
def lcmI (a b : Int) : Int := (a * b) / (max 1 (Int.gcd a b : Int))
theorem lcm_iff {a b : Int} (ha : 0 ≤ a) (hb : 0 ≤ b) (x : Int) : (a ∣ x ∧ b ∣ x) ↔ lcmI a b ∣ x := by
  unfold lcmI
  by_cases h0 : Int.gcd a b = 0
  · obtain ⟨rfl, rfl⟩ := Int.gcd_eq_zero_iff.mp h0
    simp
  · have hp : 0 < Int.gcd a b := by omega
    rw [show max 1 ((Int.gcd a b : Nat) : Int) = (Int.gcd a b : Int) by omega]
    obtain ⟨p, hp1⟩ := Int.gcd_dvd_left (a := a) (b := b)
    obtain ⟨q, hq1⟩ := Int.gcd_dvd_right (a := a) (b := b)
    have cop : Int.gcd p q = 1 := by
      have : Int.gcd ((Int.gcd a b : Int) * p) ((Int.gcd a b : Int) * q) = Int.gcd a b * Int.gcd p q := by rw [Int.gcd_mul_left]; rfl
      rw [← hp1, ← hq1] at this
      exact Nat.eq_of_mul_eq_mul_left hp (by rw [← this, Nat.mul_one])
    generalize hg : Int.gcd a b = g at *
    have e : a * b / (g : Int) = g * p * q := by
      rw [hp1, hq1, show (g : Int) * p * (g * q) = g * (g * p * q) by grind, Int.mul_ediv_cancel_left _ (by omega)]
    rw [e]
    constructor
    · rintro ⟨⟨s, hs⟩, ⟨t, ht⟩⟩
      have h1 : p * s = q * t := by
        have : (g : Int) * (p * s) = g * (q * t) := by rw [← Int.mul_assoc, ← hp1, ← Int.mul_assoc, ← hq1, ← hs, ← ht]
        exact Int.eq_of_mul_eq_mul_left (by omega) this
      have h2 : q ∣ s := by
        have h3 : q.natAbs ∣ (p * s).natAbs := Int.natAbs_dvd_natAbs.mpr ⟨t, h1⟩
        rw [Int.natAbs_mul] at h3
        have c2 : Nat.Coprime q.natAbs p.natAbs := Nat.Coprime.symm cop
        exact Int.natAbs_dvd_natAbs.mp (c2.dvd_of_dvd_mul_left h3)
      obtain ⟨r, hr⟩ := h2
      exact ⟨r, by rw [hs, hp1, hr]; grind⟩
    · rintro ⟨r, hr⟩
      exact ⟨⟨q * r, by rw [hr]; (conv => rhs; rw [hp1]); grind⟩, ⟨p * r, by rw [hr]; (conv => rhs; rw [hq1]); grind⟩⟩
theorem gcd_comb (a b : Int) : ∃ x y : Int, x * a + y * b = (Int.gcd a b : Int) := by
  obtain ⟨x, y, d1, d2⟩ := bez a b
  have h1 : (x * a + y * b) ∣ (Int.gcd a b : Int) := Int.dvd_coe_gcd d1 d2
  have h2 : (Int.gcd a b : Int) ∣ x * a + y * b := Int.dvd_add (Int.dvd_mul_of_dvd_right (Int.gcd_dvd_left ..)) (Int.dvd_mul_of_dvd_right (Int.gcd_dvd_right ..))
  have := Int.natAbs_eq_of_dvd_dvd h1 h2
  rcases (by omega : x * a + y * b = (Int.gcd a b : Int) ∨ x * a + y * b = -(Int.gcd a b : Int)) with e | e
  · exact ⟨x, y, e⟩
  · exact ⟨-x, -y, by rw [Int.neg_mul, Int.neg_mul]; omega⟩
theorem fp_congr {n : Nat} {F : List (List Int)} {d e : Nat → Int} (h : ∀ i x, i < n → (d i ∣ x ↔ e i ∣ x)) (v : Vc) : FP n F d v ↔ FP n F e v :=
  ⟨fun a => ⟨a.1, fun i hi => (h i _ hi).mp (a.2 i hi)⟩, fun a => ⟨a.1, fun i hi => (h i _ hi).mpr (a.2 i hi)⟩⟩
/-- what vanishes on the lattice, by the other half of the frame -/
theorem Frm.van {n : Nat} {U F C : List (List Int)} (h : Frm n U F) {d : Nat → Int} (hC : Hnf n (FP n F d) C) (x : Vc) : VanP n C x ↔ FP n U (fun i => if d i = 0 then 1 else 0) x := by
  have key : VanP n C x ↔ (∀ j, n ≤ j → x j = 0) ∧ ∀ v, FP n F d v → dv n v x = 0 := by
    constructor
    · rintro ⟨a, b⟩
      refine ⟨a, fun v hv => ?_⟩
      have hs := (hC.span v).mp hv
      clear hv
      induction hs with
      | zero => exact sm_zero fun i _ => by simp
      | @add u w k hu _ ih =>
        obtain ⟨r, hr, rfl⟩ := hu
        rw [dv_addl, ih, b r hr]; simp
    · rintro ⟨a, b⟩
      exact ⟨a, fun r hr => b _ ((hC.span _).mpr (.of ⟨r, hr, rfl⟩))⟩
  rw [key]
  constructor
  · rintro ⟨a, b⟩
    refine ⟨a, fun i hi => ?_⟩
    show (if d i = 0 then (1 : Int) else 0) ∣ _
    by_cases e : d i = 0
    · rw [if_pos e]; exact Int.one_dvd _
    · rw [if_neg e]
      have := b _ ((h.fpU hi).mpr (Int.dvd_refl (d i)))
      have h2 := dv_addl (n := n) (f := x) (u := gt U i) (v := fun _ => 0) (k := d i)
      have z : dv n (fun _ => 0) x = 0 := sm_zero fun i _ => by simp
      rw [z] at h2
      simp only [Int.add_zero] at h2
      rw [h2] at this
      rw [(Int.mul_eq_zero.mp this).resolve_left e]; exact Int.dvd_refl _
  · rintro ⟨a, b⟩
    refine ⟨a, fun v hv => ?_⟩
    have e1 : dv n v x = dv n (fun j => sm n fun i => dv n (gt F i) v * gt U i j) x := by
      congr 1
      exact funext fun j => h.full hv.1 j
    rw [e1, dv_comm, dv_sum]
    refine sm_zero fun i hi => ?_
    have hb := b i hi
    dsimp only at hb
    by_cases e : d i = 0
    · have := hv.2 i hi
      rw [e] at this
      rw [Int.zero_dvd.mp this, Int.zero_mul]
    · rw [if_neg e] at hb
      rw [dv_comm (f := x), Int.zero_dvd.mp hb, Int.mul_zero]
theorem Frm.sat {n : Nat} {U F C : List (List Int)} (h : Frm n U F) {d : Nat → Int} (hC : Hnf n (FP n F d) C) (v : Vc) : SatP n C v ↔ FP n F (fun i => if d i = 0 then 0 else 1) v := by
  constructor
  · rintro ⟨a, b⟩
    refine ⟨a, fun i hi => ?_⟩
    show (if d i = 0 then (0 : Int) else 1) ∣ _
    by_cases e : d i = 0
    · rw [if_pos e]
      have hx : VanP n C (gt F i) := (h.van hC _).mpr ⟨fun j hj => gt_out h.fs hj, fun k hk => by
        show (if d k = 0 then (1 : Int) else 0) ∣ _
        by_cases e2 : d k = 0
        · rw [if_pos e2]; exact Int.one_dvd _
        · rw [if_neg e2, dv_comm, h.du i k hi hk, if_neg (fun e3 : i = k => e2 (by rw [← e3]; exact e))]; exact Int.dvd_refl _⟩
      rw [b _ hx]; exact Int.dvd_refl _
    · rw [if_neg e]; exact Int.one_dvd _
  · rintro ⟨a, b⟩
    refine ⟨a, fun x hx => ?_⟩
    have hx' := (h.van hC x).mp hx
    have e1 : dv n x v = dv n x (fun j => sm n fun i => dv n (gt F i) v * gt U i j) := by
      congr 1
      exact funext fun j => h.full a j
    rw [e1, dv_sum]
    refine sm_zero fun i hi => ?_
    have hb := b i hi
    have hc := hx'.2 i hi
    dsimp only at hb hc
    by_cases e : d i = 0
    · rw [if_pos e] at hb
      rw [Int.zero_dvd.mp hb, Int.zero_mul]
    · rw [if_neg e] at hc
      rw [dv_comm (f := x), Int.zero_dvd.mp hc, Int.mul_zero]
/-- the vectors of the frame with a divisor that is not 0 -/
def thereL : List Int → List (List Int) → List (List Int)
  | d :: ds, u :: us => if 0 < d then u :: thereL ds us else thereL ds us
  | _, _ => []
theorem there_times {n : Nat} : ∀ {ds : List Int} {us : List (List Int)}, thereL ds us = timesL (ds.map fun d => if 0 < d then 1 else 0) us
  | [], us => by cases us <;> rfl
  | d :: ds, [] => rfl
  | d :: ds, u :: us => by
    have ih := there_times (n := n) (ds := ds) (us := us)
    show (if 0 < d then u :: thereL ds us else thereL ds us) = if (if 0 < d then (1 : Int) else 0) = 0 then timesL (ds.map fun d => if 0 < d then 1 else 0) us else (u.map fun e => (if 0 < d then (1 : Int) else 0) * e) :: timesL (ds.map fun d => if 0 < d then 1 else 0) us
    rw [ih]
    by_cases h : 0 < d
    · rw [if_pos h, if_pos h, if_neg (by decide)]
      congr 1
      rw [List.map_congr_left (g := id) fun e _ => Int.one_mul e, List.map_id]
    · rw [if_neg h, if_neg h, if_pos rfl]
theorem Frm.there {n : Nat} {U F : List (List Int)} (h : Frm n U F) {ds : List Int} (hd : ds.length = n) (d0 : ∀ i, i < n → 0 ≤ ds.getD i 0) (v : Vc) : Sp (RL (thereL ds U)) v ↔ FP n F (fun i => if ds.getD i 0 = 0 then 0 else 1) v := by
  rw [there_times (n := n), h.lat (by rw [List.length_map]; exact hd)]
  refine fp_congr (fun i x hi => ?_) v
  have e : (ds.map fun d => if 0 < d then (1 : Int) else 0).getD i 0 = if ds.getD i 0 = 0 then 0 else 1 := by
    have hi' : i < ds.length := by omega
    have hz := d0 i hi
    rw [List.getD_eq_getElem?_getD, List.getD_eq_getElem?_getD, List.getElem?_eq_getElem hi'] at *
    rw [List.getElem?_map, List.getElem?_eq_getElem hi']
    show (if 0 < ds[i] then (1 : Int) else 0) = if ds[i] = 0 then 0 else 1
    have hz : 0 ≤ ds[i] := hz
    by_cases e : ds[i] = 0
    · rw [if_pos e, if_neg (by omega)]
    · rw [if_neg e, if_pos (by omega)]
  rw [e]
end Hn
set_option maxHeartbeats 4000000
namespace Hg
open PySem PySem.Spec PyProof.Rows L2
/-! ### what the laws of Knowledge have of their own -/
end Hg
set_option maxHeartbeats 4000000
namespace Hg
open PySem PySem.Spec PyProof.Rows L2
end Hg
namespace Hg
open PySem PySem.Spec PyProof.Rows L2
abbrev dPair (p : List Int × Nat) : PyData := .tuple [.tuple (p.1.map PyData.int), .int (p.2 : Nat)]
theorem dp_pairs {K : PySem.W.Frag} {H : Hp} : ∀ (as : List Addr) (T : List (List Int × Nat)), PairsIn H as T → DpAll K H (as.map V.ref) (T.map dPair)
  | [], [], _ => .nil
  | [], _ :: _, h => by have := h.1; simp at this
  | _ :: _, [], h => by have := h.1; simp at this
  | a :: as, p :: T, h => by
    obtain ⟨fa, h1, h2⟩ := h.2 0 a p rfl rfl
    refine .cons (.tup (SqT.of h1) (.cons (dp_t (SqT.of h2)) (.cons (.int _) .nil))) (dp_pairs as T ⟨by have := h.1; simpa using this, fun i b q h3 h4 => h.2 (i + 1) b q h3 h4⟩)
theorem PairsIn.erase {H : Hp} {as : List Addr} {T : List (List Int × Nat)} (h : PairsIn H as T) (k : Nat) : PairsIn H (as.eraseIdx k) (T.eraseIdx k) := by
  refine ⟨by rw [List.length_eraseIdx, List.length_eraseIdx, h.1], fun i a p h1 h2 => ?_⟩
  rw [List.getElem?_eraseIdx] at h1 h2
  split at h1
  · rename_i c; rw [if_pos c] at h2; exact h.2 _ _ _ h1 h2
  · rename_i c; rw [if_neg c] at h2; exact h.2 _ _ _ h1 h2
end Hg
namespace Hg
open PySem PySem.Spec PyProof.Rows L2
end Hg
set_option maxHeartbeats 4000000
namespace Hn
theorem Grn.zero {n : Nat} {f : Vc} {R : List (List Int)} {g : Int} (h : Grn n f R g) (z : ∀ v, dv n f v = 0) : g = 0 :=
  Int.zero_dvd.mp ((h.2 0).mpr fun r _ => by rw [z]; exact Int.dvd_refl 0)
theorem Grn.all {n : Nat} {f : Vc} {R : List (List Int)} {g : Int} (h : Grn n f R g) {v : Vc} (hv : Sp (RL R) v) : g ∣ dv n f v :=
  dvd_span (R := RL R) (fun u ⟨r, hr, e⟩ => by rw [e]; exact (h.2 g).mp (Int.dvd_refl g) r hr) hv
theorem Grn.mul {n : Nat} {f f' : Vc} {R : List (List Int)} {g g' c : Int} (a : Grn n f R g) (b : Grn n f' R g') (e : ∀ v, dv n f' v = c * dv n f v) : g' = (c.natAbs : Int) * g := by
  refine same_of_dvd b.1 (Int.mul_nonneg (Int.natCast_nonneg _) a.1) fun d => ⟨fun h => ?_, fun h => (b.2 d).mpr fun r hr => ?_⟩
  · obtain ⟨u, hu, hg⟩ := a.val
    have h1 : d ∣ c * g := by rw [← hg, ← e]; exact Int.dvd_trans h (b.all hu)
    rcases Int.natAbs_eq c with h2 | h2
    · rw [← h2]; exact h1
    · have : (c.natAbs : Int) * g = -(c * g) := by
        have h3 : c * g = -(c.natAbs : Int) * g := congrArg (· * g) h2
        rw [h3, Int.neg_mul, Int.neg_neg]
      rw [this]; exact Int.dvd_neg.mpr h1
  · rw [e]
    obtain ⟨k, hk⟩ := (a.2 g).mp (Int.dvd_refl g) r hr
    rw [hk, ← Int.mul_assoc]
    refine Int.dvd_mul_of_dvd_left ?_
    rcases Int.natAbs_eq c with h2 | h2
    · rw [h2]; exact h
    · have : c * g = -((c.natAbs : Int) * g) := by
        have h3 : c * g = -(c.natAbs : Int) * g := congrArg (· * g) h2
        rw [h3, Int.neg_mul]
      rw [this]; exact Int.dvd_neg.mpr h
theorem Grn.sum {n : Nat} {f h k : Vc} {R : List (List Int)} {g g2 g3 s d : Int} (a : Grn n f R g) (b : Grn n h R g2) (c : Grn n k R g3) (e : ∀ v, dv n k v = s * dv n h v + dv n f v) (h1 : d ∣ g) (h2 : d ∣ g2) : d ∣ g3 :=
  (c.2 d).mpr fun r hr => by rw [e]; exact Int.dvd_add (Int.dvd_mul_of_dvd_right ((b.2 d).mp h2 r hr)) ((a.2 d).mp h1 r hr)
theorem lcmI_nonneg {a b : Int} (ha : 0 ≤ a) (hb : 0 ≤ b) : 0 ≤ lcmI a b := by
  unfold lcmI
  exact Int.ediv_nonneg (Int.mul_nonneg ha hb) (by omega)
theorem Grn.mem {n m : Nat} {S : List (List Int × Nat)} {f : List Int} {R : List (List Int)} {g : Int} (hB : Hnf n (LatS n S) R) (h : Grn n (fv f) R g) (hm : (f, m) ∈ S) : (m : Int) ∣ g :=
  (h.2 m).mpr fun r hr => ((hB.span (fv r)).mpr (.of ⟨r, hr, rfl⟩)).2 (f, m) hm
theorem Grn.lcm {n m : Nat} {S : List (List Int × Nat)} {f : List Int} {R R2 : List (List Int)} {g g' : Int} (hB : Hnf n (LatS n S) R) (hC : Hnf n (LatS n (S ++ [(f, m)])) R2) (a : Grn n (fv f) R g) (b : Grn n (fv f) R2 g') : g' = lcmI g m := by
  have m0 : (0 : Int) ≤ (m : Int) := Int.natCast_nonneg _
  have li := lcm_iff a.1 m0
  have hl := (li (lcmI g m)).mpr (Int.dvd_refl _)
  refine same_of_dvd b.1 (lcmI_nonneg a.1 m0) fun d => ⟨fun h => ?_, fun h => (b.2 d).mpr fun r hr => ?_⟩
  · obtain ⟨u, hu, hg⟩ := a.val
    obtain ⟨k, hk⟩ := hl.1
    have hv : Sp (RL R) (fun j => k * u j) := Sp.mul k hu
    have ev : dv n (fv f) (fun j => k * u j) = lcmI g m := by
      have e1 : dv n (fv f) (fun j => k * u j) = k * dv n (fv f) u := by
        unfold dv
        rw [← sm_mul]
        exact sm_congr fun i _ => by grind
      rw [e1, hg, hk, Int.mul_comm]
    have hw : LatS n (S ++ [(f, m)]) (fun j => k * u j) := by
      have h0 := (hB.span _).mpr hv
      rw [LatS.app, LatS.one]
      exact ⟨h0, h0.1, by rw [ev]; exact hl.2⟩
    rw [← ev]
    exact Int.dvd_trans h (b.all ((hC.span _).mp hw))
  · have hw := LatS.app.mp ((hC.span (fv r)).mpr (.of ⟨r, hr, rfl⟩))
    exact Int.dvd_trans h ((li _).mp ⟨a.all ((hB.span _).mp hw.1), (LatS.one.mp hw.2).2⟩)
end Hn
namespace Hg
open PySem PySem.Spec PyProof.Rows L2
end Hg
set_option maxHeartbeats 4000000
namespace Hn
structure Prsp (V : Vc → Prop) (a b c : Int) : Prop where
  a0 : 0 ≤ a
  ab : a = 0 → b = 0
  iff : ∀ v : Vc, V v ↔ (∀ j, 2 ≤ j → v j = 0) ∧ ∃ x y : Int, v 0 = x * a ∧ v 1 = x * b + y * c
/-- the grain of a second value behind a residue of the first -/
theorem Prsp.gcd {V : Vc → Prop} {a b c : Int} (P : Prsp V a b c) (m : Nat) (d : Int) : (d ∣ b * (if a = 0 then 1 else ((m : Int) / (Int.gcd a m : Int))) ∧ d ∣ c) ↔ ∀ v, V v → (m : Int) ∣ v 0 → d ∣ v 1 := by
  by_cases h : a = 0
  · have hb := P.ab h
    rw [if_pos h, hb]
    constructor
    · rintro ⟨_, h2⟩ v hv _
      obtain ⟨_, x, y, _, e2⟩ := (P.iff v).mp hv
      rw [e2, hb]
      simpa using Int.dvd_mul_of_dvd_right h2
    · intro hv
      refine ⟨by simp, ?_⟩
      have := hv (fun j => if j = 1 then c else 0) ((P.iff _).mpr ⟨fun j hj => by rw [if_neg (by omega)], 0, 1, by simp, by simp⟩) (by simp)
      simpa using this
  · rw [if_neg h]
    have g0 : 0 < Int.gcd a m := Int.gcd_pos_of_ne_zero_left _ h
    have gne : ((Int.gcd a m : Nat) : Int) ≠ 0 := by omega
    obtain ⟨a', ha'⟩ := Int.gcd_dvd_left (a := a) (b := (m : Int))
    obtain ⟨m', hm'⟩ := Int.gcd_dvd_right (a := a) (b := (m : Int))
    have hq : (m : Int) / (Int.gcd a m : Int) = m' := by
      conv => lhs; lhs; rw [hm']
      exact Int.mul_ediv_cancel_left _ gne
    rw [hq]
    have cop : Int.gcd a' m' = 1 := by
      have h1 : Int.gcd a m = Int.gcd ((Int.gcd a m : Int) * a') ((Int.gcd a m : Int) * m') := by rw [← ha', ← hm']
      rw [Int.gcd_mul_left, Int.natAbs_natCast] at h1
      exact Nat.eq_of_mul_eq_mul_left g0 (by omega)
    have key : ∀ x : Int, (m : Int) ∣ x * a ↔ m' ∣ x := fun x => by
      constructor
      · intro hx
        have h2 : (Int.gcd a m : Int) * m' ∣ (Int.gcd a m : Int) * (x * a') := by
          rw [← hm']
          have : (Int.gcd a m : Int) * (x * a') = x * a := by rw [Int.mul_left_comm, ← ha']
          rw [this]; exact hx
        have h3 : m' ∣ x * a' := Int.dvd_of_mul_dvd_mul_left gne h2
        have h4 := Int.natAbs_dvd_natAbs.mpr h3
        rw [Int.natAbs_mul] at h4
        exact Int.natAbs_dvd_natAbs.mp (Nat.Coprime.dvd_of_dvd_mul_right (by show Nat.gcd m'.natAbs a'.natAbs = 1; rw [Nat.gcd_comm]; exact cop) h4)
      · rintro ⟨k, rfl⟩
        refine ⟨k * a', ?_⟩
        have e1 : m' * k * a = m' * k * ((Int.gcd a m : Int) * a') := by rw [← ha']
        have e2 : (m : Int) * (k * a') = ((Int.gcd a m : Int) * m') * (k * a') := by rw [← hm']
        rw [e1, e2]; grind
    constructor
    · rintro ⟨h1, h2⟩ v hv hm
      obtain ⟨_, x, y, e1, e2⟩ := (P.iff v).mp hv
      rw [e1, key] at hm
      obtain ⟨k, rfl⟩ := hm
      rw [e2]
      refine Int.dvd_add ?_ (Int.dvd_mul_of_dvd_right h2)
      have : m' * k * b = k * (b * m') := by grind
      rw [this]; exact Int.dvd_mul_of_dvd_right h1
    · intro hv
      refine ⟨?_, ?_⟩
      · have := hv (fun j => if j = 0 then m' * a else if j = 1 then m' * b else 0) ((P.iff _).mpr ⟨fun j hj => by rw [if_neg (by omega), if_neg (by omega)], m', 0, by simp, by simp⟩) (by simpa using (key m').mpr (Int.dvd_refl _))
        rw [Int.mul_comm]
        simpa using this
      · have := hv (fun j => if j = 1 then c else 0) ((P.iff _).mpr ⟨fun j hj => by rw [if_neg (by omega)], 0, 1, by simp, by simp⟩) (by simp)
        simpa using this
end Hn
namespace Hn
end Hn
namespace Hn
end Hn
namespace Hn
/-! ### kernels by pivot columns: small vectors that span a sublattice of known index -/
def IndC (E : List (List Int)) (p : Nat) (c : Nat → Nat) : Prop := ∀ x : Nat → Int, (∀ f ∈ E, sm p (fun i => x i * fv f (c i)) = 0) → ∀ i, i < p → x i = 0
def setC (c : Nat → Nat) (p j : Nat) : Nat → Nat := fun i => if i = p then j else c i
theorem setC_lt {c : Nat → Nat} {p j i : Nat} (h : i < p) : setC c p j i = c i := if_neg (by omega)
theorem setC_at {c : Nat → Nat} {p j : Nat} : setC c p j p = j := if_pos rfl
theorem sm_setC {c : Nat → Nat} {p j : Nat} {g : Nat → Nat → Int} : sm (p + 1) (fun i => g i (setC c p j i)) = sm p (fun i => g i (c i)) + g p j := by
  show sm p (fun i => g i (setC c p j i)) + g p (setC c p j p) = _
  rw [setC_at]
  congr 1
  exact sm_congr fun i hi => by rw [setC_lt hi]
theorem col_step {A : Nat} (hA : 1 ≤ A) {E : List (List Int)} (hE : ∀ f ∈ E, bnd A (fv f)) {p : Nat} {c : Nat → Nat} (hI : IndC E p c) (j : Nat) :
    IndC E (p + 1) (setC c p j) ∨ ∃ x : Nat → Int, x p ≠ 0 ∧ (∀ i, i < p + 1 → (x i).natAbs ≤ (2 * (p + 1) * A) ^ (p + 1)) ∧ ∀ f ∈ E, sm (p + 1) (fun i => x i * fv f (setC c p j i)) = 0 := by
  by_cases h : IndC E (p + 1) (setC c p j)
  · exact .inl h
  refine .inr ?_
  obtain ⟨x0, h⟩ := Classical.not_forall.mp h
  obtain ⟨x0v, h⟩ := Classical.not_imp.mp h
  obtain ⟨i0, h⟩ := Classical.not_forall.mp h
  obtain ⟨hi0, x0n⟩ := Classical.not_imp.mp h
  have hR : ∀ u, (∃ f ∈ E, u = fv f) → ∀ i, i < p + 1 → (u (setC c p j i)).natAbs ≤ A := fun u ⟨f, hf, e⟩ i _ => by rw [e]; exact hE f hf _
  rcases dich (k := p + 1) hA (fun u => ∃ f ∈ E, u = fv f) (setC c p j) hR with ⟨x, ⟨i1, hi1, hx1⟩, xb, xv⟩ | ⟨us, ru, ind⟩
  · refine ⟨x, fun hp => ?_, xb, fun f hf => xv _ ⟨f, hf, rfl⟩⟩
    have z : ∀ i, i < p → x i = 0 := hI x fun f hf => by
      have := xv _ ⟨f, hf, rfl⟩
      rw [sm_setC (g := fun i k => x i * fv f k), hp, Int.zero_mul, Int.add_zero] at this
      exact this
    by_cases e : i1 = p
    · rw [e] at hx1; exact hx1 hp
    · exact hx1 (z i1 (by omega))
  · exfalso
    obtain ⟨y, ⟨s0, hs0, hy0⟩, _, ye⟩ := siegel (k := p + 1) (t := p) (M := A) (by omega) hA (fun e s => us s (setC c p j (if e = i0 then p else e))) fun e s he hs => hR _ (ru s hs) _ (by split <;> omega)
    have zz : ∀ i, i < p + 1 → i ≠ i0 → sm (p + 1) (fun s => y s * us s (setC c p j i)) = 0 := fun i hi hne => by
      by_cases hp : i = p
      · have := ye i0 (by omega)
        rw [if_pos rfl] at this
        rw [hp, ← this]
        exact sm_congr fun s _ => Int.mul_comm _ _
      · have := ye i (by omega)
        rw [if_neg hne] at this
        rw [← this]
        exact sm_congr fun s _ => Int.mul_comm _ _
    have sw : sm (p + 1) (fun i => x0 i * sm (p + 1) (fun s => y s * us s (setC c p j i))) = 0 := by
      have e1 : sm (p + 1) (fun i => x0 i * sm (p + 1) (fun s => y s * us s (setC c p j i))) = sm (p + 1) (fun i => sm (p + 1) fun s => y s * (x0 i * us s (setC c p j i))) := by
        refine sm_congr fun i _ => ?_
        rw [← sm_mul]
        exact sm_congr fun s _ => by grind
      rw [e1, sm_swap]
      refine sm_zero fun s hs => ?_
      rw [sm_mul]
      obtain ⟨f, hf, e⟩ := ru s hs
      rw [e, x0v f hf, Int.mul_zero]
    have one : sm (p + 1) (fun i => x0 i * sm (p + 1) (fun s => y s * us s (setC c p j i))) = x0 i0 * sm (p + 1) (fun s => y s * us s (setC c p j i0)) := sm_one hi0 fun i hi hne => by rw [zz i hi hne, Int.mul_zero]
    rw [one] at sw
    have z0 := (Int.mul_eq_zero.mp sw).resolve_left x0n
    exact hy0 (ind y (fun i hi => by
      by_cases e : i = i0
      · rw [e]; exact z0
      · exact zz i hi e) s0 hs0)
/-- a sum over the columns that an ascending list names -/
theorem sm_cols {g : Nat → Int} : ∀ (n p : Nat) (c : Nat → Nat), (∀ i i', i < i' → i' < p → c i < c i') → (∀ i, i < p → c i < n) → (∀ k, k < n → g k ≠ 0 → ∃ i, i < p ∧ c i = k) → sm n g = sm p fun i => g (c i)
  | 0, 0, _, _, _, _ => rfl
  | 0, p + 1, c, _, h2, _ => absurd (h2 0 (by omega)) (by omega)
  | n + 1, 0, c, _, _, h3 => sm_zero fun k hk => Classical.byContradiction fun h => by obtain ⟨i, hi, _⟩ := h3 k hk h; omega
  | n + 1, p + 1, c, h1, h2, h3 => by
    by_cases hp : c p = n
    · show sm n g + g n = sm p (fun i => g (c i)) + g (c p)
      rw [hp]
      congr 1
      refine sm_cols n p c (fun i i' a b => h1 i i' a (by omega)) (fun i hi => by have := h1 i p hi (by omega); omega) fun k hk hg => ?_
      obtain ⟨i, hi, e⟩ := h3 k (by omega) hg
      refine ⟨i, ?_, e⟩
      by_cases e2 : i = p
      · rw [e2, hp] at e; omega
      · omega
    · have lt : ∀ i, i < p + 1 → c i < n := fun i hi => by
        have a := h2 p (by omega)
        by_cases e2 : i = p
        · rw [e2]; omega
        · have := h1 i p (by omega) (by omega); omega
      have gn : g n = 0 := Classical.byContradiction fun h => by
        obtain ⟨i, hi, e⟩ := h3 n (by omega) h
        have := lt i hi; omega
      show sm n g + g n = _
      rw [gn, Int.add_zero]
      exact sm_cols n (p + 1) c h1 lt fun k hk hg => h3 k (by omega) hg
/-- what a list of pivot columns and small vectors beside them tells -/
structure ColW (n m A : Nat) (E : List (List Int)) (p : Nat) (c : Nat → Nat) (w : Nat → Vc) : Prop where
  pm : p ≤ m
  up : ∀ i i', i < i' → i' < p → c i < c i'
  lt : ∀ i, i < p → c i < m
  ind : IndC E p c
  ker : ∀ j, j < m → Ker n E (w j) ∧ bnd (n * (2 * n * A) ^ n) (w j)
  at_ : ∀ j, j < m → (∃ i, i < p ∧ c i = j) ∨ (w j j ≠ 0 ∧ ∀ k, w j k ≠ 0 → k = j ∨ ∃ i, i < p ∧ c i = k)
theorem ker_zero {n : Nat} {E : List (List Int)} : Ker n E fun _ => 0 := ⟨fun _ _ => rfl, fun f _ => by unfold dv; exact sm_zero fun i _ => by simp⟩
theorem ker_cols {n A : Nat} (hA : 1 ≤ A) {E : List (List Int)} (hE : ∀ f ∈ E, bnd A (fv f)) : ∀ m : Nat, m ≤ n → ∃ (p : Nat) (c : Nat → Nat) (w : Nat → Vc), ColW n m A E p c w
  | 0, _ => ⟨0, fun i => i, fun _ _ => 0, Nat.le_refl _, fun i i' _ h => by omega, fun i h => by omega, fun x _ i h => by omega, fun j h => by omega, fun j h => by omega⟩
  | m + 1, hm => by
    obtain ⟨p, c, w, h⟩ := ker_cols hA hE m (Nat.le_of_succ_le hm)
    have pm := h.pm
    rcases col_step hA hE h.ind m with hI | ⟨x, xp, xb, xv⟩
    · refine ⟨p + 1, setC c p m, fun j => if j = m then fun _ => 0 else w j, by omega, fun i i' a b => ?_, fun i hi => ?_, hI, fun j hj => ?_, fun j hj => ?_⟩
      · by_cases e : i' = p
        · rw [e, setC_at, setC_lt (by omega)]; exact h.lt i (by omega)
        · rw [setC_lt (by omega), setC_lt (by omega)]; exact h.up i i' a (by omega)
      · by_cases e : i = p
        · rw [e, setC_at]; omega
        · rw [setC_lt (by omega)]; have := h.lt i (by omega); omega
      · show Ker n E (if j = m then fun _ => 0 else w j) ∧ bnd _ (if j = m then fun _ => 0 else w j)
        split
        · exact ⟨ker_zero, fun j => by simp⟩
        · exact h.ker j (by omega)
      · by_cases e : j = m
        · exact .inl ⟨p, by omega, by rw [setC_at, e]⟩
        · show _ ∨ ((if j = m then fun _ => 0 else w j : Vc) j ≠ 0 ∧ ∀ k, (if j = m then fun _ => 0 else w j : Vc) k ≠ 0 → _)
          rw [if_neg e]
          rcases h.at_ j (by omega) with ⟨i, hi, e1⟩ | ⟨h1, h2⟩
          · exact .inl ⟨i, by omega, by rw [setC_lt hi]; exact e1⟩
          · refine .inr ⟨h1, fun k hk => ?_⟩
            rcases h2 k hk with e1 | ⟨i, hi, e1⟩
            · exact .inl e1
            · exact .inr ⟨i, by omega, by rw [setC_lt hi]; exact e1⟩
    · have inj : ∀ k, sm (p + 1) (fun i => x i * (if setC c p m i = k then 1 else 0)) ≠ 0 → k = m ∨ ∃ i, i < p ∧ c i = k := fun k hk => Classical.byContradiction fun hh => hk (sm_zero fun i hi => by
        by_cases e : i = p
        · rw [e, setC_at, if_neg fun e2 => hh (.inl e2.symm)]; simp
        · rw [setC_lt (by omega), if_neg fun e2 => hh (.inr ⟨i, by omega, e2⟩)]; simp)
      have cl : ∀ i, i < p + 1 → setC c p m i < n := fun i hi => by
        by_cases e : i = p
        · rw [e, setC_at]; omega
        · rw [setC_lt (by omega)]; have := h.lt i (by omega); omega
      refine ⟨p, c, fun j => if j = m then fun k => sm (p + 1) (fun i => x i * (if setC c p m i = k then 1 else 0)) else w j, by omega, h.up, fun i hi => by have := h.lt i hi; omega, h.ind, fun j hj => ?_, fun j hj => ?_⟩
      · show Ker n E (if j = m then fun k => sm (p + 1) (fun i => x i * (if setC c p m i = k then 1 else 0)) else w j) ∧ bnd _ (if j = m then fun k => sm (p + 1) (fun i => x i * (if setC c p m i = k then 1 else 0)) else w j)
        split
        · refine ⟨⟨fun k hk => sm_zero fun i hi => ?_, fun f hf => ?_⟩, fun k => ?_⟩
          · have := cl i hi
            rw [if_neg (by omega)]; simp
          · unfold dv
            have e1 : sm n (fun k => fv f k * sm (p + 1) (fun i => x i * (if setC c p m i = k then 1 else 0))) = sm n fun k => sm (p + 1) fun i => fv f k * (x i * (if setC c p m i = k then 1 else 0)) := sm_congr fun k _ => by rw [← sm_mul]
            rw [e1, sm_swap]
            refine Eq.trans (sm_congr fun i hi => ?_) (xv f hf)
            rw [sm_one (cl i hi) fun k _ hne => by rw [if_neg (Ne.symm hne), Int.mul_zero, Int.mul_zero], if_pos rfl]
            grind
          · refine Nat.le_trans (sm_abs (B := (2 * n * A) ^ n) fun i hi => ?_) (Nat.mul_le_mul_right _ (by omega))
            have b : (x i * (if setC c p m i = k then 1 else 0)).natAbs ≤ (x i).natAbs := by split <;> simp
            refine Nat.le_trans b (Nat.le_trans (xb i hi) (Nat.le_trans (Nat.pow_le_pow_left (Nat.mul_le_mul_right A (by omega)) _) (Nat.pow_le_pow_right (Nat.mul_pos (by omega) hA) (by omega))))
        · exact h.ker j (by omega)
      · by_cases e : j = m
        · subst e
          refine .inr ?_
          show (if j = j then fun k => sm (p + 1) (fun i => x i * (if setC c p j i = k then 1 else 0)) else w j : Vc) j ≠ 0 ∧ ∀ k, (if j = j then fun k => sm (p + 1) (fun i => x i * (if setC c p j i = k then 1 else 0)) else w j : Vc) k ≠ 0 → _
          rw [if_pos rfl]
          refine ⟨?_, inj⟩
          rw [sm_one (j := p) (by omega) fun i hi hne => by
            rw [setC_lt (by omega), if_neg (by have := h.lt i (by omega); omega)]; simp]
          rw [setC_at, if_pos rfl]
          simpa using xp
        · show _ ∨ ((if j = m then fun k => sm (p + 1) (fun i => x i * (if setC c p m i = k then 1 else 0)) else w j : Vc) j ≠ 0 ∧ ∀ k, (if j = m then fun k => sm (p + 1) (fun i => x i * (if setC c p m i = k then 1 else 0)) else w j : Vc) k ≠ 0 → _)
          rw [if_neg e]
          exact h.at_ j (by omega)
theorem ColW.gen {n A : Nat} {E : List (List Int)} {p : Nat} {c : Nat → Nat} {w : Nat → Vc} (h : ColW n n A E p c w) (hn : 1 ≤ n) (hA : 1 ≤ A) : ∃ d, d ≤ (n * (2 * n * A) ^ n) ^ n ∧ KE n (Ker n E) ((List.range n).map w) (n * (2 * n * A) ^ n) d := by
  have W1 : 1 ≤ n * (2 * n * A) ^ n := Nat.mul_pos hn (Nat.pow_pos (Nat.mul_pos (by omega) hA))
  have mem : ∀ j, j < n → w j ∈ (List.range n).map w := fun j hj => List.mem_map.mpr ⟨j, List.mem_range.mpr hj, rfl⟩
  have go : ∀ m, m ≤ n → ∃ d, 1 ≤ d ∧ d ≤ (n * (2 * n * A) ^ n) ^ m ∧ ∀ v, Ker n E v → ∃ u, Sp (fun u => u ∈ (List.range n).map w) u ∧ Ker n E (fun j => (d : Int) * v j - u j) ∧ ∀ j, j < m → (∃ i, i < p ∧ c i = j) ∨ (d : Int) * v j - u j = 0 := by
    intro m
    induction m with
    | zero => exact fun _ => ⟨1, Nat.le_refl _, Nat.le_refl _, fun v hv => ⟨_, .zero, ⟨fun j hj => by dsimp only; rw [hv.1 j hj]; omega, fun f hf => by
        rw [show (fun j => ((1 : Nat) : Int) * v j - 0) = v from funext fun j => by omega]; exact hv.2 f hf⟩, fun j hj => by omega⟩⟩
    | succ m ih =>
      intro hm
      obtain ⟨d, d1, dB, hd⟩ := ih (by omega)
      rcases h.at_ m (by omega) with hp | ⟨h1, h2⟩
      · refine ⟨d, d1, Nat.le_trans dB (Nat.pow_le_pow_right W1 (by omega)), fun v hv => ?_⟩
        obtain ⟨u, a1, a2, a3⟩ := hd v hv
        refine ⟨u, a1, a2, fun j hj => ?_⟩
        by_cases e : j = m
        · rw [e]; exact .inl hp
        · exact a3 j (by omega)
      · obtain ⟨kw, bw⟩ := h.ker m (by omega)
        obtain ⟨s, hs⟩ : ∃ s : Int, ((w m m).natAbs : Int) = s * w m m := by
          rcases Int.natAbs_eq (w m m) with h | h
          · exact ⟨1, by omega⟩
          · exact ⟨-1, by omega⟩
        refine ⟨(w m m).natAbs * d, Nat.mul_pos (by omega) d1, ?_, fun v hv => ?_⟩
        · rw [Nat.pow_succ, Nat.mul_comm]
          exact Nat.mul_le_mul dB (bw m)
        · obtain ⟨u, a1, a2, a3⟩ := hd v hv
          have eq : ∀ j, (((w m m).natAbs * d : Nat) : Int) * v j - (((w m m).natAbs : Int) * u j + (s * ((d : Int) * v m - u m)) * w m j) = ((w m m).natAbs : Int) * ((d : Int) * v j - u j) - (s * ((d : Int) * v m - u m)) * w m j := fun j => by rw [Int.natCast_mul]; grind
          refine ⟨fun j => ((w m m).natAbs : Int) * u j + (s * ((d : Int) * v m - u m)) * w m j, Sp.comb _ _ a1 (.of (mem m (by omega))), ?_, fun j hj => ?_⟩
          · rw [show (fun j => (((w m m).natAbs * d : Nat) : Int) * v j - (((w m m).natAbs : Int) * u j + (s * ((d : Int) * v m - u m)) * w m j)) = _ from funext eq]
            exact Ker.cl _ _ _ _ a2 kw
          · rw [eq j]
            by_cases e : j = m
            · subst e
              refine .inr ?_
              rw [hs]; grind
            · by_cases hpj : ∃ i, i < p ∧ c i = j
              · exact .inl hpj
              · refine .inr ?_
                rw [(a3 j (by omega)).resolve_left hpj]
                have z : w m j = 0 := Classical.byContradiction fun hz => by
                  rcases h2 j hz with e2 | e2
                  · exact e e2
                  · exact hpj e2
                rw [z]; simp
  obtain ⟨d, d1, dB, hd⟩ := go n (Nat.le_refl _)
  refine ⟨d, dB, fun u hu => ?_, d1, fun v hv => ?_, fun u hu => ?_⟩
  · obtain ⟨j, hj, rfl⟩ := List.mem_map.mp hu
    exact (h.ker j (List.mem_range.mp hj)).1
  · obtain ⟨u, a1, a2, a3⟩ := hd v hv
    refine a1.cast fun j => ?_
    have sup : ∀ k, k < n → (d : Int) * v k - u k ≠ 0 → ∃ i, i < p ∧ c i = k := fun k hk hne => (a3 k hk).resolve_right hne
    have z := h.ind (fun i => (d : Int) * v (c i) - u (c i)) fun f hf => by
      have := a2.2 f hf
      unfold dv at this
      rw [sm_cols n p c h.up h.lt fun k hk hne => sup k hk fun e => hne (by dsimp only; rw [e]; simp)] at this
      rw [← this]
      exact sm_congr fun i _ => Int.mul_comm _ _
    have all : (d : Int) * v j - u j = 0 := Classical.byContradiction fun hne => by
      by_cases hj : j < n
      · obtain ⟨i, hi, e⟩ := sup j hj hne
        have : (d : Int) * v (c i) - u (c i) = 0 := z i hi
        rw [e] at this
        exact hne this
      · exact hne (a2.1 j (by omega))
    omega
  · obtain ⟨j, hj, rfl⟩ := List.mem_map.mp hu
    exact (h.ker j (List.mem_range.mp hj)).2
/-- numbers of the lattice of some forms -/
theorem LatS.bndW {n N W y e : Nat} {S : List (List Int × Nat)} {C : List (List Int)} (hC : Hnf n (LatS n S) C) (hn : 1 ≤ n) (hN : n ≤ N) (hS : ∀ p ∈ S, bnd 99 (fv p.1)) (he : prS S ≤ 2 ^ e) (hW : N * (2 * N * 99) ^ N ≤ 2 ^ W) (hy : 2 * N * 2 ^ W ≤ 2 ^ y) : ∀ r ∈ C, bnd (2 ^ (W * N + e + hE N y)) (fv r) := by
  obtain ⟨p, c, w, h⟩ := ker_cols (n := n) (A := 99) (by decide) (E := exS S) (fun f hf => by
    obtain ⟨p, hp, rfl⟩ := List.mem_map.mp hf
    exact hS p (List.mem_filter.mp hp).1) n (Nat.le_refl _)
  obtain ⟨d, hd, k⟩ := h.gen hn (by decide)
  have hX : 1 ≤ 2 * n * 99 := Nat.mul_pos (by omega) (by decide)
  have w1 : n * (2 * n * 99) ^ n ≤ 2 ^ W := Nat.le_trans (Nat.mul_le_mul hN (Nat.le_trans (Nat.pow_le_pow_left (Nat.mul_le_mul_right 99 (by omega)) n) (Nat.pow_le_pow_right (Nat.le_trans hX (Nat.mul_le_mul_right 99 (by omega))) hN))) hW
  have pk := hC.pinchK k (prS_pos S) (Nat.mul_pos hn (Nat.pow_pos hX)) (fun v hv => ⟨hv.1, fun f hf => by
    obtain ⟨p, hp, rfl⟩ := List.mem_map.mp hf
    obtain ⟨p1, p2⟩ := List.mem_filter.mp hp
    have := hv.2 p p1
    rw [show p.2 = 0 by simpa using p2] at this
    exact Int.zero_dvd.mp this⟩) (fun u hu => ⟨fun j hj => by show (prS S : Int) * u j = 0; rw [hu.1 j hj]; omega, fun p hp => by
      have e : dv n (fv p.1) (fun j => (prS S : Int) * u j) = prS S * dv n (fv p.1) u := by
        have := dv_sub (n := n) (f := fv p.1) (u := u) (v := u) (a := prS S) (b := 0)
        simp only [Int.zero_mul, Int.sub_zero] at this
        exact this
      rw [e]
      by_cases z : p.2 = 0
      · rw [hu.2 p.1 (List.mem_map.mpr ⟨p, List.mem_filter.mpr ⟨hp, by simp [z]⟩, rfl⟩)]
        simp
      · exact Int.dvd_mul_of_dvd_left (Int.natCast_dvd_natCast.mpr (prS_dvd hp z))⟩)
  have hD : d ≤ 2 ^ (W * N) := by
    refine Nat.le_trans hd (Nat.le_trans (Nat.pow_le_pow_left w1 n) ?_)
    rw [← Nat.pow_mul]
    exact Nat.pow_le_pow_right (by decide) (Nat.mul_le_mul_left _ hN)
  have hp : pinB (d * prS S) n (n * (2 * n * 99) ^ n) ≤ 2 ^ ((W * N + e) + hE n y) := pinB_le (Nat.le_trans (Nat.mul_le_mul (by omega) w1) hy) (by rw [Nat.pow_add]; exact Nat.mul_le_mul hD he)
  intro r hr j
  exact Nat.le_trans (pk r hr j) (Nat.le_trans hp (Nat.pow_le_pow_right (by decide) (Nat.add_le_add_left (hE_mono hN (Nat.le_refl _)) _)))
theorem LatS.bnd12 {n : Nat} {S : List (List Int × Nat)} {C : List (List Int)} (hC : Hnf n (LatS n S) C) (hn : 1 ≤ n) (h12 : n ≤ 12) (hl : S.length ≤ 20) (hS : ∀ p ∈ S, bnd 99 (fv p.1) ∧ p.2 ≤ 2 ^ 20) : ∀ r ∈ C, bnd (2 ^ 5681) (fv r) := by
  have h := LatS.bndW (N := 12) (W := 139) (y := 144) (e := 400) hC hn h12 (fun p hp => (hS p hp).1) (Nat.le_trans (prS_le (x := 20) fun p hp => (hS p hp).2) (Nat.pow_le_pow_right (by decide) (by omega))) (by decide +kernel) (by decide +kernel)
  intro r hr j
  exact Nat.le_trans (h r hr j) (Nat.pow_le_pow_right (by decide) (by decide))
end Hn
namespace Hn
/-! ### numbers that a lattice's values are -/
theorem ideal_gen {I : Int → Prop} (h0 : I 0) (hc : ∀ a b x y, I x → I y → I (a * x + b * y)) : ∃ g, 0 ≤ g ∧ I g ∧ ∀ x, I x → g ∣ x := by
  have go : ∀ (N : Nat) (x : Int), I x → 0 < x → x.natAbs ≤ N → ∃ g, 0 ≤ g ∧ I g ∧ ∀ x, I x → g ∣ x := by
    intro N
    induction N with
    | zero => intro x _ h1 h2; omega
    | succ N ih =>
      intro x hx h1 h2
      by_cases hall : ∀ y, I y → x ∣ y
      · exact ⟨x, by omega, hx, hall⟩
      · obtain ⟨y, hy⟩ := Classical.not_forall.mp hall
        obtain ⟨hy, hd⟩ := Classical.not_imp.mp hy
        have r0 : 0 ≤ y % x := Int.emod_nonneg _ (by omega)
        have r1 : y % x < x := Int.emod_lt_of_pos _ h1
        have rne : y % x ≠ 0 := fun e => hd (Int.dvd_of_emod_eq_zero e)
        refine ih (y % x) ?_ (by omega) (by omega)
        have := hc 1 (-(y / x)) y x hy hx
        have e : y % x = 1 * y + -(y / x) * x := by
          have := Int.emod_add_ediv_mul y x
          grind
        rw [e]; exact this
  by_cases hz : ∀ x, I x → x = 0
  · exact ⟨0, Int.le_refl _, h0, fun x hx => by rw [hz x hx]; exact Int.dvd_refl _⟩
  · obtain ⟨x, hx⟩ := Classical.not_forall.mp hz
    obtain ⟨hx, hne⟩ := Classical.not_imp.mp hx
    have hp : I (x.natAbs : Int) := by
      rcases Int.natAbs_eq x with h | h
      · rw [← h]; exact hx
      · have := hc (-1) 0 x 0 hx h0
        have e : (x.natAbs : Int) = -1 * x + 0 * 0 := by omega
        rw [e]; exact this
    exact go _ _ hp (by omega) (Nat.le_refl _)
theorem ideal_dvd {I : Int → Prop} (h0 : I 0) (hc : ∀ a b x y, I x → I y → I (a * x + b * y)) {g : Int} (g0 : 0 ≤ g) (hg : ∀ d, d ∣ g ↔ ∀ x, I x → d ∣ x) (m : Int) : g ∣ m ↔ I m := by
  obtain ⟨e, e0, e1, e2⟩ := ideal_gen h0 hc
  have a : e ∣ g := (hg e).mpr e2
  have b : g ∣ e := (hg g).mp (Int.dvd_refl _) e e1
  have : g = e := Int.dvd_antisymm g0 e0 b a
  subst this
  refine ⟨fun ⟨k, hk⟩ => ?_, fun h => e2 m h⟩
  have := hc k 0 g g e1 e1
  rw [hk]
  have e3 : g * k = k * g + 0 * g := by grind
  rw [e3]; exact this
theorem LatS.comb {n : Nat} {S : List (List Int × Nat)} {u v : Vc} (a b : Int) (hu : LatS n S u) (hv : LatS n S v) : LatS n S fun j => a * u j + b * v j := by
  refine ⟨fun j hj => by dsimp only; rw [hu.1 j hj, hv.1 j hj]; omega, fun p hp => ?_⟩
  have e : dv n (fv p.1) (fun j => a * u j + b * v j) = a * dv n (fv p.1) u + b * dv n (fv p.1) v := by
    have := dv_sub (n := n) (f := fv p.1) (u := u) (v := v) (a := a) (b := -b)
    rw [show (fun j => a * u j + b * v j) = fun j => a * u j - -b * v j from funext fun j => by grind, this]
    grind
  rw [e]
  exact Int.dvd_add (Int.dvd_mul_of_dvd_right (hu.2 p hp)) (Int.dvd_mul_of_dvd_right (hv.2 p hp))
theorem dv_lc {n : Nat} {f u v : Vc} (a b : Int) : dv n f (fun j => a * u j + b * v j) = a * dv n f u + b * dv n f v := by
  have := dv_sub (n := n) (f := f) (u := u) (v := v) (a := a) (b := -b)
  rw [show (fun j => a * u j + b * v j) = fun j => a * u j - -b * v j from funext fun j => by grind, this]
  grind
theorem LatS.zero {n : Nat} {S : List (List Int × Nat)} : LatS n S fun _ => 0 := ⟨fun _ _ => rfl, fun p _ => by
  have : dv n (fv p.1) (fun _ => 0) = 0 := by unfold dv; exact sm_zero fun i _ => by simp
  rw [this]; exact Int.dvd_zero _⟩
theorem dv_z {n : Nat} {f : Vc} : dv n f (fun _ => 0) = 0 := by unfold dv; exact sm_zero fun i _ => by simp
/-- a value that a vector of the lattice has -/
def Has (n : Nat) (S : List (List Int × Nat)) (f : List Int) (m : Int) : Prop := ∃ v, LatS n S v ∧ dv n (fv f) v = m
theorem Has.zero {n : Nat} {S : List (List Int × Nat)} {f : List Int} : Has n S f 0 := ⟨_, LatS.zero, dv_z⟩
theorem Has.comb {n : Nat} {S : List (List Int × Nat)} {f : List Int} (a b x y : Int) (hx : Has n S f x) (hy : Has n S f y) : Has n S f (a * x + b * y) := by
  obtain ⟨u, hu, rfl⟩ := hx
  obtain ⟨v, hv, rfl⟩ := hy
  exact ⟨_, hu.comb a b hv, dv_lc a b⟩
theorem has_dvd {n : Nat} {S : List (List Int × Nat)} {f : List Int} {g : Int} (g0 : 0 ≤ g) (hg : ∀ d, d ∣ g ↔ ∀ v, LatS n S v → d ∣ dv n (fv f) v) (m : Int) : g ∣ m ↔ Has n S f m :=
  ideal_dvd (I := Has n S f) Has.zero (fun a b x y hx hy => hx.comb a b x y hy) g0 (fun d => by
    rw [hg d]
    exact ⟨fun h x ⟨v, hv, e⟩ => e ▸ h v hv, fun h v hv => h _ ⟨v, hv, rfl⟩⟩) m
/-- the guard of the secret s with the margin m is kept behind the answer to f by the modulus k -/
def Safe (n : Nat) (S : List (List Int × Nat)) (s : List Int) (m : Int) (f : List Int) (k : Nat) : Prop := Has n (S ++ [(f, k)]) s m
theorem safe_iff {n : Nat} {S : List (List Int × Nat)} {s f : List Int} {m : Int} {k : Nat} : Safe n S s m f k ↔ ∃ v, LatS n S v ∧ (k : Int) ∣ dv n (fv f) v ∧ dv n (fv s) v = m := by
  unfold Safe Has
  constructor
  · rintro ⟨v, hv, e⟩
    have h := LatS.app.mp hv
    exact ⟨v, h.1, (LatS.one.mp h.2).2, e⟩
  · rintro ⟨v, hv, h1, e⟩
    exact ⟨v, LatS.app.mpr ⟨hv, LatS.one.mpr ⟨hv.1, h1⟩⟩, e⟩
theorem Safe.down {n : Nat} {S : List (List Int × Nat)} {s f : List Int} {m : Int} {k l : Nat} (h : Safe n S s m f k) (hd : l ∣ k) : Safe n S s m f l := by
  obtain ⟨v, h1, h2, h3⟩ := safe_iff.mp h
  exact safe_iff.mpr ⟨v, h1, Int.dvd_trans (Int.natCast_dvd_natCast.mpr hd) h2, h3⟩
theorem Safe.one {n : Nat} {S : List (List Int × Nat)} {s f : List Int} {m : Int} (h : Has n S s m) : Safe n S s m f 1 := by
  obtain ⟨v, h1, h2⟩ := h
  exact safe_iff.mpr ⟨v, h1, Int.one_dvd _, h2⟩
theorem Safe.lcm {n : Nat} {S : List (List Int × Nat)} {s f : List Int} {m : Int} {k l : Nat} (hk : Safe n S s m f k) (hl : Safe n S s m f l) : Safe n S s m f (Nat.lcm k l) := by
  by_cases k0 : k = 0
  · subst k0; rw [Nat.lcm_zero_left]; exact hk
  obtain ⟨u, u1, u2, u3⟩ := safe_iff.mp hk
  obtain ⟨v, v1, v2, v3⟩ := safe_iff.mp hl
  have g0 : 0 < Nat.gcd k l := Nat.gcd_pos_of_pos_left _ (by omega)
  obtain ⟨k', hk'⟩ := Nat.gcd_dvd_left k l
  obtain ⟨l', hl'⟩ := Nat.gcd_dvd_right k l
  have cop : Nat.gcd k' l' = 1 := by
    have e : Nat.gcd k l = Nat.gcd (Nat.gcd k l * k') (Nat.gcd k l * l') := by rw [← hk', ← hl']
    rw [Nat.gcd_mul_left] at e
    exact Nat.eq_of_mul_eq_mul_left g0 (by omega)
  have lc : Nat.lcm k l = Nat.gcd k l * (k' * l') := by
    have e := Nat.gcd_mul_lcm k l
    have e2 : k * l = Nat.gcd k l * (Nat.gcd k l * (k' * l')) := by
      calc k * l = (Nat.gcd k l * k') * (Nat.gcd k l * l') := by rw [← hk', ← hl']
        _ = _ := by grind
    rw [e2] at e
    exact Nat.eq_of_mul_eq_mul_left g0 e
  obtain ⟨x, y, hxy⟩ : ∃ x y : Int, x * k' + y * l' = 1 := by
    obtain ⟨g, g1, ⟨⟨x, y, e⟩, g3⟩⟩ := ideal_gen (I := fun z => ∃ x y : Int, x * k' + y * l' = z) ⟨0, 0, by simp⟩ (fun a b x y ⟨x1, y1, e1⟩ ⟨x2, y2, e2⟩ => ⟨a * x1 + b * x2, a * y1 + b * y2, by rw [← e1, ← e2]; grind⟩)
    have d1 := g3 _ ⟨1, 0, rfl⟩
    have d2 := g3 _ ⟨0, 1, rfl⟩
    rw [Int.one_mul, Int.zero_mul, Int.add_zero] at d1
    rw [Int.zero_mul, Int.zero_add, Int.one_mul] at d2
    obtain ⟨gn, rfl⟩ := Int.eq_ofNat_of_zero_le g1
    have := Nat.dvd_gcd (Int.natCast_dvd_natCast.mp d1) (Int.natCast_dvd_natCast.mp d2)
    rw [cop] at this
    have : gn = 1 := Nat.dvd_one.mp this
    subst this
    exact ⟨x, y, e⟩
  refine safe_iff.mpr ⟨fun j => (y * l') * u j + (x * k') * v j, u1.comb _ _ v1, ?_, ?_⟩
  · rw [dv_lc, lc]
    obtain ⟨a, ha⟩ := u2
    obtain ⟨b, hb⟩ := v2
    rw [ha, hb]
    have ek : (k : Int) = (Nat.gcd k l : Int) * k' := by rw [← Int.natCast_mul, ← hk']
    have el : (l : Int) = (Nat.gcd k l : Int) * l' := by rw [← Int.natCast_mul, ← hl']
    refine ⟨y * a + x * b, ?_⟩
    rw [Int.natCast_mul, Int.natCast_mul]
    generalize (Nat.gcd k l : Int) = g at ek el
    rw [ek, el]
    grind
  · rw [dv_lc, u3, v3]
    have : y * l' * m + x * k' * m = (x * k' + y * l') * m := by grind
    rw [this, hxy]; simp
end Hn
set_option maxHeartbeats 4000000
namespace Hn
/-! ### Euclid on two rows: the numbers stay below a product -/
theorem eu_all {p q : Int} (hq : q ≠ 0) : (p.fmod q).natAbs + (p.fdiv q).natAbs * q.natAbs ≤ p.natAbs + 2 * q.natAbs := by
  have e := Int.mul_fdiv_add_fmod p q
  have s := (fmod_sign (c := p) hq).2
  rw [← Int.natAbs_mul, Int.mul_comm (p.fdiv q)]
  generalize q * p.fdiv q = t at e
  generalize p.fmod q = u at e s
  omega
theorem eu_same {p q : Int} (hq : q ≠ 0) (h : 0 ≤ p * q) : (p.fmod q).natAbs + (p.fdiv q).natAbs * q.natAbs ≤ p.natAbs := by
  have e := Int.mul_fdiv_add_fmod p q
  obtain ⟨s1, s2⟩ := fmod_sign (c := p) hq
  rw [← Int.natAbs_mul, Int.mul_comm (p.fdiv q)]
  rcases Int.lt_or_gt_of_ne hq with hn | hp
  · have p0 : p ≤ 0 := by
      apply Classical.byContradiction
      intro c
      have := Int.mul_neg_of_pos_of_neg (show 0 < p by omega) hn
      omega
    have u0 : p.fmod q ≤ 0 := fmod_neg_le p hn
    have t0 : 0 ≤ p.fdiv q := by
      apply Classical.byContradiction
      intro c
      have : q * -1 ≤ q * p.fdiv q := Int.mul_le_mul_of_nonpos_left (by omega) (by omega)
      have := fmod_neg_gt p hn
      omega
    have : q * p.fdiv q ≤ 0 := Int.mul_nonpos_of_nonpos_of_nonneg (Int.le_of_lt hn) t0
    generalize q * p.fdiv q = t at e this
    generalize p.fmod q = u at e s2 u0
    omega
  · have p0 : 0 ≤ p := by
      apply Classical.byContradiction
      intro c
      have := Int.mul_neg_of_neg_of_pos (show p < 0 by omega) hp
      omega
    have u0 : 0 ≤ p.fmod q := Int.fmod_nonneg_of_pos p hp
    have t0 : 0 ≤ p.fdiv q := by
      apply Classical.byContradiction
      intro c
      have : q * p.fdiv q ≤ q * -1 := Int.mul_le_mul_of_nonneg_left (by omega) (by omega)
      have := Int.fmod_lt_of_pos p hp
      omega
    have : 0 ≤ q * p.fdiv q := Int.mul_nonneg (Int.le_of_lt hp) t0
    generalize q * p.fdiv q = t at e this
    generalize p.fmod q = u at e s2 u0
    omega
/-- two rows on the way of Euclid on the form's values -/
structure EuS (n V C : Nat) (f : Vc) (l r : List Int) : Prop where
  ll : l.length = n
  rl : r.length = n
  nz : dv n f (fv l) ≠ 0
  lv : (dv n f (fv l)).natAbs ≤ V
  rv : (dv n f (fv r)).natAbs ≤ V
  ab : ∃ a b : Nat, bnd a (fv l) ∧ bnd b (fv r) ∧ a ≤ C ∧ b ≤ C ∧ ((0 ≤ dv n f (fv l) * dv n f (fv r) ∧ a * (dv n f (fv r)).natAbs + b * (dv n f (fv l)).natAbs ≤ C) ∨ a * (dv n f (fv r)).natAbs + b * (dv n f (fv l)).natAbs + 2 * (b * (dv n f (fv r)).natAbs) ≤ C)
theorem dv_plus {n : Nat} {f : Vc} {t : Int} {r l : List Int} (h : r.length = l.length) : dv n f (fv (plusL t r l)) = t * dv n f (fv r) + dv n f (fv l) := by
  rw [show fv (plusL t r l) = fun j => t * fv r j + fv l j from funext fun j => fv_plus h j, dv_comb]
theorem EuS.step {n V C : Nat} {f : Vc} {l r : List Int} (h : EuS n V C f l r) (hr : dv n f (fv r) ≠ 0) :
    EuS n V C f r (plusL (0 - (dv n f (fv l)).fdiv (dv n f (fv r))) r l) ∧ (dv n f (fv (plusL (0 - (dv n f (fv l)).fdiv (dv n f (fv r))) r l))).natAbs < (dv n f (fv r)).natAbs := by
  have hl : r.length = l.length := by rw [h.ll, h.rl]
  have e : dv n f (fv (plusL (0 - (dv n f (fv l)).fdiv (dv n f (fv r))) r l)) = (dv n f (fv l)).fmod (dv n f (fv r)) := by
    rw [dv_plus hl]
    have := Int.mul_fdiv_add_fmod (dv n f (fv l)) (dv n f (fv r))
    rw [Int.mul_comm] at this
    rw [Int.sub_mul]
    omega
  obtain ⟨s1, s2⟩ := fmod_sign (c := dv n f (fv l)) hr
  obtain ⟨a, b, ha, hb, aC, bC, hab⟩ := h.ab
  rw [e]
  refine ⟨⟨h.rl, by rw [len_plus hl, h.ll], hr, h.rv, by rw [e]; have := h.rv; omega, b, a + ((dv n f (fv l)).fdiv (dv n f (fv r))).natAbs * b, hb, ?_, bC, ?_, .inl ⟨by rw [e]; exact s1, ?_⟩⟩, s2⟩
  · refine bnd_mono ?_ (bnd_plus (F := ((dv n f (fv l)).fdiv (dv n f (fv r))).natAbs) hl (by omega) hb ha)
    omega
  all_goals
    have q1 : 1 ≤ (dv n f (fv r)).natAbs := by omega
    have key : b * ((dv n f (fv l)).fmod (dv n f (fv r))).natAbs + (a + ((dv n f (fv l)).fdiv (dv n f (fv r))).natAbs * b) * (dv n f (fv r)).natAbs ≤ C := by
      have ex : b * ((dv n f (fv l)).fmod (dv n f (fv r))).natAbs + (a + ((dv n f (fv l)).fdiv (dv n f (fv r))).natAbs * b) * (dv n f (fv r)).natAbs = a * (dv n f (fv r)).natAbs + b * (((dv n f (fv l)).fmod (dv n f (fv r))).natAbs + ((dv n f (fv l)).fdiv (dv n f (fv r))).natAbs * (dv n f (fv r)).natAbs) := by
        rw [Nat.add_mul, Nat.mul_add, Nat.mul_right_comm, Nat.mul_comm _ b]; omega
      rw [ex]
      rcases hab with ⟨hs, hC⟩ | hC
      · have := Nat.mul_le_mul_left b (eu_same hr hs)
        omega
      · have := Nat.mul_le_mul_left b (eu_all (p := dv n f (fv l)) hr)
        rw [Nat.mul_add b (dv n f (fv l)).natAbs, Nat.mul_left_comm b 2] at this
        omega
  · have := Nat.le_mul_of_pos_right (a + ((dv n f (fv l)).fdiv (dv n f (fv r))).natAbs * b) q1
    omega
  · rw [e]; exact key
theorem EuS.bl {n V C : Nat} {f : Vc} {l r : List Int} (h : EuS n V C f l r) : bnd C (fv l) ∧ bnd C (fv r) := by
  obtain ⟨a, b, ha, hb, aC, bC, _⟩ := h.ab
  exact ⟨bnd_mono aC ha, bnd_mono bC hb⟩
end Hn
namespace Hn
/-- a vector of rows of which all but the last vanish under the form -/
theorem sp_snoc {L : List (List Int)} {r : List Int} {v : Vc} (h : Sp (RL (L ++ [r])) v) : ∃ (w : Vc) (z : Int), Sp (RL L) w ∧ ∀ j, v j = w j + z * fv r j := by
  induction h with
  | zero => exact ⟨_, 0, .zero, fun j => by simp⟩
  | add c hu _ ih =>
    obtain ⟨w, z, hw, e⟩ := ih
    obtain ⟨x, hx, ex⟩ := hu
    rcases List.mem_append.mp hx with h | h
    · exact ⟨_, z, .add c ⟨x, h, ex⟩ hw, fun j => by
        have := e j
        simp only [this]
        omega⟩
    · rw [List.mem_singleton.mp h] at ex
      refine ⟨w, c + z, hw, fun j => ?_⟩
      have := e j
      simp only [this, ex, Int.add_mul]
      omega
end Hn
namespace Hn
end Hn
namespace Hn
end Hn
set_option maxHeartbeats 4000000
namespace Hg
open PySem PySem.Spec PyProof.Rows L2
/-! ### more promises of Knowledge -/
end Hg
set_option maxHeartbeats 4000000
namespace Hg
open PySem PySem.Spec PyProof.Rows L2
/-! ### guards: a Knowledge, a form, a margin -/
def GdAt (C : Addr) (H : Hp) (q : Addr) (n : Nat) (S : List (List Int × Nat)) (f : List Int) (m : Nat) : Prop := ∃ p a : Addr, H q = some (.tup [.ref p, .ref a, .int (m : Nat)]) ∧ KnAt C H p n S ∧ H a = some (.tup (iV f))
theorem GdAt.ex {C : Addr} {H H' : Hp} {q : Addr} {n m : Nat} {S : List (List Int × Nat)} {f : List Int} (e : Ex H H') (h : GdAt C H q n S f m) : GdAt C H' q n S f m := by
  obtain ⟨p, a, h1, h2, h3⟩ := h
  exact ⟨p, a, e _ _ h1, h2.ex e, e _ _ h3⟩
end Hg
namespace Hg
open PySem PySem.Spec PyProof.Rows L2
/-- the lattice of the pairs of two forms' values -/
def PrsV (n : Nat) (S : List (List Int × Nat)) (f s : List Int) (w : Hn.Vc) : Prop := (∀ j, 2 ≤ j → w j = 0) ∧ ∃ v, Hn.LatS n S v ∧ w 0 = Hn.dv n (Hn.fv f) v ∧ w 1 = Hn.dv n (Hn.fv s) v
end Hg
namespace Hg
open PySem PySem.Spec PyProof.Rows L2
end Hg
set_option maxHeartbeats 4000000
namespace Hg
open PySem PySem.Spec PyProof.Rows L2
/-! ### zip of three of them -/
open AutoSeq1 (wpAny_loadPart')
end Hg
namespace Hn
/-! ### residues by several moduli, as a search finds them, and the index -/
structure CJ (C : List Int → Prop) (st : List Int → List Int → List Int) (z : List Int) (R S Q : List (List Int)) (P : List Int → Prop) : Prop where
  mem : ∀ v ∈ S, C v
  nd : S.Nodup
  sub : ∀ q ∈ Q, q ∈ S
  zero : z ∈ S
  cl : ∀ v ∈ S, v ∈ Q ∨ P v ∨ ∀ r ∈ R, st v r ∈ S
variable {C : List Int → Prop} {st : List Int → List Int → List Int} {z : List Int}
theorem CJ.more {R S Q : List (List Int)} {P : List Int → Prop} {x : List Int} (h : CJ C st z R S Q P) (hx : C x) (n0 : x ∉ S) : CJ C st z R (S ++ [x]) (Q ++ [x]) P := by
  refine ⟨fun v hv => (List.mem_append.mp hv).elim (h.mem v) fun e => List.mem_singleton.mp e ▸ hx, ?_, fun q hq => ?_, by simp [h.zero], fun v hv => ?_⟩
  · refine List.nodup_append.mpr ⟨h.nd, by simp, fun a ha c hc e => n0 ?_⟩
    rw [← List.mem_singleton.mp hc, ← e]; exact ha
  · rcases List.mem_append.mp hq with h1 | h1
    · simp [h.sub q h1]
    · simp [List.mem_singleton.mp h1]
  · rcases List.mem_append.mp hv with h1 | h1
    · rcases h.cl v h1 with h2 | h2 | h2
      · exact .inl (by simp [h2])
      · exact .inr (.inl h2)
      · exact .inr (.inr fun r hr => by simp [h2 r hr])
    · exact .inl (by simp [List.mem_singleton.mp h1])
def stepM (bs v r : List Int) : List Int := (List.range bs.length).map fun j => (v.getD j 0 + r.getD j 0) % bs.getD j 0
def inM (bs v : List Int) : Prop := v.length = bs.length ∧ ∀ j, j < bs.length → 0 ≤ fv v j ∧ fv v j < fv bs j
def CloM (bs : List Int) (R : List (List Int)) (v : List Int) : Prop := inM bs v ∧ ∃ u, Sp (RL R) u ∧ ∀ j, j < bs.length → fv v j = u j % fv bs j
theorem stepM_at {bs v r : List Int} {j : Nat} (hj : j < bs.length) : fv (stepM bs v r) j = (fv v j + fv r j) % fv bs j := by
  refine fv_at ?_
  unfold stepM
  rw [List.getElem?_map, List.getElem?_range hj]; rfl
theorem inM_ext {bs v w : List Int} (h1 : inM bs v) (h2 : inM bs w) (e : ∀ j, j < bs.length → fv v j = fv w j) : v = w := fv_ext (by rw [h1.1, h2.1]) fun j => by
  by_cases hj : j < bs.length
  · exact e j hj
  · rw [fv_out (by rw [h1.1]; omega), fv_out (by rw [h2.1]; omega)]
theorem cloM_all {bs : List Int} {R S : List (List Int)} (hb : ∀ j, j < bs.length → 0 < fv bs j) (m0 : Nat) (hm : 0 < m0) (hm0 : ∀ j, j < bs.length → fv bs j ∣ (m0 : Int)) (hS : ∀ v ∈ S, inM bs v) (h0 : List.replicate bs.length 0 ∈ S) (hc : ∀ v ∈ S, ∀ r ∈ R, stepM bs v r ∈ S) {v : List Int} (h : CloM bs R v) : v ∈ S := by
  have many : ∀ (r : List Int), r ∈ R → ∀ (t : Nat) (v : List Int), v ∈ S → ∃ w ∈ S, ∀ j, j < bs.length → fv w j = (fv v j + t * fv r j) % fv bs j := by
    intro r hr t
    induction t with
    | zero => exact fun v hv => ⟨v, hv, fun j hj => by
        obtain ⟨a1, a2⟩ := (hS v hv).2 j hj
        rw [Int.emod_eq_of_lt (by simpa using a1) (by simpa using a2)]; simp⟩
    | succ t ih =>
      intro v hv
      obtain ⟨w, hw, e⟩ := ih v hv
      refine ⟨stepM bs w r, hc w hw r hr, fun j hj => ?_⟩
      rw [stepM_at hj, e j hj, Int.emod_add_emod]
      congr 1
      have : ((t + 1 : Nat) : Int) = (t : Int) + 1 := by omega
      rw [this]
      grind
  obtain ⟨hv, u, hu, e⟩ := h
  have key : ∀ u, Sp (RL R) u → ∃ w ∈ S, ∀ j, j < bs.length → fv w j = u j % fv bs j := by
    intro u hu
    induction hu with
    | zero => exact ⟨_, h0, fun j hj => by rw [fv_at (x := 0) (by rw [List.getElem?_replicate, if_pos hj])]; simp⟩
    | @add x y k hx _ ih =>
      obtain ⟨r, hr, rfl⟩ := hx
      obtain ⟨w, hw, e⟩ := ih
      obtain ⟨t, ht⟩ : ∃ t : Nat, (t : Int) = k % (m0 : Int) := ⟨(k % (m0 : Int)).toNat, by have := Int.emod_nonneg k (show (m0 : Int) ≠ 0 by omega); omega⟩
      obtain ⟨w2, hw2, e2⟩ := many r hr t w hw
      refine ⟨w2, hw2, fun j hj => ?_⟩
      rw [e2 j hj, e j hj, ht, Int.emod_add_emod]
      obtain ⟨q, hq⟩ := hm0 j hj
      show (y j + k % (m0 : Int) * fv r j) % fv bs j = (k * fv r j + y j) % fv bs j
      have hk := Int.mul_ediv_add_emod k (m0 : Int)
      have : k * fv r j + y j = (y j + k % (m0 : Int) * fv r j) + fv bs j * (q * (k / (m0 : Int)) * fv r j) := by
        have : k * fv r j = ((m0 : Int) * (k / m0)) * fv r j + k % (m0 : Int) * fv r j := by rw [← Int.add_mul, hk]
        rw [this]
        (conv => lhs; rw [hq])
        have e3 : k % (m0 : Int) = k % (fv bs j * q) := by rw [hq]
        have e4 : k / (m0 : Int) = k / (fv bs j * q) := by rw [hq]
        rw [e3, e4]
        grind
      rw [this, Int.add_mul_emod_self_left]
  obtain ⟨w, hw, e2⟩ := key u hu
  rw [inM_ext hv (hS w hw) fun j hj => by rw [e j hj, e2 j hj]]
  exact hw
theorem CJ.all {bs : List Int} {R S : List (List Int)} (hb : ∀ j, j < bs.length → 0 < fv bs j) (m0 : Nat) (hm : 0 < m0) (hm0 : ∀ j, j < bs.length → fv bs j ∣ (m0 : Int)) (h : CJ (CloM bs R) (stepM bs) (List.replicate bs.length 0) R S [] fun _ => False) (v : List Int) : v ∈ S ↔ CloM bs R v :=
  ⟨h.mem v, cloM_all hb m0 hm hm0 (fun v hv => (h.mem v hv).1) h.zero fun v hv => (h.cl v hv).elim (fun e => by simp at e) fun e => e.elim (fun e => e.elim) id⟩
theorem CJ.len {bs : List Int} {R S Q : List (List Int)} {P : List Int → Prop} {b : Nat} (hb : ∀ j, j < bs.length → fv bs j ≤ b) (h : CJ (CloM bs R) st z R S Q P) : S.length ≤ b ^ bs.length := by
  rw [← Hg.cube_card (lo := 0)]
  refine nd_len h.nd fun v hv => Hg.mem_cube ?_
  obtain ⟨a1, a2⟩ := (h.mem v hv).1
  refine ⟨a1, fun x hx => ?_⟩
  obtain ⟨j, hj⟩ := List.mem_iff_getElem?.mp hx
  have hl : j < bs.length := by rw [← a1]; exact (List.getElem?_eq_some_iff.mp hj).1
  have := a2 j hl
  rw [fv_at hj] at this
  have := hb j hl
  omega
/-! the steps of the law: what each coordinate adds to the residues -/
end Hn
set_option maxHeartbeats 4000000
namespace Hg
open PySem PySem.Spec PyProof.Rows L2
end Hg
namespace Hn
end Hn
namespace Hg
open PySem PySem.Spec PyProof.Rows L2
end Hg
set_option maxHeartbeats 4000000
namespace Hg
open PySem PySem.Spec PyProof.Rows L2
/-! ### sizes for twelve cells -/
theorem kb12 {n : Nat} (n1 : 1 ≤ n) (n12 : n ≤ 12) : KB n 99 (2 ^ 5681) (2 ^ 5692) := by
  refine ⟨n1, by omega, Nat.lt_of_le_of_lt (Hn.log_le (e := 7) (by decide)) (by decide), sm8_2 (by decide), ?_, ?_, ?_, ?_, rm_pow16 (N' := 13) (x := 5692) (by omega) (by decide) (Nat.le_refl _) (by decide +kernel)⟩
  · exact Nat.le_trans (by decide : 99 ≤ 2 ^ 7) (Nat.pow_le_pow_right (by decide) (by decide))
  · have : n * (99 * 2 ^ 5681) ≤ 12 * (99 * 2 ^ 5681) := Nat.mul_le_mul_right _ n12
    exact Nat.le_trans this (by decide +kernel)
  · decide +kernel
  · exact Nat.le_trans (by decide : 1000000 ≤ 2 ^ 20) (Nat.pow_le_pow_right (by decide) (by decide))
theorem ks12 {n : Nat} {T : List (List Int × Nat)} (n1 : 1 ≤ n) (n12 : n ≤ 12) (hl : T.length ≤ 20) (h : ∀ p ∈ T, okP n p ∧ p.2 ≤ 1000000) : KS n 99 (2 ^ 5681) T :=
  ⟨fun p hp => ⟨(h p hp).1.1, (h p hp).1.2.1, (h p hp).2⟩, by omega, fun i R hR => Hn.LatS.bnd12 hR n1 n12 (by rw [List.length_take]; omega) fun p hp => (h p (List.mem_of_mem_take hp)).1.2⟩
/-! ### guards in lists -/
abbrev Gd := List (List Int × Nat) × List Int × Nat
structure GOk (C : Addr) (n A B : Nat) (H : Hp) (q : Addr) (p : Gd) : Prop where
  gd : GdAt C H q n p.1 p.2.1 p.2.2
  ks : KS n A B p.1
  len : p.2.1.length = n
  bd : Hn.bnd A (Hn.fv p.2.1)
theorem GOk.ex {C : Addr} {n A B : Nat} {H H' : Hp} {q : Addr} {p : Gd} (e : Ex H H') (h : GOk C n A B H q p) : GOk C n A B H' q p := ⟨h.gd.ex e, h.ks, h.len, h.bd⟩
def GdsIn (C : Addr) (n A B : Nat) (H : Hp) (qs : List Addr) (L : List Gd) : Prop := qs.length = L.length ∧ ∀ (i : Nat) (q : Addr) (p : Gd), qs[i]? = some q → L[i]? = some p → GOk C n A B H q p
theorem GdsIn.ex {C : Addr} {n A B : Nat} {H H' : Hp} {qs : List Addr} {L : List Gd} (e : Ex H H') (h : GdsIn C n A B H qs L) : GdsIn C n A B H' qs L := ⟨h.1, fun i q p h1 h2 => (h.2 i q p h1 h2).ex e⟩
theorem GdsIn.one {C : Addr} {n A B : Nat} {H : Hp} {q : Addr} {p : Gd} (h : GOk C n A B H q p) : GdsIn C n A B H [q] [p] := ⟨rfl, fun i r s h1 h2 => by
  cases i with
  | zero => cases h1; cases h2; exact h
  | succ i => simp at h1⟩
noncomputable def safeB (n : Nat) (f : List Int) (k : Nat) (p : Gd) : Bool := @decide (Hn.Safe n p.1 p.2.1 p.2.2 f k) (Classical.propDecidable _)
/-! ### the worlds of k32 -/
end Hg
namespace Hg
open PySem PySem.Spec PyProof.Rows L2
end Hg
namespace Hg
open PySem PySem.Spec PyProof.Rows L2
end Hg
namespace Hg
open PySem PySem.Spec PyProof.Rows L2
end Hg
set_option maxHeartbeats 4000000
namespace Hn
end Hn
namespace Hg
open PySem PySem.Spec PyProof.Rows L2
/-! ### built lattices: rows and what is told -/
end Hg
set_option maxHeartbeats 4000000
namespace Hg
open PySem PySem.Spec PyProof.Rows L2
/-! ### divisors -/
def root (n : Nat) : Nat := Float64.isqrt n
def smallI (n : Nat) : List Int := picked (fun i => decide (((n : Int).fmod (1 + (i : Int))) = 0)) (fun i => 1 + (i : Int)) (root n)
def largeI (n : Nat) : List Int := let s := smallI n; picked (fun i => !decide (s.getD (s.length - 1 - i) 0 * s.getD (s.length - 1 - i) 0 = (n : Int))) (fun i => (n : Int).fdiv (s.getD (s.length - 1 - i) 0)) s.length
def divI (n : Nat) : List Int := smallI n ++ largeI n
end Hg
set_option maxHeartbeats 4000000
namespace Hg
open PySem PySem.Spec PyProof.Rows L2
/-! ### guards as a law draws them -/
structure LG where
  R : List (List Int)
  T : List (List Int × Nat)
  f : List Int
  m : Nat
structure LGok (n : Nat) (x : LG) : Prop where
  Rl : x.R.length ≤ 12
  Rr : ∀ r ∈ x.R, r.length = n ∧ Hn.bnd 99000000 (Hn.fv r)
  Tl : x.T.length ≤ 15
  Tok : ∀ p ∈ x.T, okP n p ∧ p.2 ≤ 1000000
  sp : ∀ v, Hn.LatS n x.T v ↔ Hn.Sp (Hn.RL x.R) v
  fl : x.f.length = n
  fb : Hn.bnd 99 (Hn.fv x.f)
  m1 : 1 ≤ x.m
  m6 : x.m ≤ 1000000
def LGat (H : Hp) (p : Addr) (x : LG) : Prop := ∃ (ba ta fa : Addr) (bs as : List Addr), H p = some (.lst [.ref ba, .ref ta, .ref fa, .int (x.m : Nat)]) ∧ H ba = some (.lst (bs.map V.ref)) ∧ RowsIn H bs x.R ∧ H ta = some (.lst (as.map V.ref)) ∧ PairsIn H as x.T ∧ H fa = some (.tup (iV x.f))
/-- the same beside a list D that changes -/
def LGatD (D : Addr) (H : Hp) (p : Addr) (x : LG) : Prop := ∃ (ba ta fa : Addr) (bs as : List Addr), p ≠ D ∧ ba ≠ D ∧ ta ≠ D ∧ H p = some (.lst [.ref ba, .ref ta, .ref fa, .int (x.m : Nat)]) ∧ H ba = some (.lst (bs.map V.ref)) ∧ RowsIn H bs x.R ∧ H ta = some (.lst (as.map V.ref)) ∧ PairsIn H as x.T ∧ H fa = some (.tup (iV x.f))
theorem LGatD.put {D : Addr} {H : Hp} {p : Addr} {x : LG} {xs : List V} {o : HO} (hD : H D = some (.lst xs)) (h : LGatD D H p x) : LGatD D (upd H D o) p x := by
  obtain ⟨ba, ta, fa, bs, as, n1, n2, n3, h1, h2, h3, h4, h5, h6⟩ := h
  exact ⟨ba, ta, fa, bs, as, n1, n2, n3, (upd_ne n1).trans h1, (upd_ne n2).trans h2, h3.mono fun a ys z => tk_put hD a ys z, (upd_ne n3).trans h4, h5.mono fun a ys z => tk_put hD a ys z, tk_put hD _ _ h6⟩
theorem LGatD.ex {D : Addr} {H H' : Hp} {p : Addr} {x : LG} (e : Ex H H') (h : LGatD D H p x) : LGatD D H' p x := by
  obtain ⟨ba, ta, fa, bs, as, n1, n2, n3, h1, h2, h3, h4, h5, h6⟩ := h
  exact ⟨ba, ta, fa, bs, as, n1, n2, n3, e _ _ h1, e _ _ h2, h3.mono fun _ _ z => e _ _ z, e _ _ h4, h5.mono fun _ _ z => e _ _ z, e _ _ h6⟩
def LGinD (D : Addr) (H : Hp) (ps : List Addr) (L : List LG) : Prop := ps.length = L.length ∧ ∀ (i : Nat) (p : Addr) (x : LG), ps[i]? = some p → L[i]? = some x → LGatD D H p x
theorem LGinD.put {D : Addr} {H : Hp} {ps : List Addr} {L : List LG} {xs : List V} {o : HO} (hD : H D = some (.lst xs)) (h : LGinD D H ps L) : LGinD D (upd H D o) ps L := ⟨h.1, fun i p x h1 h2 => (h.2 i p x h1 h2).put hD⟩
theorem LGinD.ex {D : Addr} {H H' : Hp} {ps : List Addr} {L : List LG} (e : Ex H H') (h : LGinD D H ps L) : LGinD D H' ps L := ⟨h.1, fun i p x h1 h2 => (h.2 i p x h1 h2).ex e⟩
theorem LGinD.nil {D : Addr} {H : Hp} : LGinD D H [] [] := ⟨rfl, fun i p x h => by simp at h⟩
theorem LGinD.snoc {D : Addr} {H : Hp} {ps : List Addr} {L : List LG} (h : LGinD D H ps L) {p : Addr} {x : LG} (hp : LGatD D H p x) : LGinD D H (ps ++ [p]) (L ++ [x]) := by
  refine ⟨by simp [h.1], fun i b y h3 h4 => ?_⟩
  by_cases hi : i < ps.length
  · rw [List.getElem?_append_left hi] at h3
    rw [List.getElem?_append_left (by rw [← h.1]; exact hi)] at h4
    exact h.2 i b y h3 h4
  · rw [List.getElem?_append_right (by omega)] at h3
    rw [List.getElem?_append_right (by rw [← h.1]; omega), ← h.1] at h4
    have : i - ps.length = 0 := by have := (List.getElem?_eq_some_iff.mp h3).1; simp at this; omega
    rw [this] at h3 h4
    cases h3; cases h4
    exact hp
theorem LGat.ex {H H' : Hp} {p : Addr} {x : LG} (e : Ex H H') (h : LGat H p x) : LGat H' p x := by
  obtain ⟨ba, ta, fa, bs, as, h1, h2, h3, h4, h5, h6⟩ := h
  exact ⟨ba, ta, fa, bs, as, e _ _ h1, e _ _ h2, h3.mono fun _ _ z => e _ _ z, e _ _ h4, h5.mono fun _ _ z => e _ _ z, e _ _ h6⟩
def LGin (H : Hp) (ps : List Addr) (L : List LG) : Prop := ps.length = L.length ∧ ∀ (i : Nat) (p : Addr) (x : LG), ps[i]? = some p → L[i]? = some x → LGat H p x
theorem LGin.ex {H H' : Hp} {ps : List Addr} {L : List LG} (e : Ex H H') (h : LGin H ps L) : LGin H' ps L := ⟨h.1, fun i p x h1 h2 => (h.2 i p x h1 h2).ex e⟩
theorem LGin.nil {H : Hp} : LGin H [] [] := ⟨rfl, fun i p x h => by simp at h⟩
theorem LGin.snoc {H : Hp} {ps : List Addr} {L : List LG} (h : LGin H ps L) {p : Addr} {x : LG} (hp : LGat H p x) : LGin H (ps ++ [p]) (L ++ [x]) := by
  refine ⟨by simp [h.1], fun i b y h3 h4 => ?_⟩
  by_cases hi : i < ps.length
  · rw [List.getElem?_append_left hi] at h3
    rw [List.getElem?_append_left (by rw [← h.1]; exact hi)] at h4
    exact h.2 i b y h3 h4
  · rw [List.getElem?_append_right (by omega)] at h3
    rw [List.getElem?_append_right (by rw [← h.1]; omega), ← h.1] at h4
    have : i - ps.length = 0 := by have := (List.getElem?_eq_some_iff.mp h3).1; simp at this; omega
    rw [this] at h3 h4
    cases h3; cases h4
    exact hp
def LG.gd (x : LG) : Gd := (x.T, x.f, x.m)
theorem Has.grn {n : Nat} {x : LG} (hsp : ∀ v, Hn.LatS n x.T v ↔ Hn.Sp (Hn.RL x.R) v) {f : List Int} {g : Int} (hg : Hn.Grn n (Hn.fv f) x.R g) (m : Int) : g ∣ m ↔ Hn.Has n x.T f m :=
  Hn.has_dvd hg.1 (fun d => by
    rw [hg.span]
    exact ⟨fun h v hv => h v ((hsp v).mp hv), fun h v hv => h v ((hsp v).mpr hv)⟩) m
/-! ### answers to guards -/
/-- prospects of guards -/
def PrAt (n M : Nat) (f : List Int) (H : Hp) (p : Addr) (g : Gd) : Prop := ∃ x y z : Int, H p = some (.tup [.int x, .int y, .int z, .int (g.2.2 : Nat)]) ∧ Hn.Prsp (PrsV n g.1 f g.2.1) x y z ∧ x.natAbs ≤ M ∧ y.natAbs ≤ Hn.hB 2 M
def PrsIn (n M : Nat) (f : List Int) (H : Hp) (qs : List Addr) (L : List Gd) : Prop := qs.length = L.length ∧ ∀ (i : Nat) (q : Addr) (p : Gd), qs[i]? = some q → L[i]? = some p → PrAt n M f H q p
theorem PrAt.mono {n M : Nat} {f : List Int} {H H' : Hp} {q : Addr} {g : Gd} (k : ∀ a xs, H a = some (.tup xs) → H' a = some (.tup xs)) (h : PrAt n M f H q g) : PrAt n M f H' q g := by
  obtain ⟨x, y, z, h1, h2⟩ := h
  exact ⟨x, y, z, k _ _ h1, h2⟩
theorem PrsIn.mono {n M : Nat} {f : List Int} {H H' : Hp} {qs : List Addr} {L : List Gd} (k : ∀ a xs, H a = some (.tup xs) → H' a = some (.tup xs)) (h : PrsIn n M f H qs L) : PrsIn n M f H' qs L := ⟨h.1, fun i q p h1 h2 => (h.2 i q p h1 h2).mono k⟩
theorem PrsIn.nil {n M : Nat} {f : List Int} {H : Hp} : PrsIn n M f H [] [] := ⟨rfl, fun i q p h => by simp at h⟩
theorem PrsIn.snoc {n M : Nat} {f : List Int} {H : Hp} {qs : List Addr} {L : List Gd} (h : PrsIn n M f H qs L) {q : Addr} {g : Gd} (hq : PrAt n M f H q g) : PrsIn n M f H (qs ++ [q]) (L ++ [g]) := by
  refine ⟨by simp [h.1], fun i b y h3 h4 => ?_⟩
  by_cases hi : i < qs.length
  · rw [List.getElem?_append_left hi] at h3
    rw [List.getElem?_append_left (by rw [← h.1]; exact hi)] at h4
    exact h.2 i b y h3 h4
  · rw [List.getElem?_append_right (by omega)] at h3
    rw [List.getElem?_append_right (by rw [← h.1]; omega), ← h.1] at h4
    have : i - qs.length = 0 := by have := (List.getElem?_eq_some_iff.mp h3).1; simp at this; omega
    rw [this] at h3 h4
    cases h3; cases h4
    exact hq
def GKept (n : Nat) (L : List Gd) : Prop := ∀ g ∈ L, Hn.Has n g.1 g.2.1 g.2.2
/-- the safe divisors -/
noncomputable def safeD (n : Nat) (f : List Int) (L : List Gd) (b : Nat) : List Int := (divI b).filter fun d => L.all (safeB n f d.toNat)
/-- the finest modulus -/
structure Fin (n : Nat) (f : List Int) (L : List Gd) (b g : Nat) : Prop where
  le : g ≤ 1000000
  safe : ∀ x ∈ L, Hn.Safe n x.1 x.2.1 x.2.2 f g
  z : (∀ x ∈ L, Hn.Safe n x.1 x.2.1 x.2.2 f 0) → g = 0
  dv : g = 0 ∨ g ∣ b
  all : ∀ d : Nat, d ∣ b → (∀ x ∈ L, Hn.Safe n x.1 x.2.1 x.2.2 f d) → d ∣ g
end Hg
namespace Hg
open PySem PySem.Spec PyProof.Rows L2
/-- a guard but for its margin -/
structure GPre (n : Nat) (G : Hp) (ba ta fa : Addr) (R : List (List Int)) (T : List (List Int × Nat)) (f : List Int) : Prop where
  hba : ∃ bs : List Addr, G ba = some (.lst (bs.map V.ref)) ∧ RowsIn G bs R
  Rl : R.length ≤ 12
  Rr : ∀ r ∈ R, r.length = n ∧ Hn.bnd 99000000 (Hn.fv r)
  hta : ∃ as : List Addr, G ta = some (.lst (as.map V.ref)) ∧ PairsIn G as T
  Tl : T.length ≤ 15
  Tok : ∀ p ∈ T, okP n p ∧ p.2 ≤ 1000000
  sp : ∀ v, Hn.LatS n T v ↔ Hn.Sp (Hn.RL R) v
  hfa : G fa = some (.tup (iV f))
  fl : f.length = n
  fb : Hn.bnd 99 (Hn.fv f)
theorem GPre.ex {n : Nat} {G G' : Hp} {ba ta fa : Addr} {R : List (List Int)} {T : List (List Int × Nat)} {f : List Int} (e : Ex G G') (h : GPre n G ba ta fa R T f) : GPre n G' ba ta fa R T f :=
  ⟨let ⟨bs, h1, h2⟩ := h.hba; ⟨bs, e _ _ h1, h2.mono fun _ _ z => e _ _ z⟩, h.Rl, h.Rr, let ⟨bs, h1, h2⟩ := h.hta; ⟨bs, e _ _ h1, h2.mono fun _ _ z => e _ _ z⟩, h.Tl, h.Tok, h.sp, e _ _ h.hfa, h.fl, h.fb⟩
end Hg
namespace Hg
open PySem PySem.Spec PyProof.Rows L2
end Hg
namespace Hg
open PySem PySem.Spec PyProof.Rows L2
end Hg
set_option maxHeartbeats 4000000
namespace Hg
open PySem PySem.Spec PyProof.Rows L2
/-! ### comprehensions whose elements are objects -/
def isLst : HO → Bool
  | .lst _ => true
  | _ => false
/-- what is no list is kept -/
def Nl (H H' : Hp) : Prop := ∀ a u, isLst u = false → H a = some u → H' a = some u
theorem Nl.of {H H' : Hp} (e : Ex H H') : Nl H H' := fun a u _ h => e a u h
theorem Nl.put {H : Hp} {D : Addr} {xs : List V} {o : HO} (h : H D = some (.lst xs)) : Nl H (upd H D o) := fun a u hu ha => (upd_ne (fun e => by rw [e, h] at ha; cases ha; cases hu)).trans ha
theorem Nl.tup {H H' : Hp} (k : Nl H H') (a : Addr) (xs : List V) (h : H a = some (.tup xs)) : H' a = some (.tup xs) := k a _ rfl h
theorem KnAt.nl {C : Addr} {H H' : Hp} {p : Addr} {n : Nat} {S : List (List Int × Nat)} (k : Nl H H') (h : KnAt C H p n S) : KnAt C H' p n S := by
  obtain ⟨dx, o, s, h1, h2⟩ := h
  exact ⟨dx, o, s, k _ _ rfl h1, h2.mono fun a xs z => k.tup a xs z⟩
theorem GdAt.nl {C : Addr} {H H' : Hp} {q : Addr} {n m : Nat} {S : List (List Int × Nat)} {f : List Int} (k : Nl H H') (h : GdAt C H q n S f m) : GdAt C H' q n S f m := by
  obtain ⟨p, a, h1, h2, h3⟩ := h
  exact ⟨p, a, k.tup _ _ h1, h2.nl k, k.tup _ _ h3⟩
theorem GOk.nl {C : Addr} {n A B : Nat} {H H' : Hp} {q : Addr} {p : Gd} (k : Nl H H') (h : GOk C n A B H q p) : GOk C n A B H' q p := ⟨h.gd.nl k, h.ks, h.len, h.bd⟩
theorem GdsIn.nl {C : Addr} {n A B : Nat} {H H' : Hp} {qs : List Addr} {L : List Gd} (k : Nl H H') (h : GdsIn C n A B H qs L) : GdsIn C n A B H' qs L := ⟨h.1, fun i q p h1 h2 => (h.2 i q p h1 h2).nl k⟩
theorem GdsIn.nil {C : Addr} {n A B : Nat} {H : Hp} : GdsIn C n A B H [] [] := ⟨rfl, fun i q p h => by simp at h⟩
theorem GdsIn.snoc {C : Addr} {n A B : Nat} {H : Hp} {qs : List Addr} {L : List Gd} (h : GdsIn C n A B H qs L) {q : Addr} {g : Gd} (hq : GOk C n A B H q g) : GdsIn C n A B H (qs ++ [q]) (L ++ [g]) := by
  refine ⟨by simp [h.1], fun i b y h3 h4 => ?_⟩
  by_cases hi : i < qs.length
  · rw [List.getElem?_append_left hi] at h3
    rw [List.getElem?_append_left (by rw [← h.1]; exact hi)] at h4
    exact h.2 i b y h3 h4
  · rw [List.getElem?_append_right (by omega)] at h3
    rw [List.getElem?_append_right (by rw [← h.1]; omega), ← h.1] at h4
    have : i - qs.length = 0 := by have := (List.getElem?_eq_some_iff.mp h3).1; simp at this; omega
    rw [this] at h3 h4
    cases h3; cases h4
    exact hq
end Hg
namespace Hg
open PySem PySem.Spec PyProof.Rows L2
/-- the finest modulus under all guards is the common divisor of those under each -/
theorem Fin.gcd {n b x : Nat} {f : List Int} {L M : List Gd} {xs : List Nat} (hx : Fin n f M b x) (hm : ∀ g, g ∈ M ↔ g ∈ L) (hl : xs.length = L.length) (h : ∀ (j : Nat) (y : Nat) (g : Gd), xs[j]? = some y → L[j]? = some g → Fin n f [g] b y) : (x : Int) = gfold (xs.map fun y : Nat => (y : Int)) := by
  have h1 : ∀ y ∈ xs, ∃ g ∈ L, Fin n f [g] b y := fun y hy => by
    obtain ⟨j, hj⟩ := List.mem_iff_getElem?.mp hy
    have jl := (List.getElem?_eq_some_iff.mp hj).1
    have hg : L[j]? = some (L[j]'(by omega)) := List.getElem?_eq_getElem (by omega)
    exact ⟨_, List.mem_of_getElem? hg, h j y _ hj hg⟩
  have h2 : ∀ g ∈ L, ∃ y ∈ xs, Fin n f [g] b y := fun g hg => by
    obtain ⟨j, hj⟩ := List.mem_iff_getElem?.mp hg
    have jl := (List.getElem?_eq_some_iff.mp hj).1
    have hy : xs[j]? = some (xs[j]'(by omega)) := List.getElem?_eq_getElem (by omega)
    exact ⟨_, List.mem_of_getElem? hy, h j _ g hy hj⟩
  have g0 := gfold_nonneg (xs.map fun y : Nat => (y : Int))
  obtain ⟨G, hG⟩ := Int.eq_ofNat_of_zero_le g0
  have dv : ∀ d : Nat, d ∣ G ↔ ∀ y ∈ xs, d ∣ y := fun d => by
    have := dvd_gfold (d := (d : Int)) (xs.map fun y : Nat => (y : Int))
    rw [hG, Int.natCast_dvd_natCast] at this
    rw [this]
    constructor
    · intro a y hy
      exact Int.natCast_dvd_natCast.mp (a _ (List.mem_map.mpr ⟨y, hy, rfl⟩))
    · intro a z hz
      obtain ⟨y, hy, rfl⟩ := List.mem_map.mp hz
      exact Int.natCast_dvd_natCast.mpr (a y hy)
  have one : ∀ {g : Gd} {y : Nat}, Fin n f [g] b y → Hn.Safe n g.1 g.2.1 g.2.2 f y := fun h => h.safe _ (List.mem_singleton.mpr rfl)
  rw [hG]
  refine congrArg _ ?_
  by_cases hz : ∀ y ∈ xs, y = 0
  · have a := hx.z fun g hg => by
      obtain ⟨y, hy, hf⟩ := h2 g ((hm g).mp hg)
      rw [← hz y hy]
      exact one hf
    have : 0 ∣ G := (dv 0).mpr fun y hy => by rw [hz y hy]; exact Nat.dvd_refl 0
    rw [a, Nat.eq_zero_of_zero_dvd this]
  · obtain ⟨y0, hy0⟩ := Classical.not_forall.mp hz
    obtain ⟨hy0, n0⟩ := Classical.not_imp.mp hy0
    refine Nat.dvd_antisymm ((dv x).mpr fun y hy => ?_) ?_
    · obtain ⟨g, hg, hf⟩ := h1 y hy
      have sx := hx.safe g ((hm g).mpr hg)
      rcases hx.dv with e | hb
      · rw [e] at sx
        have := hf.z fun q hq => by rw [List.mem_singleton.mp hq]; exact sx
        rw [this]; exact Nat.dvd_zero _
      · exact hf.all x hb fun q hq => by rw [List.mem_singleton.mp hq]; exact sx
    · refine hx.all G ?_ fun g hg => ?_
      · obtain ⟨g, hg, hf⟩ := h1 y0 hy0
        exact Nat.dvd_trans ((dv G).mp (Nat.dvd_refl _) y0 hy0) (hf.dv.resolve_left n0)
      · obtain ⟨y, hy, hf⟩ := h2 g ((hm g).mp hg)
        exact (one hf).down ((dv G).mp (Nat.dvd_refl _) y hy)
theorem GdsIn.erase {C : Addr} {n A B : Nat} {H : Hp} {qs : List Addr} {L : List Gd} (h : GdsIn C n A B H qs L) (k : Nat) : GdsIn C n A B H (qs.eraseIdx k) (L.eraseIdx k) := by
  refine ⟨by rw [List.length_eraseIdx, List.length_eraseIdx, h.1], fun i a p h1 h2 => ?_⟩
  rw [List.getElem?_eraseIdx] at h1 h2
  split at h1
  · rename_i c; rw [if_pos c] at h2; exact h.2 _ _ _ h1 h2
  · rename_i c; rw [if_neg c] at h2; exact h.2 _ _ _ h1 h2
end Hg
namespace Hg
open PySem PySem.Spec PyProof.Rows L2
end Hg
namespace Hg
open PySem PySem.Spec PyProof.Rows L2
/-! ### xs != [] for a list of any things -/
def rNeL (K : PySem.W.Frag) : R2 := fun x y H Q => ∃ a b xs, x = .ref a ∧ y = .ref b ∧ SqL K H a xs ∧ SqL K H b [] ∧ Q (.bl (!xs.isEmpty)) H
section
variable {X : Cx}
theorem op_neL (hu : X.A.units + 64 < cLine) : OpR X (compareOp .NotEq) (rNeL X.K) := by
  intro pins s σ H x y v u Q I rx ry h
  obtain ⟨a, b, xs, rfl, rfl, ha, hb, q⟩ := h
  cases (show v = Value.ref a from rx)
  cases (show u = Value.ref b from ry)
  obtain ⟨us, r1, p1, _⟩ := I.list ha
  obtain ⟨ws, r2, p2, _⟩ := I.list hb
  have w0 : ws = [] := List.eq_nil_of_length_eq_zero (by rw [← r2.length]; rfl)
  subst w0
  show wpAny (model X.prog X.w) X.A (richCompare .NotEq (.ref a) (.ref b)) (EP X pins σ Q) X.xe s
  cases xs with
  | nil =>
    have u0 : us = [] := List.eq_nil_of_length_eq_zero (by rw [← r1.length]; rfl)
    subst u0
    exact SeqAt.RcNeAt.lists (e := fun _ => true) p1.isList p2.isList rfl (by omega) (fun j h1 => by simp at h1) X.prog X.w X.xe _ ⟨.bl false, H, I, rfl, q⟩
  | cons z zs =>
    have ul : us.length = (z :: zs).length := r1.length.symm
    refine SeqAt.RcNeAt.lists_lengths p1.isList p2.isList ?_ (by omega) X.prog X.w X.xe _ ⟨.bl true, H, I, rfl, q⟩
    rw [List.size_toArray, ul]; simp
theorem kNeL {K : PySem.W.Frag} (hu : X.A.units + 64 < cLine) (hK : X.K = K := by rfl) : OpR X (compareOp .NotEq) (rNeL K) := hK ▸ op_neL hu
end
end Hg
set_option maxHeartbeats 4000000
namespace Hg
open PySem PySem.Spec PyProof.Rows L2
/-- less safe, less fine -/
theorem Fin.dvd {n b x y : Nat} {f : List Int} {L M : List Gd} (hx : Fin n f M b x) (hy : Fin n f L b y) (h : ∀ k : Nat, (∀ g ∈ M, Hn.Safe n g.1 g.2.1 g.2.2 f k) → ∀ g ∈ L, Hn.Safe n g.1 g.2.1 g.2.2 f k) : (x : Int) ∣ (y : Int) := by
  refine Int.natCast_dvd_natCast.mpr ?_
  rcases hx.dv with e | hb
  · have := h 0 (fun g hg => e ▸ hx.safe g hg)
    rw [hy.z this]; exact Nat.dvd_zero _
  · exact hy.all x hb (h x hx.safe)
theorem GdsIn.take {C : Addr} {n A B : Nat} {H : Hp} {qs : List Addr} {L : List Gd} (h : GdsIn C n A B H qs L) (i : Nat) : GdsIn C n A B H (qs.take i) (L.take i) := by
  refine ⟨by rw [List.length_take, List.length_take, h.1], fun j q p h3 h4 => ?_⟩
  rw [List.getElem?_take] at h3 h4
  split at h3
  · rename_i c; rw [if_pos c] at h4; exact h.2 j q p h3 h4
  · cases h3
theorem GdsIn.drop {C : Addr} {n A B : Nat} {H : Hp} {qs : List Addr} {L : List Gd} (h : GdsIn C n A B H qs L) (i : Nat) : GdsIn C n A B H (qs.drop i) (L.drop i) := by
  refine ⟨by rw [List.length_drop, List.length_drop, h.1], fun j q p h3 h4 => ?_⟩
  rw [List.getElem?_drop] at h3 h4
  exact h.2 _ q p h3 h4
end Hg
set_option maxHeartbeats 4000000
namespace Hg
open PySem PySem.Spec PyProof.Rows L2
/-! ### the laws' own way to the rows on which a form vanishes -/
def LeadAt (n : Nat) (f : List Int) (H : Hp) (ld : V) (M : List (List Int)) : Prop := (ld = .non ∧ M = []) ∨ ∃ (la : Addr) (r : List Int), ld = .ref la ∧ H la = some (.tup (iV r)) ∧ M = [r] ∧ Hn.dv n (Hn.fv f) (Hn.fv r) ≠ 0
theorem LeadAt.nl {n : Nat} {f : List Int} {H H' : Hp} {ld : V} {M : List (List Int)} (k : Nl H H') (h : LeadAt n f H ld M) : LeadAt n f H' ld M := by
  rcases h with h | ⟨la, r, h1, h2, h3⟩
  · exact .inl h
  · exact .inr ⟨la, r, h1, k.tup _ _ h2, h3⟩
end Hg
namespace Hg
open PySem PySem.Spec PyProof.Rows L2
end Hg
set_option maxHeartbeats 4000000
namespace Hg
open PySem PySem.Spec PyProof.Rows L2
/-! ### vectors that keep a secret -/
theorem KS.rows {n A B : Nat} {S : List (List Int × Nat)} (ks : KS n A B S) {R : List (List Int)} (hh : Hn.Hnf n (Hn.LatS n S) R) : ∀ r ∈ R, r.length = n ∧ Hn.bnd B (Hn.fv r) := fun r hr => ⟨hh.rlen r hr, ks.bd S.length R (by rw [List.take_length]; exact hh) r hr⟩
theorem KS.si {n A B M : Nat} {S : List (List Int × Nat)} (kb : KB n A B M) (ks : KS n A B S) {R : List (List Int)} (hh : Hn.Hnf n (Hn.LatS n S) R) {f : List Int} (fb : Hn.bnd A (Hn.fv f)) : Hn.SI n M B (Hn.fv f) R (Hn.solGo n (Hn.fv f) R).1 (Hn.solGo n (Hn.fv f) R).2 := by
  have hw : ∀ r ∈ R, r.length = n ∧ Hn.bnd B (Hn.fv r) ∧ (Hn.dv n (Hn.fv f) (Hn.fv r)).natAbs ≤ M := fun r hr => ⟨(ks.rows hh r hr).1, (ks.rows hh r hr).2, by
    refine Nat.le_trans (Hn.sm_abs (B := A * B) fun i _ => ?_) kb.h1
    rw [Int.natAbs_mul]
    exact Nat.mul_le_mul (fb i) ((ks.rows hh r hr).2 i)⟩
  have := Hn.SI.all (f := Hn.fv f) hw R.length
  rwa [List.take_of_length_le (Nat.le_refl _)] at this
end Hg
set_option maxHeartbeats 4000000
namespace Hg
open PySem PySem.Spec PyProof.Rows L2
/-! ### what the laws look at such a vector with -/
end Hg
namespace Hg
open PySem PySem.Spec PyProof.Rows L2
theorem LGinD.of {D : Addr} {H : Hp} {ps : List Addr} {L : List LG} (h : LGin H ps L) (hn : H D = none) : LGinD D H ps L := ⟨h.1, fun i p x h1 h2 => by
  obtain ⟨ba, ta, fa, bs, as, g1, g2, g3, g4, g5, g6⟩ := h.2 i p x h1 h2
  have ne : ∀ {b : Addr} {u : HO}, H b = some u → b ≠ D := fun h e => by rw [e, hn] at h; cases h
  exact ⟨ba, ta, fa, bs, as, ne g1, ne g2, ne g4, g1, g2, g3, g4, g5, g6⟩⟩
theorem LGinD.new {D : Addr} {H : Hp} {ps : List Addr} {L : List LG} (o : HO) (h : LGin H ps L) (hn : H D = none) : LGinD D (upd H D o) ps L := (LGinD.of h hn).ex (Ex.new hn)
end Hg
namespace Hg
open PySem PySem.Spec PyProof.Rows L2
/-! ### a, b = x, x a tuple or a list -/
end Hg
set_option maxHeartbeats 4000000
namespace Hg
open PySem PySem.Spec PyProof.Rows L2
/-! ### guards and their forms as tuples or lists -/
/-- a guard, a tuple or a list -/
def GdQ (C : Addr) (H : Hp) (q : Addr) (n : Nat) (S : List (List Int × Nat)) (f : List Int) (m : Nat) : Prop := ∃ p a : Addr, (H q = some (.tup [.ref p, .ref a, .int (m : Nat)]) ∨ H q = some (.lst [.ref p, .ref a, .int (m : Nat)])) ∧ KnAt C H p n S ∧ FrmAt H a f
theorem GdQ.ex {C : Addr} {H H' : Hp} {q : Addr} {n m : Nat} {S : List (List Int × Nat)} {f : List Int} (e : Ex H H') (h : GdQ C H q n S f m) : GdQ C H' q n S f m := by
  obtain ⟨p, a, h1, h2, h3⟩ := h
  exact ⟨p, a, h1.imp (e _ _) (e _ _), h2.ex e, h3.ex e⟩
theorem GdAt.q {C : Addr} {H : Hp} {q : Addr} {n m : Nat} {S : List (List Int × Nat)} {f : List Int} (h : GdAt C H q n S f m) : GdQ C H q n S f m := by
  obtain ⟨p, a, h1, h2, h3⟩ := h
  exact ⟨p, a, .inl h1, h2, .inl h3⟩
end Hg
set_option maxHeartbeats 4000000
namespace Hg
open PySem PySem.Spec PyProof.Rows L2
end Hg
set_option maxHeartbeats 4000000
namespace Hg
open PySem PySem.Spec PyProof.Rows L2
/-! ### what an answer does to a guard: the grain on the query's kernel, the query's step and the secret's change along it -/
def behV (e st ch : Int) (d : Nat) : Int := if d = 0 ∨ st = 0 then e else gfold [e, (d : Int) / gfold [(d : Int), st] * ch]
/-- behV tells just the values behind the answer by d -/
def EffOk (n : Nat) (x : LG) (q : List Int) (e st ch : Int) : Prop := 0 ≤ e ∧ 0 ≤ st ∧ ∀ (d : Nat) (z : Int), z ∣ behV e st ch d ↔ ∀ v, Hn.LatS n (x.T ++ [(q, d)]) v → z ∣ Hn.dv n (Hn.fv x.f) v
end Hg
namespace Hg
open PySem PySem.Spec PyProof.Rows L2
def EffIn (n : Nat) (q : List Int) (H : Hp) (us : List Addr) (L : List LG) : Prop := us.length = L.length ∧ ∀ (i : Nat) (u : Addr) (x : LG), us[i]? = some u → L[i]? = some x → ∃ e st ch : Int, H u = some (.tup [.int e, .int st, .int ch, .int (x.m : Nat)]) ∧ EffOk n x q e st ch ∧ e.natAbs ≤ 2 ^ 600 ∧ st.natAbs ≤ 2 ^ 600 ∧ ch.natAbs ≤ 2 ^ 600
theorem EffIn.nil {n : Nat} {q : List Int} {H : Hp} : EffIn n q H [] [] := ⟨rfl, fun i u x h => by simp at h⟩
theorem EffIn.nl {n : Nat} {q : List Int} {H H' : Hp} {us : List Addr} {L : List LG} (k : Nl H H') (h : EffIn n q H us L) : EffIn n q H' us L := ⟨h.1, fun i u x h1 h2 => let ⟨e, s, c, h3, h4⟩ := h.2 i u x h1 h2; ⟨e, s, c, k.tup _ _ h3, h4⟩⟩
theorem EffIn.snoc {n : Nat} {q : List Int} {H : Hp} {us : List Addr} {L : List LG} (h : EffIn n q H us L) {u : Addr} {x : LG} {e st ch : Int} (h1 : H u = some (.tup [.int e, .int st, .int ch, .int (x.m : Nat)])) (h2 : EffOk n x q e st ch) (h3 : e.natAbs ≤ 2 ^ 600 ∧ st.natAbs ≤ 2 ^ 600 ∧ ch.natAbs ≤ 2 ^ 600) : EffIn n q H (us ++ [u]) (L ++ [x]) := by
  refine ⟨by simp [h.1], fun i b y h4 h5 => ?_⟩
  by_cases hi : i < us.length
  · rw [List.getElem?_append_left hi] at h4
    rw [List.getElem?_append_left (by rw [← h.1]; exact hi)] at h5
    exact h.2 i b y h4 h5
  · rw [List.getElem?_append_right (by omega)] at h4
    rw [List.getElem?_append_right (by rw [← h.1]; omega), ← h.1] at h5
    have : i - us.length = 0 := by have := (List.getElem?_eq_some_iff.mp h4).1; simp at this; omega
    rw [this] at h4 h5
    cases h4; cases h5
    exact ⟨e, st, ch, h1, h2, h3⟩
end Hg
namespace Hg
open PySem PySem.Spec PyProof.Rows L2
end Hg
namespace Hn
/-! ### numbers of the lattice of some forms, with any bound of the forms -/
/-! ### forms written for other cells -/
/-- vectors that the rows tell apart -/
structure RInv (n n' c : Nat) (R : List (List Int)) : Prop where
  len : R.length = n
  row : ∀ r ∈ R, r.length = n' ∧ ∀ x ∈ r, x.natAbs ≤ 9
  col : ∀ (g : Nat → Int) (A : Nat), (∀ k, k < n → (g k).natAbs ≤ A) → ∀ j, j < n' → (sm n fun k => g k * gt R k j).natAbs ≤ c * A
  num : n' ≤ 12 ∧ (c ≤ 1 ∨ (c ≤ 99 ∧ n' ≤ 11))
  inv : ∃ W : Nat → Vc, (∀ i, i < n → ∀ j, n' ≤ j → W i j = 0) ∧ ∀ i k, i < n → k < n → dv n' (gt R k) (W i) = if k = i then 1 else 0
/-- a column with one entry, a unit or its negative, or none -/
theorem col_one {n : Nat} {R : List (List Int)} {j k0 : Nat} (h1 : ∀ k, k < n → k ≠ k0 → gt R k j = 0) (h2 : (gt R k0 j).natAbs ≤ 1) {g : Nat → Int} {A : Nat} (hg : ∀ k, k < n → (g k).natAbs ≤ A) : (sm n fun k => g k * gt R k j).natAbs ≤ 1 * A := by
  by_cases hk : k0 < n
  · rw [sm_one hk fun k h hne => by rw [h1 k h hne]; simp, Int.natAbs_mul, Nat.mul_comm]
    exact Nat.mul_le_mul h2 (hg k0 hk)
  · rw [sm_zero fun k h => by rw [h1 k h (by omega)]; simp]
    simp
theorem dv_unit {n' i : Nat} {f : Vc} (hi : i < n') : dv n' f (fun j => if j = i then 1 else 0) = f i := by
  unfold dv
  rw [sm_one hi fun j _ hne => by show f j * (if j = i then 1 else 0) = 0; rw [if_neg hne]; simp]
  show f i * (if i = i then 1 else 0) = f i
  rw [if_pos rfl]; simp
/-- a zero cell put in -/
theorem RInv.put {n at_ : Nat} {R : List (List Int)} (hn : n ≤ 11) (ha : at_ < n) (hl : R.length = n) (hr : ∀ r ∈ R, r.length = n + 1 ∧ ∀ x ∈ r, x.natAbs ≤ 9) (h : ∀ k, k < n → ∀ j, j < n + 1 → gt R k j = if j < at_ then (if j = k then 1 else 0) else if j = at_ then 0 else (if j = k + 1 then 1 else 0)) : RInv n (n + 1) 1 R := by
  refine ⟨hl, hr, fun g A hg j hj => ?_, ⟨by omega, .inl (Nat.le_refl _)⟩, fun i j => if j = (if i < at_ then i else i + 1) then 1 else 0, fun i hi j hj => ?_, fun i k hi hk => ?_⟩
  · refine col_one (k0 := if j < at_ then j else j - 1) (fun k hk hne => ?_) ?_ hg
    · rw [h k hk j hj]
      split at hne <;> split <;> (try split) <;> (try split) <;> first | rfl | omega
    · by_cases hk : (if j < at_ then j else j - 1) < n
      · rw [h _ hk j hj]; split <;> split <;> (try split) <;> decide
      · unfold gt; rw [List.getD_eq_getElem?_getD, List.getElem?_eq_none (by omega)]; simp [fv]
  · show (if _ then _ else _) = _
    rw [if_neg]; split <;> omega
  · show dv (n + 1) (gt R k) (fun j => if j = (if i < at_ then i else i + 1) then 1 else 0) = _
    by_cases hi' : i < at_
    · rw [if_pos hi', dv_unit (by omega), h k hk i (by omega), if_pos hi']
      by_cases e : k = i
      · rw [if_pos e, if_pos e.symm]
      · rw [if_neg e, if_neg (Ne.symm e)]
    · rw [if_neg hi', dv_unit (by omega), h k hk (i + 1) (by omega), if_neg (by omega), if_neg (by omega)]
      by_cases e : k = i
      · rw [if_pos e, if_pos (by omega)]
      · rw [if_neg e, if_neg (by omega)]
/-- the rows of a unimodular matrix -/
theorem RInv.frm {n : Nat} {U F : List (List Int)} (h : Frm n U F) (hn : n ≤ 11) (u9 : ∀ u ∈ U, ∀ x ∈ u, x.natAbs ≤ 9) : RInv n n 99 U := by
  refine ⟨h.ul, fun r hr => ⟨(h.us r hr).1, u9 r hr⟩, fun g A hg j hj => ?_, ⟨by omega, .inr ⟨Nat.le_refl _, by omega⟩⟩, fun i => gt F i, fun i hi j hj => ?_, fun i k hi hk => ?_⟩
  · refine Nat.le_trans (sm_abs (B := 9 * A) fun k hk => ?_) ?_
    · rw [Int.natAbs_mul, Nat.mul_comm]
      refine Nat.mul_le_mul ?_ (hg k hk)
      have hk' : U[k]? = some (U[k]'(by rw [h.ul]; exact hk)) := List.getElem?_eq_getElem (by rw [h.ul]; exact hk)
      rw [gt_at hk']
      exact u9 _ (List.mem_of_getElem? hk') _ (List.mem_of_getElem? (fv_get (by rw [(h.us _ (List.mem_of_getElem? hk')).1]; exact hj)))
    · rw [← Nat.mul_assoc]
      exact Nat.mul_le_mul_right A (by omega)
  · have hi' : F[i]? = some (F[i]'(by rw [h.fl]; exact hi)) := List.getElem?_eq_getElem (by rw [h.fl]; exact hi)
    show gt F i j = 0
    rw [gt_at hi', fv_out (by rw [(h.fs _ (List.mem_of_getElem? hi')).1]; exact hj)]
  · rw [dv_comm, h.du i k hi hk]
    by_cases c : k = i
    · rw [if_pos c, if_pos c.symm]
    · rw [if_neg c, if_neg (Ne.symm c)]
end Hn
set_option maxHeartbeats 4000000
namespace Hg
open PySem PySem.Spec PyProof.Rows L2
/-! ### the same with the bounds of a law's own lattices -/
/-! ### sizes for forms of other cells -/
/-! ### the laws' own other cells -/
end Hg
set_option maxHeartbeats 4000000
namespace Hg
open PySem PySem.Spec PyProof.Rows L2
/-! ### new lists of numbers beside the list D that holds them -/
def RowsN (H0 : Hp) (D : Addr) (H : Hp) (xs : List V) (R : List (List Int)) : Prop := xs.length = R.length ∧ ∀ (i : Nat) (x : V) (r : List Int), xs[i]? = some x → R[i]? = some r → ∃ b, x = .ref b ∧ b ≠ D ∧ H0 b = none ∧ H b = some (.lst (iV r))
theorem RowsN.nil {H0 : Hp} {D : Addr} {H : Hp} : RowsN H0 D H [] [] := ⟨rfl, fun i x r h _ => by simp at h⟩
theorem RowsN.ex {H0 : Hp} {D : Addr} {H H' : Hp} {xs : List V} {R : List (List Int)} (e : Ex H H') (h : RowsN H0 D H xs R) : RowsN H0 D H' xs R := ⟨h.1, fun i x r h1 h2 => let ⟨b, q1, q2, q3, q4⟩ := h.2 i x r h1 h2; ⟨b, q1, q2, q3, e _ _ q4⟩⟩
theorem RowsN.put {H0 : Hp} {D : Addr} {H : Hp} {xs : List V} {R : List (List Int)} (o : HO) (h : RowsN H0 D H xs R) : RowsN H0 D (upd H D o) xs R := ⟨h.1, fun i x r h1 h2 => let ⟨b, q1, q2, q3, q4⟩ := h.2 i x r h1 h2; ⟨b, q1, q2, q3, (upd_ne q2).trans q4⟩⟩
theorem RowsN.snoc {H0 : Hp} {D : Addr} {H : Hp} {xs : List V} {R : List (List Int)} {a : Addr} {r : List Int} (h : RowsN H0 D H xs R) (n : a ≠ D) (h0 : H0 a = none) (ha : H a = some (.lst (iV r))) : RowsN H0 D H (xs ++ [.ref a]) (R ++ [r]) := by
  refine ⟨by simp [h.1], fun i x q h1 h2 => ?_⟩
  by_cases hi : i < xs.length
  · rw [List.getElem?_append_left hi] at h1
    rw [List.getElem?_append_left (by rw [← h.1]; exact hi)] at h2
    exact h.2 i x q h1 h2
  · rw [List.getElem?_append_right (by omega)] at h1
    rw [List.getElem?_append_right (by rw [← h.1]; omega), ← h.1] at h2
    have : i - xs.length = 0 := by have := (List.getElem?_eq_some_iff.mp h1).1; simp at this; omega
    rw [this] at h1 h2
    cases h1
    cases h2
    exact ⟨a, rfl, n, h0, ha⟩
/-- a unit among n cells -/
def unL (n k : Nat) : List Int := (List.range n).map fun j => if j = k then 1 else 0
end Hg
set_option maxHeartbeats 4000000
namespace Hg
open PySem PySem.Spec PyProof.Rows L2
/-! ### lists of numbers beside two lists that change -/
def RowsM (D L : Addr) (H : Hp) (xs : List V) (R : List (List Int)) : Prop := xs.length = R.length ∧ ∀ (i : Nat) (x : V) (r : List Int), xs[i]? = some x → R[i]? = some r → ∃ b, x = .ref b ∧ b ≠ D ∧ b ≠ L ∧ H b = some (.lst (iV r))
theorem RowsM.nil {D L : Addr} {H : Hp} : RowsM D L H [] [] := ⟨rfl, fun i x r h _ => by simp at h⟩
theorem RowsM.ex {D L : Addr} {H H' : Hp} {xs : List V} {R : List (List Int)} (e : Ex H H') (h : RowsM D L H xs R) : RowsM D L H' xs R := ⟨h.1, fun i x r h1 h2 => let ⟨b, q1, q2, q3, q4⟩ := h.2 i x r h1 h2; ⟨b, q1, q2, q3, e _ _ q4⟩⟩
theorem RowsM.snoc {D L : Addr} {H : Hp} {xs : List V} {R : List (List Int)} {a : Addr} {r : List Int} (h : RowsM D L H xs R) (n1 : a ≠ D) (n2 : a ≠ L) (ha : H a = some (.lst (iV r))) : RowsM D L H (xs ++ [.ref a]) (R ++ [r]) := by
  refine ⟨by simp [h.1], fun i x q h1 h2 => ?_⟩
  by_cases hi : i < xs.length
  · rw [List.getElem?_append_left hi] at h1
    rw [List.getElem?_append_left (by rw [← h.1]; exact hi)] at h2
    exact h.2 i x q h1 h2
  · rw [List.getElem?_append_right (by omega)] at h1
    rw [List.getElem?_append_right (by rw [← h.1]; omega), ← h.1] at h2
    have : i - xs.length = 0 := by have := (List.getElem?_eq_some_iff.mp h1).1; simp at this; omega
    rw [this] at h1 h2
    cases h1
    cases h2
    exact ⟨a, rfl, n1, n2, ha⟩
theorem RowsM.erase {D L : Addr} {H : Hp} {xs : List V} {R : List (List Int)} (h : RowsM D L H xs R) (k : Nat) : RowsM D L H (xs.eraseIdx k) (R.eraseIdx k) := by
  refine ⟨by rw [List.length_eraseIdx, List.length_eraseIdx, h.1], fun i a p h1 h2 => ?_⟩
  rw [List.getElem?_eraseIdx] at h1 h2
  split at h1
  · rename_i c; rw [if_pos c] at h2; exact h.2 _ _ _ h1 h2
  · rename_i c; rw [if_neg c] at h2; exact h.2 _ _ _ h1 h2
theorem RowsM.k {K : PySem.W.Frag} {D L : Addr} {H : Hp} {xs : List V} {R : List (List Int)} (h : RowsM D L H xs R) : RowsK K H xs R := ⟨h.1, fun i x r h1 h2 => let ⟨b, q1, _, _, q4⟩ := h.2 i x r h1 h2; ⟨false, b, q1, SqK.lst q4⟩⟩
end Hg
set_option maxHeartbeats 4000000
namespace Hg
open PySem PySem.Spec PyProof.Rows L2
/-! ### the same answers under other cells -/
theorem Fin.same {n n' b x y : Nat} {f f' : List Int} {L L' : List Gd} (hx : Fin n f L b x) (hy : Fin n' f' L' b y) (h : ∀ k : Nat, (∀ g ∈ L, Hn.Safe n g.1 g.2.1 g.2.2 f k) ↔ ∀ g ∈ L', Hn.Safe n' g.1 g.2.1 g.2.2 f' k) : x = y := by
  by_cases h0 : ∀ g ∈ L, Hn.Safe n g.1 g.2.1 g.2.2 f 0
  · rw [hx.z h0, hy.z ((h 0).mp h0)]
  · have xb : x ∣ b := by
      rcases hx.dv with e | e
      · exact absurd (fun g hg => e ▸ hx.safe g hg) h0
      · exact e
    have yb : y ∣ b := by
      rcases hy.dv with e | e
      · exact absurd ((h 0).mpr fun g hg => e ▸ hy.safe g hg) h0
      · exact e
    exact Nat.dvd_antisymm (hy.all x xb ((h x).mp hx.safe)) (hx.all y yb ((h y).mpr hy.safe))
end Hg
set_option maxHeartbeats 4000000
namespace Hg
open PySem PySem.Spec PyProof.Rows L2
/-- a guard, a tuple or a list, beside a list D that changes -/
def GdQL (C D : Addr) (H : Hp) (q : Addr) (n : Nat) (g : Gd) : Prop := ∃ p a : Addr, q ≠ D ∧ a ≠ D ∧ (H q = some (.tup [.ref p, .ref a, .int (g.2.2 : Nat)]) ∨ H q = some (.lst [.ref p, .ref a, .int (g.2.2 : Nat)])) ∧ KnAt C H p n g.1 ∧ FrmAt H a g.2.1
theorem GdQL.ex {C D : Addr} {H H' : Hp} {q : Addr} {n : Nat} {g : Gd} (e : Ex H H') (h : GdQL C D H q n g) : GdQL C D H' q n g := by
  obtain ⟨p, a, n1, n2, h1, h2, h3⟩ := h
  exact ⟨p, a, n1, n2, h1.imp (e _ _) (e _ _), h2.ex e, h3.ex e⟩
theorem GdQL.put {C D : Addr} {H : Hp} {q : Addr} {n : Nat} {g : Gd} {xs : List V} {o : HO} (hD : H D = some (.lst xs)) (h : GdQL C D H q n g) : GdQL C D (upd H D o) q n g := by
  obtain ⟨p, a, n1, n2, h1, h2, h3⟩ := h
  exact ⟨p, a, n1, n2, h1.imp (fun h => (upd_ne n1).trans h) (fun h => (upd_ne n1).trans h), h2.nl (Nl.put hD), h3.imp (fun h => (upd_ne n2).trans h) fun h => (upd_ne n2).trans h⟩
theorem GdQL.q {C D : Addr} {H : Hp} {q : Addr} {n : Nat} {g : Gd} (h : GdQL C D H q n g) : GdQ C H q n g.1 g.2.1 g.2.2 := by
  obtain ⟨p, a, _, _, h1, h2, h3⟩ := h
  exact ⟨p, a, h1, h2, h3⟩
def GdsQL (C D : Addr) (n : Nat) (H : Hp) (us : List Addr) (L : List Gd) : Prop := us.length = L.length ∧ ∀ (i : Nat) (u : Addr) (g : Gd), us[i]? = some u → L[i]? = some g → GdQL C D H u n g
def GdsQ (C : Addr) (n : Nat) (H : Hp) (us : List Addr) (L : List Gd) : Prop := us.length = L.length ∧ ∀ (i : Nat) (u : Addr) (g : Gd), us[i]? = some u → L[i]? = some g → GdQ C H u n g.1 g.2.1 g.2.2
theorem GdsQL.nil {C D : Addr} {n : Nat} {H : Hp} : GdsQL C D n H [] [] := ⟨rfl, fun i u g h => by simp at h⟩
theorem GdsQL.ex {C D : Addr} {n : Nat} {H H' : Hp} {us : List Addr} {L : List Gd} (e : Ex H H') (h : GdsQL C D n H us L) : GdsQL C D n H' us L := ⟨h.1, fun i u g h1 h2 => (h.2 i u g h1 h2).ex e⟩
theorem GdsQL.put {C D : Addr} {n : Nat} {H : Hp} {us : List Addr} {L : List Gd} {xs : List V} {o : HO} (hD : H D = some (.lst xs)) (h : GdsQL C D n H us L) : GdsQL C D n (upd H D o) us L := ⟨h.1, fun i u g h1 h2 => (h.2 i u g h1 h2).put hD⟩
theorem GdsQ.ex {C : Addr} {n : Nat} {H H' : Hp} {us : List Addr} {L : List Gd} (e : Ex H H') (h : GdsQ C n H us L) : GdsQ C n H' us L := ⟨h.1, fun i u g h1 h2 => (h.2 i u g h1 h2).ex e⟩
theorem GdsQL.snoc {C D : Addr} {n : Nat} {H : Hp} {us : List Addr} {L : List Gd} (h : GdsQL C D n H us L) {u : Addr} {g : Gd} (hu : GdQL C D H u n g) : GdsQL C D n H (us ++ [u]) (L ++ [g]) := by
  refine ⟨by simp [h.1], fun i b y h3 h4 => ?_⟩
  by_cases hi : i < us.length
  · rw [List.getElem?_append_left hi] at h3
    rw [List.getElem?_append_left (by rw [← h.1]; exact hi)] at h4
    exact h.2 i b y h3 h4
  · rw [List.getElem?_append_right (by omega)] at h3
    rw [List.getElem?_append_right (by rw [← h.1]; omega), ← h.1] at h4
    have : i - us.length = 0 := by have := (List.getElem?_eq_some_iff.mp h3).1; simp at this; omega
    rw [this] at h3 h4
    cases h3; cases h4
    exact hu
end Hg
set_option maxHeartbeats 4000000
namespace Hg
open PySem PySem.Spec PyProof.Rows L2
/-! ### questions to guards and by forms that are tuples or lists -/
end Hg
set_option maxHeartbeats 4000000
namespace Hg
open PySem PySem.Spec PyProof.Rows L2
/-! ### own errors with fields: made by raise -/
def sp_frozen (K : PySem.W.Frag) : Sp := fun vs H Q _ => ∃ (v : V) (d : PyData), vs = [v] ∧ Dp K H v d ∧ wk d ≤ 100000 ∧ ∀ (v' : V) (H' : Hp), Ex H H' → Tp H' v' (fz d) → Q v' H'
/-- an error class as the top leaves it -/
structure OwnC (P : Program) (K : PySem.W.Frag) (mg : Str → Option Value) (name : Str) (nf : Addr → Addr → NdefX.NF) (qual : Str) (C fI cc cda : Addr) (fd : FuncData) (ps : List Str) : Prop where
  err : ErrK P K mg C fI cc cda
  mg : mg name = some (.ref C)
  iC : PySem.W.findIn K (.ref C) "__init__" = some (some (.ref fI))
  tI : PySem.W.typeIn K (.ref fI) = some (.type "function")
  fn : ∃ (oc : Value) (od : Option Addr) (doc pm ct : Value) (osl : Array (Option Value)), fd = (nf cc cda).fd doc pm ct ∧ K.lookup fI = some ⟨oc, od, .func fd, osl⟩
  code : PySem.W.codeIn K (.ref cda) qual = true
  bd : Binds K fd ps []
  xf : XfC K C
  ex : ExcC K C
/-- C.__init__(self, v1, ..): its fields are what frozen makes of them -/
def sp_ini (C : Addr) (fields : List Str) (K : PySem.W.Frag) : Sp := fun vs H Q _ => ∃ (a : Addr) (us : List V) (ds : List PyData) (G : Hp), vs = .ref a :: us ∧ us.length = fields.length ∧ G a = none ∧ H = upd G a (exo a C none) ∧ DpAll K G us ds ∧ (∀ d ∈ ds, wk d ≤ 100000) ∧
  ∀ (H' : Hp) (dx : Addr) (ws : List V), G dx = none → Ex G H' → H' a = some (exo a C (some dx)) → H' dx = some (exd dx (fields.zip ws).reverse) → TpAll H' ws (ds.map fz) → Q .non H'
theorem ini_len {C : Addr} {fields : List Str} {K : PySem.W.Frag} {vs : List V} {H : Hp} {Q : VK} {E : XK} {ps : List Str} (h : sp_ini C fields K vs H Q E) (e : ps.length = fields.length + 1 := by rfl) : vs.length = ps.length := by
  obtain ⟨a, us, ds, G, rfl, hl, _⟩ := h
  rw [e, List.length_cons, hl]
theorem ini_self {C : Addr} {fields : List Str} {K : PySem.W.Frag} {vs : List V} {H : Hp} {Q : VK} {E : XK} (h : sp_ini C fields K vs H Q E) : ∃ a us, vs = .ref a :: us ∧ H a = some (exo a C none) := by
  obtain ⟨a, us, ds, G, rfl, _, _, rfl, _⟩ := h
  exact ⟨a, us, rfl, upd_same⟩
section
variable {K : PySem.W.Frag} {C a : Addr} {G H : Hp} {σ : L2.St} {f : Str} {i : Nat} {v : V} {d : PyData} {D : Ends}
theorem ini_first (T : OexC K C) (hno : PySem.W.findIn K (.ref C) f = some none) (s0 : σ[0]? = some (some (.ref a))) (si : σ[i]? = some (some v)) (ga : G a = none) (hd : Dp K G v d) (hw : wk d ≤ 100000)
    (next : ∀ (y : V) (H' : Hp) (dx : Addr), Ex G H' → G dx = none → dx ≠ a → H' a = some (exo a C (some dx)) → H' dx = some (exd dx [(f, y)]) → Tp H' y (fz d) → D.nx σ H') :
    tOst K f (tVar 0) (tCall (sp_frozen K) [] E0 (tCons (tVar i) tNil)) D σ (upd G a (exo a C none)) := by
  have e0 := Ex.new (o := exo a C none) ga
  refine ⟨v, si, v, d, rfl, dp_ex e0 d v hd, hw, fun y H1 e1 t1 => ⟨.ref a, s0, a, C, rfl, T, hno, .inl ⟨e1 _ _ upd_same, fun dx hdx ne => ?_⟩⟩⟩
  have E1 := e0.trans e1
  have gdx := E1.free hdx
  have ha1 := e1 _ _ (upd_same (H := G) (a := a) (o := exo a C none))
  refine next y _ dx ((E1.up gdx).up ga) gdx ne upd_same ((upd_ne ne).trans upd_same) (Tp.mono (fun b xs hb => ?_) _ _ t1)
  refine (upd_ne (fun z => ?_)).trans ((upd_ne (ne_of_none hb hdx)).trans hb)
  rw [z, ha1] at hb
  exact exo_tup (Option.some.inj hb)
variable {N : List Str} {vs : List V} {Q : VK} {E : XK}
abbrev row1 (K : PySem.W.Frag) (f : Str) (i : Nat) : TS := tOst K f (tVar 0) (tCall (sp_frozen K) [] E0 (tCons (tVar i) tNil))
abbrev endQ (Q : VK) : Ends := { nx := fun _ H' => Q .non H', rt := Q }
theorem ini1 {f1 : Str} (T : OexC K C) (hno : ∀ y ∈ ([f1] : List Str), PySem.W.findIn K (.ref C) y = some none) (h : sp_ini C [f1] K vs H Q E) : row1 K f1 1 (endQ Q) (NdefX.startF N vs [some (.ref C)]) H := by
  obtain ⟨a, us, ds, G, rfl, hl, ga, rfl, hd, hw, q⟩ := h
  match us, ds, hl, hd with
  | [u1], [d1], _, .cons h1 .nil =>
    exact ini_first T (hno f1 (by simp)) rfl rfl ga h1 (hw d1 (by simp)) fun y H' dx e gdx ne ha hx t => q H' dx [y] gdx e ha hx (.cons t .nil)
end
structure OwnK (P : Program) (K : PySem.W.Frag) (name : Str) (nf : Addr → Addr → NdefX.NF) (qual : Str) (C fI cc cda : Addr) (fields : List Str) : Prop where
  ns : PySem.W.nsIn K mainGlobals name = some (some (.ref C))
  oex : OexC K C
  code : ∃ (ccl : Value) (cdd : Option Addr) (vs : Array Value) (ccs : Array (Option Value)) (tf : Tok) (fl : Str), K.lookup cda = some ⟨ccl, cdd, .fields vs, ccs⟩ ∧ vs[2]? = some (.str fl tf) ∧ ((P.main.file : Str) == fl) = true
  cell : ∃ (cl : Value) (cld : Option Addr) (csl : Array (Option Value)), K.lookup cc = some ⟨cl, cld, .cell (some (.ref C)), csl⟩
  cls : ∃ cd, PySem.W.clsIn K C = some cd
  own : PySem.W.mroIn K C (.ref C) = some true
  ve : PySem.W.subIn K (.ref C) (.type "ValueError") = some true
  sup : PySem.W.ks_superIn K C C "__init__" = some (some (.builtin "ValueError.__init__"))
  iC : PySem.W.findIn K (.ref C) "__init__" = some (some (.ref fI))
  tI : PySem.W.typeIn K (.ref fI) = some (.type "function")
  fn : ∃ (oc : Value) (od : Option Addr) (doc pm ct : Value) (osl : Array (Option Value)), K.lookup fI = some ⟨oc, od, .func ((nf cc cda).fd doc pm ct), osl⟩
  cdk : PySem.W.codeIn K (.ref cda) qual = true
  xf : XfC K C
  ex : ExcC K C
  no : (fields.all fun y => decide (PySem.W.findIn K (.ref C) y = some none)) = true
  te : PySem.W.exmOne K (.ref C) (.ref C) = some true
theorem OwnK.nos {P : Program} {K : PySem.W.Frag} {name : Str} {nf : Addr → Addr → NdefX.NF} {qual : Str} {C fI cc cda : Addr} {fields : List Str} (T : OwnK P K name nf qual C fI cc cda fields) : ∀ y ∈ fields, PySem.W.findIn K (.ref C) y = some none := fun y hy => of_decide_eq_true (List.all_eq_true.mp T.no y hy)
theorem ownK_mk {P : Program} {K : PySem.W.Frag} {name : Str} {nf : Addr → Addr → NdefX.NF} {qual : Str} {C fI cc cda : Addr} {fields : List Str} {N : Addr} {nm q : Str} {bs bm : List Value} {sn : List Str} {sub : List Value} {ab : Bool} {col : Option Bool} {dd : Option Addr} {m0 m1 m2 m3 m5 : Option Value} {oc dc pm ct : Value} {od : Option Addr} {sl : Array (Option Value)}
    {clk : Value} {ddk : Option Addr} {vsk : Array Value} {slk : Array (Option Value)} {tfk : Tok} {flk : Str} {clc : Value} {ddc : Option Addr} {slc : Array (Option Value)} {cd : ClassData}
    (a : PySem.W.nsIn K mainGlobals name = some (some (.ref C))) (x : K.lookup C = some (excClassObj nm q C N bs bm true sn sub ab col dd m0 m1 m2 m3 m5 "ValueError.__new__")) (r : PySem.HandSPX.refsVE bm = true) (sa : PySem.W.findIn K (.ref C) "__setattr__" = some (some (.builtin "object.__setattr__"))) (e : PySem.W.subIn K (.ref C) (.type "BaseException") = some true) (t : PySem.W.typeIn K (.ref C) = some (.type "type")) (kc : PySem.W.keepIn K (.ref C) = true)
    (i : PySem.W.findIn K (.ref C) "__init__" = some (some (.ref fI))) (ti : PySem.W.typeIn K (.ref fI) = some (.type "function")) (l : K.lookup fI = some ⟨oc, od, .func ((nf cc cda).fd dc pm ct), sl⟩) (ck : PySem.W.codeIn K (.ref cda) qual = true) (lk : K.lookup cda = some ⟨clk, ddk, .fields vsk, slk⟩) (lk2 : vsk[2]? = some (.str flk tfk)) (lk3 : ((P.main.file : Str) == flk) = true)
    (lc : K.lookup cc = some ⟨clc, ddc, .cell (some (.ref C)), slc⟩) (cl : PySem.W.clsIn K C = some cd) (ow : PySem.W.mroIn K C (.ref C) = some true) (ve : PySem.W.subIn K (.ref C) (.type "ValueError") = some true) (su : PySem.W.ks_superIn K C C "__init__" = some (some (.builtin "ValueError.__init__")))
    (ga : PySem.W.findIn K (.ref C) "__getattribute__" = some (some (.builtin "BaseException.__getattribute__"))) (gg : PySem.W.findIn K (.ref C) "__getattr__" = some none) (hd : PySem.W.hasDictIn K C = true) (ha : PySem.W.findIn K (.ref C) "__class__" = some (some (.builtin "object.__class__"))) (hn : PySem.W.specialIn K (.builtin "object.__class__") "__get__" = some (some (.builtin "getset_descriptor.__get__"))) (ht : PySem.W.takesIn K (.builtin "object.__class__") = some true) (hm : PySem.W.mroIn K C (.type "object") = some true)
    (no : (fields.all fun y => decide (PySem.W.findIn K (.ref C) y = some none)) = true) (te : PySem.W.exmOne K (.ref C) (.ref C) = some true) : OwnK P K name nf qual C fI cc cda fields :=
  ⟨a, ⟨⟨nm, q, N, bs, bm, sn, sub, ab, col, dd, m0, m1, m2, m3, m5, x, r⟩, sa, e, t, kc⟩, ⟨clk, ddk, vsk, slk, tfk, flk, lk, lk2, lk3⟩, ⟨clc, ddc, slc, lc⟩, ⟨cd, cl⟩, ow, ve, su, i, ti, ⟨oc, od, dc, pm, ct, sl, l⟩, ck, ⟨ga, gg, e, hd⟩, ⟨ga, gg, e, hd, ha, hn, ht, hm⟩, no, te⟩
theorem Ex.del {G H : Hp} {p : Addr} (x : Ex G H) (h : G p = none) : Ex G (del H p) := fun a u e => (del_ne (ne_of_none e h)).trans (x _ _ e)
end Hg
namespace Hg
open PySem PySem.Spec PyProof.Rows L2
theorem kXf {X : Cx} {K : PySem.W.Frag} {a C : Addr} {oe : Obj} {cls : Value} {d : Option Addr} {pn : List (Addr × Obj)} {e : Expr} {te : TE} {pos : Pos} {n : Str} (T : XfC K C) (hno : PySem.W.findIn K (.ref C) n = some none)
    (hz : Zc cls d oe) (hf : ∃ vs, oe.data = .fields vs) (he : PE (X.suite a ((a, oe) :: pn)) e te) (hK : X.K = K := by rfl) (hb : attributeBase e n X.env (eval e X.env) = eval e X.env := by rfl) :
    PE (X.suite a ((a, oe) :: pn)) (.Attribute e n pos) (tXf a cls d C n te) := by
  subst hK
  exact pe_xf T hno hz hf he hb
end Hg
set_option maxHeartbeats 4000000
namespace Hg
open PySem PySem.Spec PyProof.Rows L2
/-! ### the law's own list of divisors: all of them, rising -/
/-! ### guards that may not hold: refused -/
/-- what guards must be for an answer to be told -/
def GdsOk (n A B : Nat) (L : List Gd) : Prop := ∀ x ∈ L, KS n A B x.1 ∧ x.2.1.length = n ∧ Hn.bnd A (Hn.fv x.2.1)
/-- the first guard that does not hold -/
structure Lost (n : Nat) (L : List Gd) (i : Nat) : Prop where
  at_ : ∃ g, L[i]? = some g ∧ ¬ Hn.Has n g.1 g.2.1 g.2.2
  first : ∀ (j : Nat) (g : Gd), j < i → L[j]? = some g → Hn.Has n g.1 g.2.1 g.2.2
theorem Fin.uniq {n b x y : Nat} {f : List Int} {L : List Gd} (hx : Fin n f L b x) (hy : Fin n f L b y) : x = y := Fin.same hx hy fun _ => Iff.rfl
theorem GdsOk.of {n : Nat} {L : List LG} (n1 : 1 ≤ n) (n12 : n ≤ 12) (h : ∀ x ∈ L, LGok n x) : GdsOk n 99 (2 ^ 5681) (L.map LG.gd) := fun g hg => by
  obtain ⟨x, hx, rfl⟩ := List.mem_map.mp hg
  have ok := h x hx
  exact ⟨ks12 n1 n12 (by have := ok.Tl; show x.T.length ≤ 20; omega) ok.Tok, ok.fl, ok.fb⟩
theorem Lost.not {n : Nat} {L : List Gd} {i : Nat} (h : Lost n L i) : ¬ GKept n L := fun k => by
  obtain ⟨⟨g, hg, hn⟩, _⟩ := h
  exact hn (k g (List.mem_of_getElem? hg))
theorem Lost.uniq {n : Nat} {L : List Gd} {i j : Nat} (h : Lost n L i) (k : Lost n L j) : i = j := by
  obtain ⟨⟨g, hg, hn⟩, h1⟩ := h
  obtain ⟨⟨g', hg', hn'⟩, h1'⟩ := k
  rcases Nat.lt_trichotomy i j with c | c | c
  · exact absurd (h1' i g c hg) hn
  · exact c
  · exact absurd (h1 j g' c hg') hn'
theorem ne_nk {K : PySem.W.Frag} {H : Hp} {p q : Addr} {x : Str} {i : Int} {Q : VK} (hp : H p = some (.tup [.str x, .int i])) (hq : H q = some (.tup [.str x, .int i])) (k : Q (.bl false) H) (hx : PyData.strOk x = true := by decide +kernel) : rNeA K (.ref p) (.ref q) H Q :=
  .inr ⟨.tuple [.str x, .int i], .tuple [.str x, .int i], .tup (SqT.of hp) (.cons (.str _) (.cons (.int _) .nil)), .tup (SqT.of hq) (.cons (.str _) (.cons (.int _) .nil)), by simp [SeqAt.shaped, PyData.canLay0, PyData.canLay, PyData.canLayAll0, PyData.depth, PyData.depthAll, hx], by simp [SeqAt.shaped, PyData.canLay0, PyData.canLay, PyData.canLayAll0, PyData.depth, PyData.depthAll, hx], by simpa [PyData.eqv, PyData.eqvAll] using k⟩
end Hg
set_option maxHeartbeats 4000000
namespace Tk
open PySem PySem.Spec PyProof.Rows L2 Hg
/-! ### what a token is -/
abbrev LET : List Nat := [97, 98, 99, 100, 101, 102, 103, 104, 105, 106, 107, 108, 109, 110, 111, 112, 113, 114, 115, 116, 117, 118, 119, 120, 121, 122]
abbrev DIG : List Nat := [48, 49, 50, 51, 52, 53, 54, 55, 56, 57]
abbrev NCH : List Nat := [97, 98, 99, 100, 101, 102, 103, 104, 105, 106, 107, 108, 109, 110, 111, 112, 113, 114, 115, 116, 117, 118, 119, 120, 121, 122, 95, 48, 49, 50, 51, 52, 53, 54, 55, 56, 57]
abbrev RES : List (List Nat) := [[115, 101, 108, 101, 99, 116], [115, 117, 109], [99, 111, 117, 110, 116], [102, 114, 111, 109], [97, 116], [100, 97, 121], [97, 115], [119, 104, 101, 114, 101], [98, 121], [97, 110, 100], [111, 114], [110, 111, 116], [105, 110]]
abbrev LSY : List (List Nat) := [[33, 61], [60, 61], [62, 61]]
abbrev SSY : List Nat := [40, 41, 44, 46, 43, 45, 42, 61, 60, 62]
def runN (cs r : List Nat) : Nat := (r.takeWhile fun c => decide (c ∈ cs)).length
def isW (w : List Nat) : Bool := decide (w.length ≤ 12) && w.all fun c => decide (32 ≤ c) && decide (c ≤ 126) && !decide (c = 34)
def tokL (r : List Nat) : Option (Str × V × Nat) := if 12 < runN NCH r then none else some (if r.take (runN NCH r) ∈ RES then "reserved" else "name", .str (tx (r.take (runN NCH r))), runN NCH r)
def tokD (r : List Nat) : Option (Str × V × Nat) := if 6 < runN DIG r ∨ (1 < runN DIG r ∧ r[0]? = some 48) then none else (PySem.intText? (tx (r.take (runN DIG r)))).map fun v => ("integer", .int v, runN DIG r)
def tokW (r : List Nat) : Option (Str × V × Nat) := let w := (r.drop 1).takeWhile fun c => !decide (c = 34); if w.length + 1 < r.length ∧ isW w = true then some ("word", .str (tx w), w.length + 2) else none
def tokR (r : List Nat) : Option (Str × V × Nat) :=
  match r with
  | [] => none
  | c :: cs => if c ∈ LET then tokL (c :: cs) else if c ∈ DIG then tokD (c :: cs) else if c = 34 then tokW (c :: cs) else
    if (c :: cs).take 2 ∈ LSY then some ("symbol", .str (tx ((c :: cs).take 2)), 2) else if c ∈ SSY then some ("symbol", .str (tx [c]), 1) else none
theorem runN_le (cs r : List Nat) : runN cs r ≤ r.length := (List.takeWhile_prefix _).length_le
theorem runN_in {cs : List Nat} : ∀ {r : List Nat} {j c : Nat}, j < runN cs r → r[j]? = some c → c ∈ cs
  | [], j, c, h, _ => by simp [runN] at h
  | x :: r, j, c, h, e => by
    unfold runN at h
    rw [List.takeWhile_cons] at h
    split at h
    · rename_i hx
      cases j with
      | zero => cases e; simpa using hx
      | succ j => exact runN_in (r := r) (by unfold runN; simpa using h) (by simpa using e)
    · simp at h
theorem runN_out {cs : List Nat} : ∀ {r : List Nat} {c : Nat}, r[runN cs r]? = some c → c ∉ cs
  | [], c, e => by simp at e
  | x :: r, c, e => by
    unfold runN at e
    rw [List.takeWhile_cons] at e
    split at e
    · exact runN_out (r := r) (by unfold runN; simpa using e)
    · rename_i hx
      rw [List.length_nil, List.getElem?_cons_zero] at e
      cases e
      simpa using hx
def sp__run_end (_ : PySem.W.Frag) : Sp := fun vs H Q _ => ∃ (T cs : List Nat) (i : Nat), vs = [.str (tx T), .int i, .str (tx cs)] ∧ T.length ≤ 5000 ∧ i ≤ T.length ∧ Q (.int ((i + runN cs (T.drop i) : Nat) : Int)) H
def sp_is_word (_ : PySem.W.Frag) : Sp := fun vs H Q _ => ∃ (w : List Nat), vs = [.str (tx w)] ∧ w.length ≤ 5000 ∧ ∀ H', Ex H H' → Q (.bl (isW w)) H'
theorem lt_one (a b : Nat) : decide ((tx [a]).cps.toList < (tx [b]).cps.toList) = decide (a < b) := by
  show decide (([a] : List Nat) < [b]) = _
  congr 1
  apply propext
  constructor
  · intro h
    cases h with
    | rel h => exact h
    | cons h => cases h
  · intro h
    exact List.Lex.rel h
theorem takeWhile_split {p : Nat → Bool} : ∀ r : List Nat, (r.takeWhile p).length < r.length → ∃ c t, r = r.takeWhile p ++ c :: t ∧ p c = false
  | [], h => by simp at h
  | x :: r, h => by
    rw [List.takeWhile_cons] at h ⊢
    by_cases hx : p x = true
    · rw [if_pos hx] at h ⊢
      obtain ⟨c, t, e, hc⟩ := takeWhile_split r (by simpa using h)
      exact ⟨c, t, by rw [List.cons_append, ← e], hc⟩
    · rw [if_neg hx]
      exact ⟨x, r, rfl, by simpa using hx⟩
theorem takeWhile_all {p : Nat → Bool} : ∀ {r : List Nat} {c : Nat}, c ∈ r.takeWhile p → p c = true
  | [], c, h => by simp at h
  | x :: r, c, h => by
    rw [List.takeWhile_cons] at h
    split at h
    · rename_i hx
      rcases List.mem_cons.mp h with e | e
      · subst e; exact hx
      · exact takeWhile_all e
    · simp at h
/-! ### a text and its tokens -/
abbrev Tk := Str × V × Nat
inductive Lexes : Nat → List Nat → List Tk → Prop
  | nil (i : Nat) : Lexes i [] []
  | sp {i : Nat} {r : List Nat} {ts : List Tk} : Lexes (i + 1) r ts → Lexes i (32 :: r) ts
  | tok {i c n : Nat} {r : List Nat} {k : Str} {v : V} {ts : List Tk} : c ≠ 32 → tokR (c :: r) = some (k, v, n) → 0 < n → Lexes (i + n) ((c :: r).drop n) ts → Lexes i (c :: r) ((k, v, i) :: ts)
def vD : V → PyData
  | .int i => .int i
  | .str x => .str x
  | _ => .none
def flatT (v : V) : Prop := (∃ x, v = .str x) ∨ ∃ i, v = .int i
theorem tokR_flat {r : List Nat} {k : Str} {v : V} {n : Nat} (h : tokR r = some (k, v, n)) : flatT v := by
  cases r with
  | nil => cases h
  | cons c cs =>
    unfold tokR at h
    dsimp only at h
    by_cases c1 : c ∈ LET
    · rw [if_pos c1] at h
      unfold tokL at h
      split at h
      · cases h
      · cases h; exact .inl ⟨_, rfl⟩
    rw [if_neg c1] at h
    by_cases c2 : c ∈ DIG
    · rw [if_pos c2] at h
      unfold tokD at h
      split at h
      · cases h
      · obtain ⟨x, _, e⟩ := Option.map_eq_some_iff.mp h
        cases e
        exact .inr ⟨_, rfl⟩
    rw [if_neg c2] at h
    by_cases c3 : c = 34
    · rw [if_pos c3] at h
      unfold tokW at h
      dsimp only at h
      split at h
      · cases h; exact .inl ⟨_, rfl⟩
      · cases h
    rw [if_neg c3] at h
    split at h
    · cases h; exact .inl ⟨_, rfl⟩
    · split at h
      · cases h; exact .inl ⟨_, rfl⟩
      · cases h
def TkIn (H : Hp) (x : V) (t : Tk) : Prop := flatT t.2.1 ∧ ∃ p, x = .ref p ∧ H p = some (.tup [.str t.1, t.2.1, .int (t.2.2 : Nat)])
inductive TksIn (H : Hp) : List V → List Tk → Prop
  | nil : TksIn H [] []
  | cons {x : V} {t : Tk} {xs : List V} {ts : List Tk} : TkIn H x t → TksIn H xs ts → TksIn H (x :: xs) (t :: ts)
theorem TksIn.mono {H H' : Hp} (k : ∀ a xs, H a = some (.tup xs) → H' a = some (.tup xs)) : ∀ {xs : List V} {ts : List Tk}, TksIn H xs ts → TksIn H' xs ts
  | _, _, .nil => .nil
  | _, _, .cons ⟨f, p, e, h⟩ t => .cons ⟨f, p, e, k _ _ h⟩ (t.mono k)
theorem TksIn.snoc {H : Hp} {x : V} {t : Tk} (h : TkIn H x t) : ∀ {xs : List V} {ts : List Tk}, TksIn H xs ts → TksIn H (xs ++ [x]) (ts ++ [t])
  | _, _, .nil => .cons h .nil
  | _, _, .cons a b => .cons a (b.snoc h)
def tkD (t : Tk) : PyData := .tuple [.str t.1, vD t.2.1, .int (t.2.2 : Nat)]
theorem TksIn.dp {K : PySem.W.Frag} {H : Hp} : ∀ {xs : List V} {ts : List Tk}, TksIn H xs ts → DpAll K H xs (ts.map tkD)
  | _, _, .nil => .nil
  | _, _, .cons ⟨f, p, e, h⟩ t => by
    subst e
    refine .cons (.tup (SqT.of h) (.cons (.str _) (.cons ?_ (.cons (.int _) .nil)))) t.dp
    rcases f with ⟨x, e⟩ | ⟨i, e⟩ <;> rw [e]
    · exact .str x
    · exact .int i
/-! ### the law's tokens: the mathematics -/
abbrev Tok3 := Str × V × List Nat
def intOpts : List (Int × List Nat) := [(0, [48]), (1, [49]), (7, [55]), (10, [49, 48]), (999999, [57, 57, 57, 57, 57, 57]), (100000, [49, 48, 48, 48, 48, 48])]
def wordOpts : List (List Nat) := [[], [97], [115, 117, 109], [97, 32, 98], [120, 32, 61, 32, 49], [126, 33, 40], [97, 98, 99, 100, 101, 102, 103, 104, 105, 106, 107, 108], [32], [110, 111, 116], [105, 110], [97, 110, 100], [45], [40], [41], [44], [61]]
def symOpts : List (List Nat) := [[40], [41], [44], [46], [43], [45], [42], [61], [33, 61], [60], [60, 61], [62], [62, 61]]
def NameOk (m : List Nat) : Prop := (∃ c t, m = c :: t ∧ c ∈ LET) ∧ (∀ c ∈ m, c ∈ NCH) ∧ m.length ≤ 12
inductive GT : Str → V → List Nat → Prop
  | int {n : Int} {d : List Nat} : (n, d) ∈ intOpts → GT "integer" (.int n) d
  | word {m : List Nat} : m ∈ wordOpts → GT "word" (.str (tx m)) (34 :: (m ++ [34]))
  | sym {m : List Nat} : m ∈ symOpts → GT "symbol" (.str (tx m)) m
  | res {m : List Nat} : m ∈ RES → GT "reserved" (.str (tx m)) m
  | name {m : List Nat} : NameOk m → m ∉ RES → GT "name" (.str (tx m)) m
/-- what may not come next -/
def stops (t : Tok3) (R : List Nat) : Prop := ∀ c, R[0]? = some c → (t.1 = "integer" → c ∉ DIG) ∧ (t.1 = "name" ∨ t.1 = "reserved" → c ∉ NCH) ∧ (t.2.2 = [60] ∨ t.2.2 = [62] → c ≠ 61)
theorem runN_app {cs : List Nat} : ∀ {t R : List Nat}, (∀ c ∈ t, c ∈ cs) → (∀ c, R[0]? = some c → c ∉ cs) → runN cs (t ++ R) = t.length
  | [], [], _, _ => rfl
  | [], r :: R, _, h => by
    unfold runN
    rw [List.nil_append, List.takeWhile_cons, if_neg (by simpa using h r rfl)]
  | c :: t, R, h1, h2 => by
    unfold runN
    rw [List.cons_append, List.takeWhile_cons, if_pos (by simpa using h1 c (by simp))]
    have := runN_app (fun d hd => h1 d (by simp [hd])) h2 (t := t)
    unfold runN at this
    simp [this]
theorem nameOk_res : ∀ m ∈ RES, NameOk m := by
  intro m hm
  have : (RES.all fun m => (m.head?.any fun c => decide (c ∈ LET)) && (m.all fun c => decide (c ∈ NCH)) && decide (m.length ≤ 12)) = true := by decide +kernel
  have := List.all_eq_true.mp this m hm
  simp only [Bool.and_eq_true, decide_eq_true_eq, List.all_eq_true] at this
  obtain ⟨⟨a, b⟩, c⟩ := this
  cases m with
  | nil => simp at a
  | cons x t => exact ⟨⟨x, t, rfl, by simpa using a⟩, b, c⟩
theorem tokR_name {m R : List Nat} (h : NameOk m) (hs : ∀ c, R[0]? = some c → c ∉ NCH) : tokR (m ++ R) = (some ((if m ∈ RES then "reserved" else "name" : Str), V.str (tx m), m.length) : Option Tk) := by
  obtain ⟨⟨c, t, rfl, hc⟩, h2, h3⟩ := h
  have hr := runN_app h2 hs
  unfold tokR
  rw [List.cons_append]
  dsimp only
  rw [if_pos hc]
  unfold tokL
  rw [← List.cons_append, hr, if_neg (by omega), List.take_left]
theorem dig_let : ∀ c ∈ DIG, c ∉ LET := by decide +kernel
theorem tokR_lex {k : Str} {v : V} {t R : List Nat} (h : GT k v t) (hs : stops (k, v, t) R) : tokR (t ++ R) = some (k, v, t.length) := by
  cases h with
  | int h =>
    have facts : (intOpts.all fun p => (p.2.head?.any fun c => decide (c ∈ DIG)) && (p.2.all fun c => decide (c ∈ DIG)) && decide (p.2.length ≤ 6) && (decide (p.2.length ≤ 1) || !decide (p.2[0]? = some 48)) && decide (PySem.intText? (tx p.2) = some p.1)) = true := by decide +kernel
    have facts := List.all_eq_true.mp facts _ h
    simp only [Bool.and_eq_true, Bool.or_eq_true, Bool.not_eq_true', decide_eq_true_eq, decide_eq_false_iff_not, List.all_eq_true] at facts
    obtain ⟨⟨⟨⟨f1, f2⟩, f3⟩, f4⟩, f5⟩ := facts
    have hr := runN_app f2 (fun c hc => (hs c hc).1 rfl)
    cases t with
    | nil => simp at f1
    | cons c t =>
      have hc : c ∈ DIG := by simpa using f1
      unfold tokR
      rw [List.cons_append]
      dsimp only
      rw [if_neg (dig_let c hc), if_pos hc]
      unfold tokD
      rw [← List.cons_append, hr, List.take_left, f5]
      rw [if_neg]
      · rfl
      · rintro (g | ⟨g1, g2⟩)
        · omega
        · rcases f4 with f4 | f4
          · omega
          · exact f4 (by simpa using g2)
  | word h =>
    rename_i m
    have facts : (wordOpts.all fun m => isW m && !decide (34 ∈ m)) = true := by decide +kernel
    have facts := List.all_eq_true.mp facts _ h
    simp only [Bool.and_eq_true, Bool.not_eq_true', decide_eq_false_iff_not] at facts
    obtain ⟨f1, f2⟩ := facts
    unfold tokR
    rw [List.cons_append]
    dsimp only
    rw [if_neg (by decide), if_neg (by decide), if_pos rfl]
    unfold tokW
    dsimp only
    have e : ((34 :: (m ++ [34] ++ R)).drop 1).takeWhile (fun c => !decide (c = 34)) = m := by
      rw [List.drop_one, List.tail_cons, List.append_assoc, List.takeWhile_append_of_pos (fun c hc => by simp; intro e; subst e; exact f2 hc)]
      simp
    rw [e, if_pos ⟨by simp, f1⟩]
    simp
  | sym h =>
    have e1 : ∀ (a b : Nat), tokR (a :: b :: R) = tokR ([a, b] ++ R) := fun _ _ => rfl
    simp only [symOpts, List.mem_cons, List.not_mem_nil, or_false] at h
    have one : ∀ c : Nat, c ∉ LET → c ∉ DIG → c ≠ 34 → (∀ d, R[0]? = some d → [c, d] ∉ LSY) → c ∈ SSY → tokR ([c] ++ R) = (some (("symbol" : Str), V.str (tx [c]), 1) : Option Tk) := by
      intro c h1 h2 h3 h4 h5
      unfold tokR
      rw [List.cons_append]
      dsimp only
      rw [if_neg h1, if_neg h2, if_neg h3, if_neg, if_pos h5]
      cases R with
      | nil => simp
      | cons d R => simpa using h4 d rfl
    have two : ∀ c d : Nat, c ∉ LET → c ∉ DIG → c ≠ 34 → [c, d] ∈ LSY → tokR ([c, d] ++ R) = (some (("symbol" : Str), V.str (tx [c, d]), 2) : Option Tk) := by
      intro c d h1 h2 h3 h4
      unfold tokR
      rw [List.cons_append]
      dsimp only
      rw [if_neg h1, if_neg h2, if_neg h3, if_pos (by simpa using h4)]
      rfl
    rcases h with h | h | h | h | h | h | h | h | h | h | h | h | h <;> subst h
    · exact one 40 (by decide) (by decide) (by decide) (fun d _ => by simp) (by decide)
    · exact one 41 (by decide) (by decide) (by decide) (fun d _ => by simp) (by decide)
    · exact one 44 (by decide) (by decide) (by decide) (fun d _ => by simp) (by decide)
    · exact one 46 (by decide) (by decide) (by decide) (fun d _ => by simp) (by decide)
    · exact one 43 (by decide) (by decide) (by decide) (fun d _ => by simp) (by decide)
    · exact one 45 (by decide) (by decide) (by decide) (fun d _ => by simp) (by decide)
    · exact one 42 (by decide) (by decide) (by decide) (fun d _ => by simp) (by decide)
    · exact one 61 (by decide) (by decide) (by decide) (fun d _ => by simp) (by decide)
    · exact two 33 61 (by decide) (by decide) (by decide) (by decide)
    · exact one 60 (by decide) (by decide) (by decide) (fun d hd => by have := (hs d hd).2.2 (.inl rfl); simpa using this) (by decide)
    · exact two 60 61 (by decide) (by decide) (by decide) (by decide)
    · exact one 62 (by decide) (by decide) (by decide) (fun d hd => by have := (hs d hd).2.2 (.inr rfl); simpa using this) (by decide)
    · exact two 62 61 (by decide) (by decide) (by decide) (by decide)
  | res h =>
    have := tokR_name (nameOk_res _ h) (fun c hc => (hs c hc).2.1 (.inr rfl))
    rw [if_pos h] at this
    exact this
  | name h hn =>
    have := tokR_name h (fun c hc => (hs c hc).2.1 (.inl rfl))
    rw [if_neg hn] at this
    exact this
/-! ### spaces where they are needed -/
def needI (a b : Tok3) : Bool :=
  if a.1 = "name" ∨ a.1 = "reserved" then decide (b.1 = "name" ∨ b.1 = "reserved" ∨ b.1 = "integer") else if a.1 = "integer" then decide (b.1 = "integer")
  else decide ((a.2.1 = V.str (tx [60]) ∨ a.2.1 = V.str (tx [62])) ∧ b.2.1 = V.str (tx [61]) ∧ b.1 = "symbol")
def G3 (t : Tok3) : Prop := GT t.1 t.2.1 t.2.2
def SYF : List Nat := [40, 41, 44, 46, 43, 45, 42, 61, 33, 60, 62]
theorem first_of {k : Str} {v : V} {t : List Nat} (h : GT k v t) : ∃ c r, t = c :: r ∧ c ≠ 32 ∧ ((k = "integer" ∧ c ∈ DIG) ∨ (k = "word" ∧ c = 34) ∨ (k = "symbol" ∧ c ∈ SYF ∧ (c = 61 → v = .str (tx [61]))) ∨ ((k = "reserved" ∨ k = "name") ∧ c ∈ LET)) := by
  have letne : ∀ c ∈ LET, c ≠ 32 := by decide +kernel
  cases h with
  | int h =>
    have f : (intOpts.all fun p => p.2.head?.any fun c => decide (c ∈ DIG)) = true := by decide +kernel
    have f := List.all_eq_true.mp f _ h
    have digne : ∀ c ∈ DIG, c ≠ 32 := by decide +kernel
    cases t with
    | nil => simp at f
    | cons c r => exact ⟨c, r, rfl, digne c (by simpa using f), .inl ⟨rfl, by simpa using f⟩⟩
  | word h => exact ⟨34, _, rfl, by decide, .inr (.inl ⟨rfl, rfl⟩)⟩
  | sym h =>
    have f : (symOpts.all fun m => m.head?.any fun c => decide (c ∈ SYF) && (!decide (c = 61) || decide (m = [61])) && !decide (c = 32)) = true := by decide +kernel
    have f := List.all_eq_true.mp f _ h
    cases t with
    | nil => simp at f
    | cons c r =>
      simp only [List.head?_cons, Option.any_some, Bool.and_eq_true, Bool.or_eq_true, Bool.not_eq_true', decide_eq_true_eq, decide_eq_false_iff_not] at f
      refine ⟨c, r, rfl, f.2, .inr (.inr (.inl ⟨rfl, f.1.1, fun e => ?_⟩))⟩
      rcases f.1.2 with g | g
      · exact absurd e g
      · rw [g]
  | res h =>
    obtain ⟨⟨c, r, e, hc⟩, _, _⟩ := nameOk_res _ h
    exact ⟨c, r, e, letne c hc, .inr (.inr (.inr ⟨.inl rfl, hc⟩))⟩
  | name h hn =>
    obtain ⟨⟨c, r, e, hc⟩, _, _⟩ := h
    exact ⟨c, r, e, letne c hc, .inr (.inr (.inr ⟨.inr rfl, hc⟩))⟩
theorem lt_sign {k : Str} {v : V} {t : List Nat} {c : Nat} (h : GT k v t) (e : t = [c]) (hc : c = 60 ∨ c = 62) : k = "symbol" ∧ v = .str (tx [c]) := by
  have nl : c ∉ NCH ∧ c ∉ LET ∧ c ∉ DIG ∧ c ≠ 34 := by rcases hc with h | h <;> subst h <;> decide +kernel
  cases h with
  | int h =>
    have f : (intOpts.all fun p => p.2.head?.any fun c => decide (c ∈ DIG)) = true := by decide +kernel
    have f := List.all_eq_true.mp f _ h
    subst e
    exact absurd (by simpa using f) nl.2.2.1
  | word h =>
    have := congrArg List.length e
    simp at this
  | sym h => subst e; exact ⟨rfl, rfl⟩
  | res h => subst e; exact absurd ((nameOk_res _ h).2.1 c (by simp)) nl.1
  | name h hn => subst e; exact absurd (h.2.1 c (by simp)) nl.1
theorem stops_next {a b : Tok3} {R : List Nat} (ha : G3 a) (hb : G3 b) (hn : needI a b = false) : stops a (b.2.2 ++ R) := by
  obtain ⟨c0, r0, e0, _, hf⟩ := first_of hb
  intro c hc
  rw [e0, List.cons_append] at hc
  cases hc
  have dl : ∀ c ∈ LET, c ∉ DIG := by decide +kernel
  have ds : ∀ c ∈ SYF, c ∉ DIG ∧ c ∉ NCH := by decide +kernel
  refine ⟨fun h1 hd => ?_, fun h1 hd => ?_, fun h1 hd => ?_⟩
  · unfold needI at hn
    rw [if_neg (by rw [h1]; decide), if_pos h1] at hn
    have hn := of_decide_eq_false hn
    rcases hf with ⟨g, _⟩ | ⟨_, g⟩ | ⟨_, g, _⟩ | ⟨_, g⟩
    · exact hn g
    · rw [g] at hd; exact absurd hd (by decide)
    · exact (ds _ g).1 hd
    · exact dl _ g hd
  · unfold needI at hn
    rw [if_pos h1] at hn
    have hn := of_decide_eq_false hn
    rcases hf with ⟨g, _⟩ | ⟨_, g⟩ | ⟨_, g, _⟩ | ⟨g, _⟩
    · exact hn (.inr (.inr g))
    · rw [g] at hd; exact absurd hd (by decide)
    · exact (ds _ g).2 hd
    · rcases g with g | g
      · exact hn (.inr (.inl g))
      · exact hn (.inl g)
  · have hs : a.1 = "symbol" ∧ (a.2.1 = V.str (tx [60]) ∨ a.2.1 = V.str (tx [62])) := by
      rcases h1 with h1 | h1
      · have := lt_sign ha h1 (.inl rfl); exact ⟨this.1, .inl this.2⟩
      · have := lt_sign ha h1 (.inr rfl); exact ⟨this.1, .inr this.2⟩
    unfold needI at hn
    rw [if_neg (by rw [hs.1]; decide), if_neg (by rw [hs.1]; decide)] at hn
    have hn := of_decide_eq_false hn
    subst hd
    rcases hf with ⟨_, g⟩ | ⟨_, g⟩ | ⟨g1, _, g⟩ | ⟨_, g⟩
    · exact absurd g (by decide)
    · exact absurd g (by decide)
    · exact hn ⟨hs.2, g rfl, g1⟩
    · exact absurd g (by decide)
theorem stops_space {a : Tok3} {m : Nat} {R : List Nat} (hm : 0 < m) : stops a (List.replicate m 32 ++ R) := by
  intro c hc
  obtain ⟨m, rfl⟩ : ∃ k, m = k + 1 := ⟨m - 1, by omega⟩
  rw [List.replicate_succ, List.cons_append] at hc
  cases hc
  exact ⟨fun _ => by decide, fun _ => by decide, fun _ => by decide⟩
/-! ### a text is built -/
def Built (last : Option Tok3) (U : List Nat) (ts : List Tk) : Prop := ∀ (R : List Nat) (ts' : List Tk), (∀ t, last = some t → stops t R) → Lexes U.length R ts' → Lexes 0 (U ++ R) (ts ++ ts')
theorem Lexes.spaces {R : List Nat} {ts : List Tk} : ∀ (m i : Nat), Lexes (i + m) R ts → Lexes i (List.replicate m 32 ++ R) ts
  | 0, i, h => h
  | m + 1, i, h => by
    rw [List.replicate_succ, List.cons_append]
    exact .sp (Lexes.spaces m (i + 1) (by rw [show i + 1 + m = i + (m + 1) by omega]; exact h))
theorem Built.step {last : Option Tok3} {U : List Nat} {ts : List Tk} (h : Built last U ts) {t : Tok3} {m : Nat} (ht : G3 t) (hl : ∀ a, last = some a → G3 a ∧ (needI a t = true → 0 < m)) : Built (some t) (U ++ List.replicate m 32 ++ t.2.2) (ts ++ [(t.1, t.2.1, U.length + m)]) := by
  intro R ts' hs hR
  have e1 : U ++ List.replicate m 32 ++ t.2.2 ++ R = U ++ (List.replicate m 32 ++ (t.2.2 ++ R)) := by simp
  have e2 : ts ++ [(t.1, t.2.1, U.length + m)] ++ ts' = ts ++ ((t.1, t.2.1, U.length + m) :: ts') := by simp
  rw [e1, e2]
  have hlen : (U ++ List.replicate m 32 ++ t.2.2).length = U.length + m + t.2.2.length := by simp; omega
  rw [hlen] at hR
  refine h _ _ (fun a ha => ?_) (Lexes.spaces m U.length ?_)
  · obtain ⟨g, n⟩ := hl a ha
    by_cases hm : 0 < m
    · exact stops_space hm
    · have : m = 0 := by omega
      subst this
      refine stops_next g ht ?_
      cases hn : needI a t with
      | false => rfl
      | true => exact absurd (n hn) hm
  · obtain ⟨c, r, e, hc, _⟩ := first_of ht
    have tk := tokR_lex ht (hs t rfl)
    rw [e, List.cons_append] at tk ⊢
    refine .tok hc tk (by simp) ?_
    rw [← List.cons_append, List.drop_left]
    rw [e] at hR
    exact hR
def sp_l_reserved (_ : PySem.W.Frag) : Sp := fun vs H Q _ => vs = [] ∧ ∀ p, H p = none → Q (.ref p) (upd H p (.lst (sV RES)))
def sp_l_symbols (_ : PySem.W.Frag) : Sp := fun vs H Q _ => vs = [] ∧ ∀ p, H p = none → Q (.ref p) (upd H p (.lst (sV symOpts)))
def sp_l_name (_ : PySem.W.Frag) : Sp := fun vs H Q _ => ∃ (s q : Addr) (B : Nat) (G : Hp), vs = [.ref s] ∧ Ov s q B G H ∧ B < 800000 ∧ ∀ (m : List Nat) (H' : Hp), NameOk m → m ∉ RES → Ov s q (B + 13) G H' → Q (.str (tx m)) H'
def sp_l_token (_ : PySem.W.Frag) : Sp := fun vs H Q _ => ∃ (s q : Addr) (B : Nat) (G : Hp), vs = [.ref s] ∧ Ov s q B G H ∧ B < 700000 ∧ ∀ (t : Tok3) (p : Addr) (G' H' : Hp), G3 t → Ex G G' → Ov s q (B + 20) G' H' → G' p = some (.tup [.str t.1, t.2.1, .str (tx t.2.2)]) → Q (.ref p) H'
def INN : List Nat := [97, 98, 99, 100, 101, 102, 103, 104, 105, 106, 107, 108, 109, 110, 111, 112, 113, 114, 115, 116, 117, 118, 119, 120, 121, 122, 48, 49, 50, 51, 52, 53, 54, 55, 56, 57, 95]
theorem inn_let {i : Nat} (h : i < 26) : ∃ c, INN[i]? = some c ∧ c ∈ LET := by
  have f : ((List.range 26).all fun i => (INN[i]?).any fun c => decide (c ∈ LET)) = true := by decide +kernel
  have f := List.all_eq_true.mp f i (List.mem_range.mpr h)
  cases e : INN[i]? with
  | none => rw [e] at f; simp at f
  | some c => rw [e] at f; exact ⟨c, rfl, by simpa using f⟩
theorem inn_nch {i : Nat} (h : i < 37) : ∃ c, INN[i]? = some c ∧ c ∈ NCH := by
  have f : ((List.range 37).all fun i => (INN[i]?).any fun c => decide (c ∈ NCH)) = true := by decide +kernel
  have f := List.all_eq_true.mp f i (List.mem_range.mpr h)
  cases e : INN[i]? with
  | none => rw [e] at f; simp at f
  | some c => rw [e] at f; exact ⟨c, rfl, by simpa using f⟩
theorem let_nch : ∀ c ∈ LET, c ∈ NCH := by decide +kernel
/-! ### the data that is shown -/
def SmV (v : V) : Prop := (∃ m : List Nat, v = .str (tx m) ∧ m.length ≤ 20 ∧ ∀ c ∈ m, c < 200) ∨ ∃ i : Int, v = .int i ∧ i.natAbs < 1000000
def Sm (t : Tk) : Prop := t.1 ∈ (["integer", "word", "symbol", "reserved", "name"] : List Str) ∧ SmV t.2.1 ∧ t.2.2 ≤ 1000
theorem log_lt {n k : Nat} (h : n < 2 ^ k) (hk : 0 < k) : n.log2 < k := by
  by_cases h0 : n = 0
  · subst h0; simpa using hk
  · exact (Nat.log2_lt h0).mpr h
theorem str_facts {m : List Nat} (h : ∀ c ∈ m, c < 200) : (PyData.str (tx m)).leavesShort 13 = true := by
  show ((tx m).cps.toList.all fun c => decide (c < 16 ^ 8)) = true
  rw [List.all_eq_true]
  intro c hc
  have := h c (by simpa using hc)
  exact decide_eq_true (Nat.lt_of_lt_of_le this (by decide))
theorem int_facts {i : Int} (h : i.natAbs < 1000000) : (PyData.int i).leavesShort 13 = true ∧ (PyData.int i).showable = true ∧ (PyData.int i).weight ≤ 20 := by
  have hlog : i.natAbs.log2 < 20 := log_lt (Nat.lt_of_lt_of_le h (by decide)) (by decide)
  refine ⟨decide_eq_true (PyData.shown_int_le (Nat.lt_of_lt_of_le h (by decide))), decide_eq_true (by omega), ?_⟩
  show (if i == 0 then 0 else i.natAbs.log2 + 1) ≤ 20
  split <;> omega
theorem tk_facts {t : Tk} (h : Sm t) : (tkD t).leavesShort 13 = true ∧ (tkD t).showable = true ∧ (tkD t).weight ≤ 100 ∧ (tkD t).hasDict = false ∧ (tkD t).depth ≤ 1 := by
  obtain ⟨k, v, p⟩ := t
  obtain ⟨hk, hv, hp⟩ := h
  change k ∈ _ at hk
  change SmV v at hv
  change p ≤ 1000 at hp
  have kk : (PyData.str k).leavesShort 13 = true ∧ (PyData.str k).weight ≤ 10 := by
    simp only [List.mem_cons, List.not_mem_nil, or_false] at hk
    rcases hk with h | h | h | h | h <;> subst h <;> exact ⟨by decide +kernel, by decide +kernel⟩
  have vv : (vD v).leavesShort 13 = true ∧ (vD v).showable = true ∧ (vD v).weight ≤ 20 ∧ (vD v).hasDict = false ∧ (vD v).depth = 0 := by
    rcases hv with ⟨m, rfl, hl, hc⟩ | ⟨i, rfl, hi⟩
    · refine ⟨str_facts hc, rfl, ?_, rfl, rfl⟩
      show (tx m).cps.size ≤ 20
      simpa using hl
    · obtain ⟨a, b, c⟩ := int_facts hi
      exact ⟨a, b, c, rfl, rfl⟩
  have pp := int_facts (i := (p : Int)) (by omega)
  unfold tkD
  dsimp only
  simp only [PyData.leavesShort, PyData.leavesShortAll, PyData.showable, PyData.showableAll, PyData.weight, PyData.weightAll, PyData.hasDict, PyData.hasDictAll, PyData.depth, PyData.depthAll, Bool.and_eq_true, Bool.or_eq_false_iff]
  simp only [PyData.leavesShort, PyData.showable, PyData.weight] at kk pp
  refine ⟨⟨kk.1, vv.1, pp.1, trivial⟩, ⟨trivial, vv.2.1, pp.2.1, trivial⟩, ?_, ⟨trivial, vv.2.2.2.1, trivial, trivial⟩, ?_⟩
  · have := vv.2.2.1
    omega
  · rw [vv.2.2.2.2]
    decide
theorem all_facts : ∀ {ts : List Tk}, (∀ t ∈ ts, Sm t) → PyData.leavesShortAll 13 (ts.map tkD) = true ∧ PyData.showableAll (ts.map tkD) = true ∧ PyData.weightAll (ts.map tkD) ≤ 101 * ts.length ∧ PyData.hasDictAll (ts.map tkD) = false ∧ PyData.depthAll (ts.map tkD) ≤ 1
  | [], _ => ⟨rfl, rfl, Nat.le_refl _, rfl, by decide⟩
  | t :: ts, h => by
    obtain ⟨a1, a2, a3, a4, a5⟩ := tk_facts (h t (by simp))
    obtain ⟨b1, b2, b3, b4, b5⟩ := all_facts (ts := ts) fun u hu => h u (by simp [hu])
    simp only [List.map_cons, PyData.leavesShortAll, PyData.showableAll, PyData.weightAll, PyData.hasDictAll, PyData.depthAll, List.length_cons]
    refine ⟨by rw [a1, b1]; rfl, by rw [a2, b2]; rfl, by omega, by rw [a4, b4]; rfl, by omega⟩
end Tk
namespace Hg
open PySem PySem.Spec PyProof.Rows L2
/-! ### x != y, both of a class with its own == -/
end Hg
namespace Hg
open PySem PySem.Spec PyProof.Rows L2
end Hg
set_option maxHeartbeats 4000000
namespace Hg
open PySem PySem.Spec PyProof.Rows L2
end Hg
namespace Hg
open PySem PySem.Spec PyProof.Rows L2
/-! ### guards that observe what they answered -/
def adG (P : List (List Int × Nat)) (g : Gd) : Gd := (g.1 ++ P, g.2.1, g.2.2)
theorem lat_again {n : Nat} {S : List (List Int × Nat)} {p : List Int × Nat} (hp : p ∈ S) (v : Hn.Vc) : Hn.LatS n (S ++ [p]) v ↔ Hn.LatS n S v := by
  rw [Hn.LatS.app]
  exact ⟨fun h => h.1, fun h => ⟨h, h.1, fun q hq => by rw [List.mem_singleton.mp hq]; exact h.2 p hp⟩⟩
theorem safe_again {n m' : Nat} {S : List (List Int × Nat)} {s f : List Int} {m : Int} {k : Nat} (hp : (f, k) ∈ S) (h : Hn.Has n S s m) : Hn.Safe n S s m f k := by
  obtain ⟨v, hv, e⟩ := h
  exact ⟨v, (lat_again hp v).mpr hv, e⟩
theorem safe_less {n : Nat} {S T : List (List Int × Nat)} {s f : List Int} {m : Int} {k : Nat} (h : Hn.Safe n (S ++ T) s m f k) : Hn.Safe n S s m f k := by
  obtain ⟨v, hv, h2, h3⟩ := Hn.safe_iff.mp h
  exact Hn.safe_iff.mpr ⟨v, (Hn.LatS.app.mp hv).1, h2, h3⟩
theorem Fin.more {n b x : Nat} {f : List Int} {M : List Gd} {P : List (List Int × Nat)} {r : List Int × Nat} (hp : (f, x) ∈ P ++ [r]) (hk : GKept n (M.map (adG (P ++ [r])))) (h : Fin n f (M.map (adG P)) b x) : Fin n f (M.map (adG (P ++ [r]))) b x := by
  have dn : ∀ k : Nat, (∀ g ∈ M.map (adG (P ++ [r])), Hn.Safe n g.1 g.2.1 g.2.2 f k) → ∀ g ∈ M.map (adG P), Hn.Safe n g.1 g.2.1 g.2.2 f k := fun k hs g' hg' => by
    obtain ⟨g, hg, rfl⟩ := List.mem_map.mp hg'
    have := hs _ (List.mem_map.mpr ⟨g, hg, rfl⟩)
    have : Hn.Safe n (g.1 ++ (P ++ [r])) g.2.1 g.2.2 f k := this
    rw [← List.append_assoc] at this
    exact safe_less this
  refine ⟨h.le, fun g' hg' => ?_, fun hz => h.z (dn 0 hz), h.dv, fun d hd hs => h.all d hd (dn d hs)⟩
  obtain ⟨g, hg, rfl⟩ := List.mem_map.mp hg'
  exact safe_again (m' := 0) (List.mem_append_right _ hp) (hk _ hg')
end Hg
namespace Hg
open PySem PySem.Spec PyProof.Rows L2
/-! ### x == y, both of a class with its own == -/
end Hg
namespace Hg
open PySem PySem.Spec PyProof.Rows L2
/-! ### x == y, x of a class with its own ==, y of a built-in kind -/
end Hg
set_option maxHeartbeats 2000000
/-! Lambdas without parameters, kept as things (in a list, in a name) and called where they were made. -/
namespace LamX
open PySem PySem.Spec PyProof.Rows L2
/-- the thing at f is the function of this lambda, made in the frame of env -/
def FunO (env : Env) (params : Arguments) (body : Expr) (scope : Scope) (f c' : Addr) : HO := .ext fun h => ∃ pm ctv : Value, h.get? f = some (PySem.W.kla_obj "<lambda>" (env.qual ++ "<lambda>") params body scope (cloFrom env.cells scope.names []) pm c' ctv)
section
variable {X : Cx} {pins : List (Addr × Obj)} {σ : L2.St} {H : Hp} {s : Shared}
/-- a thing that nobody knew is known from now on -/
theorem inv_know {φ : Heap → Prop} {f : Addr} (I : Inv X pins σ H s) (h0 : X.s_0.heap.objs.size ≤ f) (hn : H f = none) (hl : f ≠ X.env.locals) (hc : ∀ x c, X.env.cells.lookup x = some c → c ≠ f) (hp : ∀ p ∈ X.pn ++ pins, p.1 ≠ f)
    (hφ : φ s.heap) (ho : ∃ o, s.heap.get? f = some o) (st : ∀ h1 h2 : Heap, φ h1 → (∀ o, h1.get? f = some o → h2.get? f = some o) → φ h2) : Inv X pins σ (upd H f (.ext φ)) s := by
  have sm : ∀ b u, H b = some u → b ≠ f := fun b u e => ne_of_none e hn
  obtain ⟨i1, i2, i3, i4, i5, i6, i7, i8, i9, i10, i11⟩ := I
  refine ⟨i1, i2, i3, ⟨i4.keep, i4.slot, fun b o e n hx => ?_, i4.there, fun b xs e => ?_, fun b o u e => ?_, fun b ps e => ?_⟩, i5, i6, ?_, fun x c e => ?_, fun p hq => ?_, fun b u e => ?_, i11⟩
  · rw [upd_ne (fun z => by rw [z] at e; exact absurd (Nat.lt_of_lt_of_le (Heap.lt_size e) h0) (Nat.lt_irrefl _))]
    exact i4.free b o e n hx
  · have := i4.tups b xs e
    rw [upd_ne (sm b _ this)]; exact this
  · have := i4.frzs b o u e
    rw [upd_ne (sm b _ this)]; exact this
  · obtain ⟨more, this⟩ := i4.tbls b ps e
    exact ⟨more, by rw [upd_ne (sm b _ this)]; exact this⟩
  · rw [upd_ne (fun z => hl z.symm)]; exact i7
  · rw [upd_ne (hc x c e)]; exact i8 x c e
  · obtain ⟨q1, q2, q3, q4, q5⟩ := i9 p hq
    exact ⟨q1, by rw [upd_ne (hp p hq)]; exact q2, q3, q4, q5⟩
  · by_cases hb : b = f
    · rw [hb, upd_same] at e
      cases e
      rw [hb]
      exact ⟨hφ, ho, st⟩
    · rw [upd_ne hb] at e
      exact (i10 b u e).stay (fun d v _ q => q) (fun d q => by rw [upd_ne (sm d _ q)]; exact q) fun d xs q => by rw [upd_ne (sm d _ q)]; exact q
/-- lambda: body -/
theorem pe_lamF {T : List (Addr × Str)} {c P : Addr} {params : Arguments} {body : Expr} {scope : Scope} {pos : Pos} (TB : TabB X.base X.mg c P) (hcode : X.env.code = .ref c) (hm : (P, X.env.qual ++ "<lambda>") ∈ T) (hu : ∀ p ∈ T, p.1 = P → p.2 = X.env.qual ++ "<lambda>")
    (hdef : defaultsOf params X.env = ([], [])) (L : X.Ok → ∀ y ∈ scope.names, y.2 = .free → ∃ c, X.env.cells.lookup y.1 = some c) :
    PE X (.Lambda params body scope pos) (fun _ H Q => Tabs T H ∧ ∀ (f c' : Addr) (H1 : Hp), ExtN H H1 → Tabs T H1 → H f = none → H1 f = some (FunO X.env params body scope f c') → H1 c' = some (CodeO c' (X.env.qual ++ "<lambda>")) → Q (.ref f) H1) := by
  refine ⟨fun pins s σ H Q I h => ?_⟩
  obtain ⟨hT, h⟩ := h
  have hnew : ∀ {b : Addr} {o : Obj}, s.heap.get? b = some o → ∀ f, s.heap.objs.size ≤ f → b ≠ f := fun {b o} e f hf z => by
    rw [z] at e
    exact absurd (Nat.lt_of_lt_of_le (Heap.lt_size e) hf) (Nat.lt_irrefl _)
  obtain ⟨ps, hP, ht, ha⟩ := hT _ hm
  refine PySem.W.kla_eval hdef ?_
  have bP : s.heap.BuiltinsAt X.mg P := TB.bm.keeps I.bk
  have hP' : s.heap.get? P = some { cls := .none, data := .fields ps } := I.hok P _ hP
  have hfree := L I.ok
  have locS : X.env.locals < s.heap.objs.size := by
    obtain ⟨m, ⟨o, _, _, e, _⟩, _⟩ := I.loc
    exact Heap.lt_size e
  have fin : ∀ (h' : Heap) (tk : Nat) (H1 : Hp) (c' : Addr) (pm ctv : Value), s.heap.objs.size ≤ h'.objs.size → (∀ b o, b ≠ P → s.heap.get? b = some o → h'.get? b = some o) → H1 h'.objs.size = none → H h'.objs.size = none → ExtN H H1 → Tabs T H1 → H1 c' = some (CodeO c' (X.env.qual ++ "<lambda>")) →
      Inv X pins σ H1 { s with heap := h'.push (PySem.W.kla_obj "<lambda>" (X.env.qual ++ "<lambda>") params body scope (cloFrom X.env.cells scope.names []) pm c' ctv), toks := tk } →
      EP X pins σ Q (.ref h'.objs.size) { s with heap := h'.push (PySem.W.kla_obj "<lambda>" (X.env.qual ++ "<lambda>") params body scope (cloFrom X.env.cells scope.names []) pm c' ctv), toks := tk } := by
    intro h' tk H1 c' pm ctv hsz hk n1 n0 eN hT1 hco I1
    have hself : (h'.push (PySem.W.kla_obj "<lambda>" (X.env.qual ++ "<lambda>") params body scope (cloFrom X.env.cells scope.names []) pm c' ctv)).get? h'.objs.size = some (PySem.W.kla_obj "<lambda>" (X.env.qual ++ "<lambda>") params body scope (cloFrom X.env.cells scope.names []) pm c' ctv) := Heap.get?_push_size _ rfl
    have I2 := inv_know (φ := fun h => ∃ pm ctv : Value, h.get? h'.objs.size = some (PySem.W.kla_obj "<lambda>" (X.env.qual ++ "<lambda>") params body scope (cloFrom X.env.cells scope.names []) pm c' ctv)) I1
      (Nat.le_trans I.sz hsz) n1 (Nat.ne_of_gt (Nat.lt_of_lt_of_le locS hsz))
      (fun x c e z => by obtain ⟨v, o, ho, _⟩ := I.cell x c e; exact hnew ho _ hsz z)
      (fun p hp z => by obtain ⟨q1, _⟩ := I.pin p hp; exact hnew q1 _ hsz z) ⟨pm, ctv, hself⟩ ⟨_, hself⟩ (fun h1 h2 ⟨pm, ctv, e⟩ k => ⟨pm, ctv, k _ e⟩)
    refine ⟨.ref h'.objs.size, _, I2, rfl, h _ c' _ (fun b o e n => ?_) (hT1.ext fun b o e => by rw [upd_ne (ne_of_none e n1)]; exact e) n0 upd_same ?_⟩
    · rw [upd_ne (ne_of_none (eN b o e n) n1)]; exact eN b o e n
    · rw [upd_ne (ne_of_none hco n1)]; exact hco
  cases hc : codeAmong pos ps.toList with
  | none =>
    refine PySem.W.kla_makeFunction (mg := X.mg) (c := c) (P := P) (ps := ps) (closure_ok hfree) I.ok.glob (I.mod.glob.keeps I.bk) hcode (TB.code.keeps I.bk) hP' ht hc TB.gP bP fun c' ctv h' tk hx hge hlt hrec htb => ?_
    obtain ⟨c2, oc, vs, t, e2, hoc, hd, hv⟩ := hrec
    cases e2
    have hsz : s.heap.objs.size ≤ h'.objs.size := Nat.le_trans hge (Nat.le_of_lt hlt)
    have nC : H c' = none := I.hok.fresh hge
    have I1 := inv_table (t' := tk) (more := #[rawInt pos.line, rawInt pos.col, .ref c']) (h' := h'.push (PySem.W.kla_obj "<lambda>" (X.env.qual ++ "<lambda>") params body scope (cloFrom X.env.cells scope.names []) ((X.mg "__name__").getD .none) c' ctv)) I hP
      (fun b o hb e => Heap.get?_push_of_some _ (hx b o hb e)) (Heap.get?_push_of_some _ htb) hge ⟨oc, vs, t, Heap.get?_push_of_some _ hoc, hd, hv⟩
    have hE : ExtN H (upd (upd H P (.tbl (ps ++ #[rawInt pos.line, rawInt pos.col, .ref c']))) c' (CodeO c' (X.env.qual ++ "<lambda>"))) := fun b o e n => by
      rw [upd_ne (ne_of_none e nC), upd_ne (fun z => n ps (Option.some.inj (e.symm.trans (by rw [z]; exact hP))))]
      exact e
    have eL : (ps ++ #[rawInt pos.line, rawInt pos.col, .ref c']).toList = ps.toList ++ [rawInt pos.line, rawInt pos.col, .ref c'] := by simp
    refine fin h' tk _ c' _ ctv hsz hx ?_ (I.hok.fresh hsz) hE (fun p hp => ?_) upd_same I1
    · have n1 : h'.objs.size ≠ c' := Nat.ne_of_gt hlt
      have n2 : h'.objs.size ≠ P := Nat.ne_of_gt (Nat.lt_of_lt_of_le (Heap.lt_size hP') hsz)
      rw [upd_ne n1, upd_ne n2]
      exact I.hok.fresh hsz
    · by_cases hb : p.1 = P
      · rw [hu p hp hb, hb]
        refine ⟨_, by rw [upd_ne (ne_of_none hP nC), upd_same], by rw [eL]; exact PySem.TriplesOk_snoc _ _ _ _ ht, fun p' cv hcv => ?_⟩
        rw [eL] at hcv
        rcases among_app _ ht hcv with z | z
        · obtain ⟨c0, e1, e2⟩ := ha p' cv z
          exact ⟨c0, e1, hE _ _ e2 codeO_ne⟩
        · exact ⟨c', z, upd_same⟩
      · obtain ⟨ps', a1, a2, a3⟩ := hT p hp
        refine ⟨ps', by rw [upd_ne (ne_of_none a1 nC), upd_ne hb]; exact a1, a2, fun p' cv hcv => ?_⟩
        obtain ⟨c0, e1, e2⟩ := a3 p' cv hcv
        exact ⟨c0, e1, hE _ _ e2 codeO_ne⟩
  | some cv =>
    obtain ⟨c', e, hco⟩ := ha pos cv hc
    subst e
    refine PySem.W.kla_makeFunctionHit (mg := X.mg) (c := c) (P := P) (ps := ps) (closure_ok hfree) I.ok.glob (I.mod.glob.keeps I.bk) hcode (TB.code.keeps I.bk) hP' ht hc bP fun ctv h' tk hx hsz => ?_
    have I1 : Inv X pins σ H { s with heap := h'.push (PySem.W.kla_obj "<lambda>" (X.env.qual ++ "<lambda>") params body scope (cloFrom X.env.cells scope.names []) ((X.mg "__name__").getD .none) c' ctv), toks := tk } := I.kept fun b o e => Heap.get?_push_of_some _ (hx b o e)
    exact fin h' tk H c' _ ctv hsz (fun b o _ e => hx b o e) (I.hok.fresh hsz) (I.hok.fresh hsz) (ExtN.refl H) hT hco I1
end
end LamX
namespace L2
open PySem PySem.Spec PyProof.Rows
/-- a def whose code object is known -/
theorem Fun.okT {P : Program} {w : World} {K : PySem.W.Frag} {mg : Str → Option Value} {base : Heap} {x qual : Str} {st : Stmt} {f c : Addr} {fd : FuncData} {N ps : List Str} {k : Nat} {sp : Sp} (F : Fun K x qual st f fd) (hc : fd.code = .ref c) (S : FnScope N ps (defScope st)) (len : ∀ vs H Q E, sp vs H Q E → vs.length = ps.length)
    (hbody : ∀ (_ : Unit) (A : Around) (outer : List Env) (s : Shared) (H : Hp) (vs : List V) (Q : VK) (E : XK), Room k (A.deeper (envOfC qual (defScope st) s.heap.objs.size f (.ref c))) → sp vs H Q E →
      ∃ t, PSs (cxOf CX0 P w K mg base N qual (defScope st) f (.ref c) A outer s H E).nox (defBody st) t ∧ t { nx := fun _ H' => Q .non H', rt := Q } (start N vs) H) : FnOk P w K mg base CX0 (k + 1) f fd ps sp := by
  obtain ⟨oc, od, kV, doc, pm, an, cdv, ct, osl, rfl, lk, hcd⟩ := F.ex
  cases (show cdv = .ref c from hc)
  refine fn_of lk hcd S len fun A outer s H vs Q E hr hsp => ?_
  obtain ⟨t, h, q⟩ := hbody () A outer s H vs Q E hr hsp
  exact ⟨t, h.nox, q⟩
end L2
set_option maxHeartbeats 2000000
/-! max(texts, key=lambda x: len(x)) -/
namespace LamX
open PySem PySem.Spec PyProof.Rows L2
/-- all objects but the one at L -/
def allBut (h : Heap) (L : Addr) : List (Addr × Obj) := ((List.range h.objs.size).filterMap fun b => (h.get? b).map fun o => (b, o)).filter fun p => p.1 != L
theorem mem_allBut {h : Heap} {L b : Addr} {o : Obj} (e : h.get? b = some o) (n : b ≠ L) : (b, o) ∈ allBut h L :=
  List.mem_filter.mpr ⟨List.mem_filterMap.mpr ⟨b, List.mem_range.mpr (Heap.lt_size e), by rw [e]; rfl⟩, by simpa using n⟩
theorem of_allBut {h : Heap} {L : Addr} {p : Addr × Obj} (hp : p ∈ allBut h L) : h.get? p.1 = some p.2 ∧ p.1 ≠ L := by
  obtain ⟨h1, h2⟩ := List.mem_filter.mp hp
  obtain ⟨b, _, hb⟩ := List.mem_filterMap.mp h1
  obtain ⟨o, ho, e⟩ := Option.map_eq_some_iff.mp hb
  subst e
  exact ⟨ho, by simpa using h2⟩
theorem empty_get (b : Addr) : ({} : Heap).get? b = none := Heap.get?_none_of_le (Nat.zero_le _)
section
variable {X : Cx} {pins : List (Addr × Obj)} {σ : L2.St} {H : Hp} {s : Shared}
/-- heaps that differ in nothing but the frame's own dict, and that keeps its names -/
theorem inv_frame {h' : Heap} {t' : Nat} {m : Str → Option Value} (I : Inv X pins σ H s) (hm : s.heap.Ns X.env.locals m) (hn : h'.Ns X.env.locals m) (k : ∀ b o, b ≠ X.env.locals → s.heap.get? b = some o → h'.get? b = some o) : Inv X pins σ H { s with heap := h', toks := t' } := by
  refine I.step (g' := s.gens) (d' := s.drawn) (ch := []) (fun b hb => absurd hb (by simp)) (fun b o hL _ _ e _ => k b o hL e) (fun b o hL _ _ e _ => ⟨o.slots, k b o hL e⟩) (fun _ _ _ _ n => n) (fun b o _ e => ?_) (fun _ _ e => e) (fun _ _ _ e => e) (fun b ps e => ⟨#[], by rw [e]; simp⟩) (fun m' hm' => ?_) (fun b u e => ?_) I.bare
  · by_cases hb : b = X.env.locals
    · obtain ⟨o', _, _, ho', _⟩ := hn
      exact ⟨o', by rw [hb]; exact ho'⟩
    · exact ⟨o, k b o hb e⟩
  · obtain ⟨o1, es1, ep1, h1, d1, s1, f1⟩ := hm
    obtain ⟨o2, es2, ep2, h2, d2, s2, f2⟩ := hm'
    rw [h1] at h2
    cases h2
    rw [d1] at d2
    cases d2
    obtain ⟨o3, es3, ep3, h3, d3, s3, f3⟩ := hn
    exact ⟨o3, es3, ep3, h3, d3, s3, fun name => by rw [f3, ← f1, f2]⟩
  · refine (I.hok b u e).stay (fun c v hc q => k c v ?_ q) (fun _ q => q) fun _ _ q => q
    have nL : ∀ d w, H d = some w → d ≠ X.env.locals := fun d w q z => by rw [z, I.free] at q; cases q
    rcases hc with z | z
    · rw [z]; exact nL b u e
    · exact nL c _ z
/-- the lambda's parameter and body -/
structure LenLam (a : Str) (params : Arguments) (body : Expr) (scope : Scope) : Prop where
  bind : ∀ (q : Str) (cl : List (Str × Addr)) (pm cv ctv v : Value), bindArgs (PySem.W.kla_fn "<lambda>" q params body scope cl pm cv ctv) ⟨[v], []⟩ = pure [(a, v)]
  body : ∃ p1 p2 p3 : Pos, body = .Call (.Name "len" p1) [.Name a p2] [] p3
  kind : scope.kind = .function
  co : scope.isCoroutine = false
  gen : scope.isGenerator = false
  noc : ∀ y ∈ scope.names, y.2 ≠ .cell
  loc : scope.names.lookup a = some .local
  len : scope.names.lookup ("len" : Str) = some .globalImplicit
  dbg : (a == ("__debug__" : Str)) = false
/-- the lambda at one text -/
theorem len_turn {env : Env} {a : Str} {params : Arguments} {body : Expr} {scope : Scope} (LL : LenLam a params body scope) {A : Around} {f c' : Addr} {pm ctv : Value} {h : Heap} {tk : Nat} {x : Str} {t : Tok} {mb : Str → Option Value} {Q : Value → Shared → Prop} {E : Value → Shared → Prop} {cl : List (Str × Addr)} {q : Str}
    (hf : h.get? f = some (PySem.W.kla_obj "<lambda>" q params body scope cl pm c' ctv)) (hc : ∃ (oc : Obj) (vs : Array Value) (t : Tok), h.get? c' = some oc ∧ oc.data = .fields vs ∧ vs[1]? = some (.str q t)) (dp : A.depth < recursionLimit)
    {mg : Str → Option Value} (hg : h.Ns mainGlobals mg) (hm : mg ("len" : Str) = none) (hb : h.Ns builtinsNs mb) (hl : mb ("len" : Str) = some (.builtin "len")) (lim : h.NoLimit) (hx : x.length ≤ sizeLine)
    (hQ : ∀ (h2 : Heap) (tk2 : Nat) (t2 : Tok), (∀ b o, h.get? b = some o → h2.get? b = some o) → Q (.int (x.length : Nat) t2) { s with heap := h2, toks := tk2 }) :
    wpAny (model X.prog X.w) A (call (.ref f) [.str x t]) Q E { s with heap := h, toks := tk } := by
  obtain ⟨p1, p2, p3, eb⟩ := LL.body
  have rc : codeAny (model X.prog X.w) A (.call (.ref f) ⟨[.str x t], []⟩) (fun r s' => ∃ v, r = .ok (.ret v) ∧ Q v s') { s with heap := h, toks := tk } := by
    obtain ⟨oc, vs, t', h1, h2, h3⟩ := hc
    refine PySem.W.kla_callFunE dp hf rfl LL.co LL.gen rfl ⟨c', oc, vs, t', rfl, h1, h2, h3⟩ ?_
    rw [LL.bind]
    refine wpAny_pure (wpAny_newFunctionEnv LL.noc (fun y hy => by rw [List.mem_singleton.mp hy]; exact LL.loc) (fun h₁ hns hsb => ?_) LL.kind)
    have kp : ∀ b o, h.get? b = some o → h₁.get? b = some o := fun b o e => hsb.extBut b o (Nat.ne_of_lt (Heap.lt_size e)) (Heap.get?_push_of_some _ e)
    refine ⟨lim.keeps kp, ?_⟩
    refine PySem.W.kla_codeExpr ?_
    show wpAny _ _ (eval body _) _ _ _
    rw [eb]
    refine wpAny_Call_Name_kw (Calls.Name_function_global LL.kind LL.len (Calls.loadGlobal_builtin (hg.keeps kp) hm (hb.keeps kp) hl ?_) (by decide))
    refine PyProof.Rows.callWith_builtin1 (rest := []) ?_ (by rfl) (by rfl)
    refine Calls.spliced_cons (wpAny_Name (wpAny_loadName_local (v := Value.str x t) LL.kind LL.loc hns (by simp) ?_) LL.dbg)
    refine Calls.spliced_nil ?_
    refine len_str (by have := line63; omega) ⟨_, rfl, hQ _ _ _ kp⟩
  refine wpAny_call (codeAny_mono rc fun r s' hq => ?_)
  obtain ⟨v, rfl, hq⟩ := hq
  exact hq
/-- max(texts, key=lambda x: len(x)): the first of the longest ones -/
def rMaxLen (K : PySem.W.Frag) (env : Env) (params : Arguments) (body : Expr) (scope : Scope) : List V → List V → Hp → VK → Prop := fun vs zs H Q =>
  ∃ (l f c' : Addr) (ls : List (List Nat)), vs = [.ref l] ∧ zs = [.ref f] ∧ SqL K H l (ls.map fun x => V.str (Hg.tx x)) ∧ H f = some (FunO env params body scope f c') ∧ H c' = some (CodeO c' (env.qual ++ "<lambda>")) ∧ ls ≠ [] ∧ (∀ x ∈ ls, x.length ≤ 1000) ∧
    ∀ (i : Nat) (m : List Nat), ls[i]? = some m → (∀ j x, ls[j]? = some x → x.length ≤ m.length ∧ (j < i → x.length < m.length)) → Q (.str (Hg.tx m)) H
theorem vals_get {xs : List V} {us : List Value} (r : Vals xs us) : ∀ {i : Nat} {u : Value}, us[i]? = some u → ∃ x, xs[i]? = some x ∧ RelV x u := by
  induction r with
  | nil => intro i u h; simp at h
  | cons h t ih =>
    intro i u e
    cases i with
    | zero => cases e; exact ⟨_, rfl, h⟩
    | succ i => exact ih (by simpa using e)
theorem cr_maxLen {a : Str} {params : Arguments} {body : Expr} {scope : Scope} (LL : LenLam a params body scope) (hr : Room 2 X.A) (hm : X.mg ("len" : Str) = none) : CallRK X (.builtin "max") [Str.ofString "key"] (rMaxLen X.K X.env params body scope) := by
  intro pins s σ H vs zs us ws Q I rv rz h
  obtain ⟨l, f, c', ls, rfl, rfl, hl, hf, hc, ne, sm, kq⟩ := h
  obtain ⟨u, rfl, eu⟩ := Vals.one rv
  obtain ⟨w, rfl, ew⟩ := Vals.one rz
  obtain rfl : u = Value.ref l := eu
  obtain rfl : w = Value.ref f := ew
  obtain ⟨its, ri, pl, _⟩ := I.list hl
  obtain ⟨m, hn, _⟩ := id I.loc
  obtain ⟨mb, b1, b2⟩ := I.mod.blt
  obtain ⟨⟨pm, ctv, of1⟩, _, _⟩ := I.hok f _ hf
  obtain ⟨⟨oc, vs, t, hoc, hdc, hvc⟩, _, _⟩ := I.hok c' _ hc
  have nL : ∀ d w, H d = some w → d ≠ X.env.locals := fun d w q z => by rw [z, I.free] at q; cases q
  have nB : ∀ b o, X.base.get? b = some o → b ≠ X.env.locals := fun b o e => Nat.ne_of_lt (Nat.lt_of_lt_of_le (Heap.lt_size e) (Nat.le_trans I.ok.bsz I.ok.above))
  have il : its.length = ls.length := by have := ri.length; rw [List.length_map] at this; exact this.symm
  have at_ : ∀ {i : Nat} {v : Value}, its[i]? = some v → ∃ x t, ls[i]? = some x ∧ v = .str (Hg.tx x) t := fun {i v} e => by
    obtain ⟨y, hy, r⟩ := vals_get ri e
    rw [List.getElem?_map] at hy
    obtain ⟨x, hx, rfl⟩ := Option.map_eq_some_iff.mp hy
    obtain ⟨t, r⟩ := r
    exact ⟨x, t, hx, r⟩
  have gd : ∀ {i : Nat} {x : List Nat}, ls[i]? = some x → ls.getD i [] = x := fun {i x} e => by rw [List.getD_eq_getElem?_getD, e]; rfl
  show wpAny (model X.prog X.w) X.A (call (.builtin "max") [.ref l] [(Str.ofString "key", .ref f)]) _ _ s
  refine PyProof.Rows.kmk_max (vs := its) (news := allBut s.heap X.env.locals) (h₀ := {}) (L := X.env.locals) (m := m) (fun i => ((ls.getD i []).length : Int)) hr.hd ⟨hn, fun b o e => (by rw [empty_get] at e; cases e), Nat.zero_le _⟩ (fun p hp => ⟨(of_allBut hp).1, (of_allBut hp).2, empty_get _⟩) (fun h F N => ?_) (by rw [il]; exact List.length_pos_iff.mpr ne) (fun i v hv h tk own F N => ?_) (fun i v h' tk' hv best F N => ?_)
  · obtain ⟨o, n, ho, hc, hd, hs⟩ := id pl
    refine ⟨o, (N (l, o) (mem_allBut ho fun z => ?_)).1, hc, n, hs⟩
    obtain ⟨o2, _, _, ho2, hd2, _⟩ := hn
    have z : l = X.env.locals := z
    rw [← z, ho] at ho2
    cases ho2
    rw [hs] at hd2
    cases hd2
  · obtain ⟨x, t', hx, rfl⟩ := at_ hv
    have k0 : ∀ b o, b ≠ X.env.locals → s.heap.get? b = some o → h.get? b = some o := fun b o hb e => (N (b, o) (List.mem_append_left _ (mem_allBut e hb))).1
    have kb : ∀ b o, X.base.get? b = some o → h.get? b = some o := fun b o e => k0 b o (nB b o e) (I.bk b o e)
    have xl := sm x (List.mem_of_getElem? hx)
    refine len_turn (env := X.env) LL (k0 _ _ (nL f _ hf) of1) ⟨oc, vs, t, k0 _ _ (nL c' _ hc) hoc, hdc, hvc⟩ hr.in1.depth (I.mod.glob.keeps kb) hm (b1.keeps kb) ((b2 _ (by decide)).trans rfl) (I.mod.nolimit.keeps kb) (by rw [Hg.tx_len, sizeLine_eq]; omega) (fun h2 tk2 t2 kp => ?_)
    rw [show ((Hg.tx x).length : Int) = ((ls.getD i []).length : Int) by rw [gd hx, Hg.tx_len]]
    exact KskEnd.intro ⟨F.ns.keeps kp, fun b o e => (by rw [empty_get] at e; cases e), Nat.zero_le _⟩ (fun p hp => ⟨kp _ _ (N p hp).1, (N p hp).2⟩) fun p hp => hp
  · obtain ⟨x, t', hx, rfl⟩ := at_ hv
    refine ⟨.str (Hg.tx x), H, inv_frame I hn F.ns fun b o hb e => (N (b, o) (mem_allBut e hb)).1, ⟨_, rfl⟩, kq i x hx fun j y hy => ?_⟩
    have jl := (List.getElem?_eq_some_iff.mp hy).1
    have := best j (by omega)
    rw [gd hx, gd hy] at this
    exact ⟨by omega, fun z => by have := this.2 z; omega⟩
end
end LamX
set_option maxHeartbeats 4000000
namespace Tk
open PySem PySem.Spec PyProof.Rows L2 Hg
/-! ### tokens, or the place of the first sign that begins none -/
inductive LexR : Nat → List Nat → List Tk → Option Nat → Prop
  | nil (i : Nat) : LexR i [] [] none
  | sp {i : Nat} {r : List Nat} {ts : List Tk} {e : Option Nat} : LexR (i + 1) r ts e → LexR i (32 :: r) ts e
  | tok {i c n : Nat} {r : List Nat} {k : Str} {v : V} {ts : List Tk} {e : Option Nat} : c ≠ 32 → tokR (c :: r) = some (k, v, n) → 0 < n → LexR (i + n) ((c :: r).drop n) ts e → LexR i (c :: r) ((k, v, i) :: ts) e
  | bad {i c : Nat} {r : List Nat} : c ≠ 32 → tokR (c :: r) = none → LexR i (c :: r) [] (some i)
theorem runN_pos {cs r : List Nat} {c : Nat} (h : c ∈ cs) : 0 < runN cs (c :: r) := by
  unfold runN
  rw [List.takeWhile_cons, if_pos (by simpa using h)]
  simp
theorem dig_all {cs : List Nat} (h : ∀ c ∈ cs, c ∈ DIG) : PySem.NumText.AllDigits cs := fun c hc => by
  have : ∀ c ∈ DIG, 48 ≤ c ∧ c ≤ 57 := by decide +kernel
  exact this c (h c hc)
theorem take_run {cs r : List Nat} : ∀ c ∈ r.take (runN cs r), c ∈ cs := fun c hc => by
  obtain ⟨j, hj, e⟩ := List.mem_iff_getElem.mp hc
  rw [List.length_take] at hj
  rw [List.getElem_take] at e
  exact runN_in (r := r) (j := j) (by omega) (by rw [List.getElem?_eq_getElem (by omega), e])
theorem val_lt : ∀ (cs : List Nat) (a : Nat), PySem.NumText.AllDigits cs → cs.foldl (fun acc c => acc * 10 + (c - 48)) a < (a + 1) * 10 ^ cs.length
  | [], a, _ => by simp
  | c :: cs, a, h => by
    have h1 := h.head
    have := val_lt cs (a * 10 + (c - 48)) h.tail
    rw [List.foldl_cons]
    refine Nat.lt_of_lt_of_le this ?_
    rw [List.length_cons, Nat.pow_succ, Nat.mul_comm (10 ^ cs.length) 10, ← Nat.mul_assoc]
    exact Nat.mul_le_mul_right _ (by omega)
/-- digits are a number -/
theorem int_of {cs : List Nat} (h : ∀ c ∈ cs, c ∈ DIG) (ne : cs ≠ []) (h6 : cs.length ≤ 6) : ∃ v : Int, PySem.intText? (tx cs) = some v ∧ v.natAbs < 1000000 := by
  have e : (tx cs).cps.toList = cs := by simp
  have ha := dig_all h
  refine ⟨(PySem.NumText.digitsVal cs : Nat), ?_, ?_⟩
  · have := intText_digits (x := tx cs) (by rw [e]; exact ha) (by rw [e]; exact ne) (by rw [tx_len]; omega)
    rw [e] at this
    exact this
  · have := val_lt cs 0 ha
    have h10 : (10 : Nat) ^ cs.length ≤ 10 ^ 6 := Nat.pow_le_pow_right (by decide) h6
    show (((PySem.NumText.digitsVal cs : Nat) : Int)).natAbs < 1000000
    rw [Int.natAbs_natCast]
    unfold PySem.NumText.digitsVal
    have e6 : (10 : Nat) ^ 6 = 1000000 := by decide
    omega
theorem tokD_bad {c : Nat} {r : List Nat} (hc : c ∈ DIG) : tokD (c :: r) = none ↔ 6 < runN DIG (c :: r) ∨ (1 < runN DIG (c :: r) ∧ c = 48) := by
  unfold tokD
  rw [List.getElem?_cons_zero]
  by_cases z : 6 < runN DIG (c :: r) ∨ (1 < runN DIG (c :: r) ∧ some c = some 48)
  · rw [if_pos z]
    exact ⟨fun _ => z.imp id fun ⟨a, b⟩ => ⟨a, Option.some.inj b⟩, fun _ => rfl⟩
  · rw [if_neg z]
    have hp := runN_pos (r := r) hc
    have hle := runN_le DIG (c :: r)
    obtain ⟨v, hv, _⟩ := int_of (cs := (c :: r).take (runN DIG (c :: r))) take_run (fun e => by have := congrArg List.length e; rw [List.length_take] at this; simp at this; omega) (by rw [List.length_take]; omega)
    rw [hv]
    exact ⟨fun e => by simp at e, fun e => absurd (e.imp id fun ⟨a, b⟩ => ⟨a, by rw [b]⟩) z⟩
/-- how long a token is -/
theorem tokR_len {r : List Nat} {k : Str} {v : V} {n : Nat} (h : tokR r = some (k, v, n)) : 0 < n ∧ n ≤ r.length := by
  cases r with
  | nil => cases h
  | cons c cs =>
    unfold tokR at h
    dsimp only at h
    by_cases c1 : c ∈ LET
    · rw [if_pos c1] at h
      unfold tokL at h
      split at h
      · cases h
      · cases h
        exact ⟨runN_pos (by have : ∀ c ∈ LET, c ∈ NCH := by decide +kernel
                            exact this c c1), runN_le _ _⟩
    rw [if_neg c1] at h
    by_cases c2 : c ∈ DIG
    · rw [if_pos c2] at h
      unfold tokD at h
      split at h
      · cases h
      · obtain ⟨x, _, e⟩ := Option.map_eq_some_iff.mp h
        cases e
        exact ⟨runN_pos c2, runN_le _ _⟩
    rw [if_neg c2] at h
    by_cases c3 : c = 34
    · rw [if_pos c3] at h
      unfold tokW at h
      dsimp only at h
      split at h
      · rename_i hw
        cases h
        exact ⟨by omega, by omega⟩
      · cases h
    rw [if_neg c3] at h
    split at h
    · rename_i hl
      cases h
      have f : ∀ m ∈ LSY, m.length = 2 := by decide +kernel
      have := f _ hl
      rw [List.length_take] at this
      exact ⟨by omega, by omega⟩
    · split at h
      · cases h; exact ⟨by omega, by simp⟩
      · cases h
theorem lexR_ex : ∀ (n i : Nat) (r : List Nat), r.length ≤ n → ∃ ts e, LexR i r ts e
  | 0, i, r, h => by
    have := List.length_eq_zero_iff.mp (Nat.le_zero.mp h)
    subst this
    exact ⟨_, _, .nil i⟩
  | n + 1, i, [], h => ⟨_, _, .nil i⟩
  | n + 1, i, c :: r, h => by
    by_cases hc : c = 32
    · subst hc
      obtain ⟨ts, e, hx⟩ := lexR_ex n (i + 1) r (by simpa using h)
      exact ⟨ts, e, .sp hx⟩
    · cases ht : tokR (c :: r) with
      | none => exact ⟨_, _, .bad hc ht⟩
      | some t =>
        obtain ⟨k, v, m⟩ := t
        obtain ⟨m1, m2⟩ := tokR_len ht
        obtain ⟨ts, e, hx⟩ := lexR_ex n (i + m) ((c :: r).drop m) (by rw [List.length_drop]; omega)
        exact ⟨_, e, .tok hc ht m1 hx⟩
/-- what a token's value is -/
theorem tokR_sm {r : List Nat} {k : Str} {v : V} {n : Nat} (h : tokR r = some (k, v, n)) (hr : ∀ c ∈ r, c < 200) : k ∈ (["integer", "word", "symbol", "reserved", "name"] : List Str) ∧ SmV v := by
  cases r with
  | nil => cases h
  | cons c cs =>
    unfold tokR at h
    dsimp only at h
    have ht : ∀ (j : Nat), ∀ d ∈ (c :: cs).take j, d < 200 := fun j d hd => hr d (List.mem_of_mem_take hd)
    by_cases c1 : c ∈ LET
    · rw [if_pos c1] at h
      unfold tokL at h
      split at h
      · cases h
      · cases h
        refine ⟨by split <;> simp, .inl ⟨_, rfl, by rw [List.length_take]; omega, ht _⟩⟩
    rw [if_neg c1] at h
    by_cases c2 : c ∈ DIG
    · rw [if_pos c2] at h
      unfold tokD at h
      split at h
      · cases h
      · rename_i hn
        obtain ⟨x, hx, e⟩ := Option.map_eq_some_iff.mp h
        cases e
        have hp := runN_pos (r := cs) c2
        obtain ⟨v, hv, hv6⟩ := int_of (cs := (c :: cs).take (runN DIG (c :: cs))) take_run (fun e => by have := congrArg List.length e; rw [List.length_take] at this; simp at this; omega) (by rw [List.length_take]; omega)
        rw [hx] at hv
        cases hv
        exact ⟨by simp, .inr ⟨_, rfl, hv6⟩⟩
    rw [if_neg c2] at h
    by_cases c3 : c = 34
    · rw [if_pos c3] at h
      unfold tokW at h
      dsimp only at h
      split at h
      · rename_i hw
        cases h
        have h12 := hw.2
        unfold isW at h12
        simp only [Bool.and_eq_true, decide_eq_true_eq] at h12
        refine ⟨by simp, .inl ⟨_, rfl, by omega, fun d hd => hr d ?_⟩⟩
        exact List.mem_of_mem_drop ((List.takeWhile_prefix _).subset hd)
      · cases h
    rw [if_neg c3] at h
    split at h
    · cases h; exact ⟨by simp, .inl ⟨_, rfl, by rw [List.length_take]; omega, ht _⟩⟩
    · split at h
      · cases h
        exact ⟨by simp, .inl ⟨_, rfl, by simp, fun d hd => by rw [List.mem_singleton.mp hd]; exact hr c (.head _)⟩⟩
      · cases h
theorem lexR_sm {i : Nat} {r : List Nat} {ts : List Tk} {e : Option Nat} (h : LexR i r ts e) : (∀ c ∈ r, c < 200) → i + r.length ≤ 1000 → (∀ t ∈ ts, Sm t) ∧ ts.length ≤ r.length ∧ ∀ p, e = some p → p ≤ 1000 := by
  induction h with
  | nil i => exact fun _ _ => ⟨by simp, by simp, by simp⟩
  | sp h ih =>
    intro h1 h2
    rw [List.length_cons] at h2
    obtain ⟨a, b, c⟩ := ih (fun c hc => h1 c (.tail _ hc)) (by omega)
    exact ⟨a, by rw [List.length_cons]; omega, c⟩
  | tok c0 ht hn h ih =>
    rename_i i c n r k v ts e
    intro h1 h2
    obtain ⟨n1, n2⟩ := tokR_len ht
    obtain ⟨a, b, c⟩ := ih (fun d hd => h1 d (List.mem_of_mem_drop hd)) (by rw [List.length_drop]; omega)
    rw [List.length_drop] at b
    refine ⟨fun t hm => ?_, by rw [List.length_cons]; omega, c⟩
    rcases List.mem_cons.mp hm with rfl | hm
    · obtain ⟨g1, g2⟩ := tokR_sm ht h1
      exact ⟨g1, g2, by show i ≤ 1000; omega⟩
    · exact a t hm
  | bad _ _ =>
    intro h1 h2
    exact ⟨by simp, by simp, fun p hp => by cases hp; omega⟩
theorem data_ok3 {ts : List Tk} (h : ∀ t ∈ ts, Sm t) (hl : ts.length ≤ 1000) : (PyData.list (ts.map tkD)).showable = true ∧ (PyData.list (ts.map tkD)).hasDict = false ∧ (PyData.list (ts.map tkD)).depth ≤ 20 ∧ (PyData.list (ts.map tkD)).shown.length ≤ sizeLine := by
  obtain ⟨b1, b2, b3, b4, b5⟩ := all_facts h
  refine ⟨b2, b4, ?_, PyData.shown_fits (B := 13) (by decide) (by decide) b1 ?_⟩
  · show PyData.depthAll (ts.map tkD) + 1 ≤ 20
    omega
  · show PyData.weightAll (ts.map tkD) ≤ 2 ^ 20
    have : (2 : Nat) ^ 20 = 1048576 := by decide
    omega
/-- no such sign from a place on -/
theorem find_no {l : List Nat} {c i : Nat} (hi : i ≤ l.length) (hp : c ∉ l.drop i) : Txt.find3 (tx l) (tx [c]) (i : Int) = -1 := by
  have occ : Builtin.Str.occurrences (tx l) (tx [c]) i (tx l).length 1 = [] := by
    rw [StrLaws.occ_eq, tx_len]
    have key := occ_none_at (tx l) (tx [c]) l.length (List.range' i (l.length + 1 - i)) i fun j hj z => by
      obtain ⟨k, hk, rfl⟩ := List.mem_range'.mp hj
      have z2 := z.2
      rw [subAt_tx, decide_eq_true_eq, Nat.one_mul] at z2
      exact hp (List.mem_of_getElem? (by rw [List.getElem?_drop]; exact z2))
    rw [key]
  unfold Txt.find3
  have ef : fromIndex (tx l).length (i : Int) = i := by
    unfold fromIndex
    rw [if_neg (by omega)]
    omega
  rw [ef, occ]
theorem takeWhile_eq {p : Nat → Bool} : ∀ {r : List Nat}, (r.takeWhile p).length = r.length → ∀ c ∈ r, p c = true
  | [], _, c, hc => by simp at hc
  | x :: r, h, c, hc => by
    rw [List.takeWhile_cons] at h
    split at h
    · rename_i hx
      rcases List.mem_cons.mp hc with rfl | hc
      · exact hx
      · exact takeWhile_eq (by simpa using h) c hc
    · simp at h
/-! ### the promises -/
/-- QuerySyntax raised, with the place n -/
def ErrQS (K : PySem.W.Frag) (H : Hp) (n : Nat) (E : XK) : Prop := ∀ (dx2 : Addr) (H' : Hp) (v' : V) (CN : Addr), PySem.W.nsIn K mainGlobals "QuerySyntax" = some (some (.ref CN)) → Ex H H' → H' dx2 = some (.xd [("position", v')]) → Tp H' v' (.int (n : Nat)) → E (.ref CN) (some dx2) H'
def sp_tkX (f : List Nat → Option (Str × V × Nat)) (K : PySem.W.Frag) : Sp := fun vs H Q E => ∃ (T : List Nat) (i : Nat), vs = [.str (tx T), .int i] ∧ T.length ≤ 5000 ∧ i < T.length ∧
  (∀ (k : Str) (v : V) (n : Nat), f (T.drop i) = some (k, v, n) → ∀ H' p, Ex H H' → H p = none → H' p = some (.tup [.str k, v, .int ((i + n : Nat) : Int)]) → Q (.ref p) H') ∧ (f (T.drop i) = none → ErrQS K H i E)
def sp__lettersX (K : PySem.W.Frag) : Sp := sp_tkX tokL K
def sp__digitsX (K : PySem.W.Frag) : Sp := fun vs H Q E => sp_tkX tokD K vs H Q E ∧ ∃ (T : List Nat) (i c : Nat), vs = [.str (tx T), .int i] ∧ T[i]? = some c ∧ c ∈ DIG
def sp__wordX (K : PySem.W.Frag) : Sp := fun vs H Q E => sp_tkX tokW K vs H Q E ∧ ∃ (T : List Nat) (i : Nat), vs = [.str (tx T), .int i] ∧ T[i]? = some 34
def sp__tokenX (K : PySem.W.Frag) : Sp := sp_tkX tokR K
def sp_tokensX (K : PySem.W.Frag) : Sp := fun vs H Q E => ∃ (T : List Nat) (ts : List Tk) (e : Option Nat), vs = [.str (tx T)] ∧ T.length ≤ 5000 ∧ LexR 0 T ts e ∧
  (e = none → ∀ (H' : Hp) (L : Addr) (xs : List V), Ex H H' → H L = none → H' L = some (.lst xs) → xs.length ≤ 5000 → TksIn H' xs ts → Q (.ref L) H') ∧ ∀ p, e = some p → ErrQS K H p E
end Tk
set_option maxHeartbeats 4000000
namespace K49
open PySem PySem.Spec PyProof.Rows L2 Hg
abbrev c_MOST_DIGITS : V := .int (6)
abbrev c_SHORT_SYMBOLS : V := .str (tx [40, 41, 44, 46, 43, 45, 42, 61, 60, 62])
abbrev c_LONGEST : V := .int (12)
abbrev c_NAME_CHARACTERS : V := .str (tx [97, 98, 99, 100, 101, 102, 103, 104, 105, 106, 107, 108, 109, 110, 111, 112, 113, 114, 115, 116, 117, 118, 119, 120, 121, 122, 95, 48, 49, 50, 51, 52, 53, 54, 55, 56, 57])
abbrev c_DIGITS : V := .str (tx [48, 49, 50, 51, 52, 53, 54, 55, 56, 57])
abbrev c_LETTERS : V := .str (tx [97, 98, 99, 100, 101, 102, 103, 104, 105, 106, 107, 108, 109, 110, 111, 112, 113, 114, 115, 116, 117, 118, 119, 120, 121, 122])
def top (i : Nat) : Stmt := PySem.Challenge.pw_hushgrain_k49_texts_without_tokens.main.body.getD i (.Pass ⟨0, 0, 0, 0⟩)
abbrev st_frozen : Stmt := top 1
theorem sc_frozen : FnScope ["thing", "stack", "source", "built", "part", "outer"] ["thing"] (defScope st_frozen) := ⟨rfl, rfl, rfl, by decide +kernel, rfl, by decide +kernel, by decide +kernel⟩
abbrev st_is_word : Stmt := top 11
theorem sc_is_word : FnScope ["thing", "char"] ["thing"] (defScope st_is_word) := ⟨rfl, rfl, rfl, by decide +kernel, rfl, by decide +kernel, by decide +kernel⟩
abbrev st_tokens : Stmt := top 16
theorem sc_tokens : FnScope ["text", "found", "position", "kind", "value", "end"] ["text"] (defScope st_tokens) := ⟨rfl, rfl, rfl, by decide +kernel, rfl, by decide +kernel, by decide +kernel⟩
abbrev st__token : Stmt := top 17
theorem sc__token : FnScope ["text", "start", "char"] ["text", "start"] (defScope st__token) := ⟨rfl, rfl, rfl, by decide +kernel, rfl, by decide +kernel, by decide +kernel⟩
abbrev st__letters : Stmt := top 18
theorem sc__letters : FnScope ["text", "start", "end", "value", "kind"] ["text", "start"] (defScope st__letters) := ⟨rfl, rfl, rfl, by decide +kernel, rfl, by decide +kernel, by decide +kernel⟩
abbrev st__digits : Stmt := top 19
theorem sc__digits : FnScope ["text", "start", "end", "count"] ["text", "start"] (defScope st__digits) := ⟨rfl, rfl, rfl, by decide +kernel, rfl, by decide +kernel, by decide +kernel⟩
abbrev st__word : Stmt := top 20
theorem sc__word : FnScope ["text", "start", "end"] ["text", "start"] (defScope st__word) := ⟨rfl, rfl, rfl, by decide +kernel, rfl, by decide +kernel, by decide +kernel⟩
abbrev st__run_end : Stmt := top 21
theorem sc__run_end : FnScope ["text", "start", "characters", "end"] ["text", "start", "characters"] (defScope st__run_end) := ⟨rfl, rfl, rfl, by decide +kernel, rfl, by decide +kernel, by decide +kernel⟩
abbrev st_l_draw : Stmt := top 23
theorem sc_l_draw : FnScope ["_law_stream", "_law_many", "_law_number"] ["_law_stream", "_law_many"] (defScope st_l_draw) := ⟨rfl, rfl, rfl, by decide +kernel, rfl, by decide +kernel, by decide +kernel⟩
abbrev st_l_reserved : Stmt := top 24
theorem sc_l_reserved : FnScope [] [] (defScope st_l_reserved) := ⟨rfl, rfl, rfl, by decide +kernel, rfl, by decide +kernel, by decide +kernel⟩
abbrev st_l_name : Stmt := top 25
theorem sc_l_name : FnScope ["_law_stream", "_law_inner", "_law_more", "_law_name_here", "_law_k"] ["_law_stream"] (defScope st_l_name) := ⟨rfl, rfl, rfl, by decide +kernel, rfl, by decide +kernel, by decide +kernel⟩
abbrev st_l_symbols : Stmt := top 26
theorem sc_l_symbols : FnScope [] [] (defScope st_l_symbols) := ⟨rfl, rfl, rfl, by decide +kernel, rfl, by decide +kernel, by decide +kernel⟩
abbrev st_l_token : Stmt := top 27
theorem sc_l_token : FnScope ["_law_stream", "_law_way", "_law_number", "_law_some", "_law_word", "_law_symbol", "_law_near", "_law_name_here"] ["_law_stream"] (defScope st_l_token) := ⟨rfl, rfl, rfl, by decide +kernel, rfl, by decide +kernel, by decide +kernel⟩
abbrev st_l_scan : Stmt := top 28
theorem sc_l_scan : FnScope ["_law_text", "_law_small", "_law_digits", "_law_found", "_law_at", "_law_end", "_law_value", "_law_kind", "_law_good", "_law_some", "_law_one"] ["_law_text"] (defScope st_l_scan) := ⟨rfl, rfl, rfl, by decide +kernel, rfl, by decide +kernel, by decide +kernel⟩
abbrev st_l_piece : Stmt := top 29
theorem sc_l_piece : FnScope ["_law_stream", "_law_odd"] ["_law_stream"] (defScope st_l_piece) := ⟨rfl, rfl, rfl, by decide +kernel, rfl, by decide +kernel, by decide +kernel⟩
abbrev st_l_seen_tokens : Stmt := top 30
theorem sc_l_seen_tokens : FnScope ["_law_text", "_law_found", "e"] ["_law_text"] (defScope st_l_seen_tokens) := ⟨rfl, rfl, rfl, by decide +kernel, rfl, by decide +kernel, by decide +kernel⟩
abbrev st_l_end_of : Stmt := top 31
theorem sc_l_end_of : FnScope ["_law_text", "_law_at", "_law_inner"] ["_law_text", "_law_at", "_law_inner"] (defScope st_l_end_of) := ⟨rfl, rfl, rfl, by decide +kernel, rfl, by decide +kernel, by decide +kernel⟩
abbrev st_law : Stmt := top 32
theorem sc_law : FnScope ["_law_script", "_law_stream", "_law_turn", "_law_text", "_law_k", "_law_found", "_law_due", "_law_error"] ["_law_script"] (defScope st_law) := ⟨rfl, rfl, rfl, by decide +kernel, rfl, by decide +kernel, by decide +kernel⟩
structure Zs (mg : Str → Option Value) : Prop where
  ValueError_ : mg "ValueError" = none
  all_ : mg "all" = none
  int_ : mg "int" = none
  isinstance_ : mg "isinstance" = none
  len_ : mg "len" = none
  list_ : mg "list" = none
  max_ : mg "max" = none
  min_ : mg "min" = none
  range_ : mg "range" = none
  repr_ : mg "repr" = none
  str_ : mg "str" = none
  tuple_ : mg "tuple" = none
structure CGs (K : PySem.W.Frag) (mg : Str → Option Value) : Type where
  LETTERS_t : Tok
  LETTERS_ : mg "LETTERS" = some (.str (tx [97, 98, 99, 100, 101, 102, 103, 104, 105, 106, 107, 108, 109, 110, 111, 112, 113, 114, 115, 116, 117, 118, 119, 120, 121, 122]) LETTERS_t)
  DIGITS_t : Tok
  DIGITS_ : mg "DIGITS" = some (.str (tx [48, 49, 50, 51, 52, 53, 54, 55, 56, 57]) DIGITS_t)
  NAME_CHARACTERS_t : Tok
  NAME_CHARACTERS_ : mg "NAME_CHARACTERS" = some (.str (tx [97, 98, 99, 100, 101, 102, 103, 104, 105, 106, 107, 108, 109, 110, 111, 112, 113, 114, 115, 116, 117, 118, 119, 120, 121, 122, 95, 48, 49, 50, 51, 52, 53, 54, 55, 56, 57]) NAME_CHARACTERS_t)
  RESERVED_a : Addr
  RESERVED_ : mg "RESERVED" = some (.ref RESERVED_a)
  RESERVED_q : ∀ H : Hp, SqT K H RESERVED_a [.str (tx [115, 101, 108, 101, 99, 116]), .str (tx [115, 117, 109]), .str (tx [99, 111, 117, 110, 116]), .str (tx [102, 114, 111, 109]), .str (tx [97, 116]), .str (tx [100, 97, 121]), .str (tx [97, 115]), .str (tx [119, 104, 101, 114, 101]), .str (tx [98, 121]), .str (tx [97, 110, 100]), .str (tx [111, 114]), .str (tx [110, 111, 116]), .str (tx [105, 110])]
  LONGEST_t : Tok
  LONGEST_ : mg "LONGEST" = some (.int (12) LONGEST_t)
  LONG_SYMBOLS_a : Addr
  LONG_SYMBOLS_ : mg "LONG_SYMBOLS" = some (.ref LONG_SYMBOLS_a)
  LONG_SYMBOLS_q : ∀ H : Hp, SqT K H LONG_SYMBOLS_a [.str (tx [33, 61]), .str (tx [60, 61]), .str (tx [62, 61])]
  SHORT_SYMBOLS_t : Tok
  SHORT_SYMBOLS_ : mg "SHORT_SYMBOLS" = some (.str (tx [40, 41, 44, 46, 43, 45, 42, 61, 60, 62]) SHORT_SYMBOLS_t)
  MOST_DIGITS_t : Tok
  MOST_DIGITS_ : mg "MOST_DIGITS" = some (.int (6) MOST_DIGITS_t)
def sp_l_draw (_ : PySem.W.Frag) : Sp := spDraw
end K49
set_option maxHeartbeats 4000000
namespace K49
open PySem PySem.Spec PyProof.Rows L2 Hg
section
variable {P : Program} {w : World} {K : PySem.W.Frag} {mg : Str → Option Value} {base : Heap}
open Tk
theorem ok_frozen {f : Addr} {fd : FuncData} (F : DefK K mg "frozen" st_frozen ["thing"] f fd) (Z : Zs mg) (CG : CGs K mg)  :
    FnOk P w K mg base CX0 1 f fd ["thing"] (sp_frozen K) := by
  refine F.fn.ok sc_frozen (fun vs H Q E h => by first | exact listedM_len h | (obtain ⟨rfl, _⟩ := h; rfl) | (obtain ⟨_, rfl, _⟩ := h; rfl) | (obtain ⟨_, _, rfl, _⟩ := h; rfl) | (obtain ⟨_, _, _, rfl, _⟩ := h; rfl) | (obtain ⟨_, _, _, _, rfl, _⟩ := h; rfl) | (obtain ⟨_, _, _, _, _, rfl, _⟩ := h; rfl) | (obtain ⟨_, _, _, _, _, _, rfl, _⟩ := h; rfl) | (obtain ⟨_, _, _, _, _, _, _, rfl, _⟩ := h; rfl) | (obtain ⟨_, _, _, _, _, _, _, _, rfl, _⟩ := h; rfl) | (obtain ⟨_, _, _, _, _, _, _, _, _, rfl, _⟩ := h; rfl) | (obtain ⟨_, _, _, _, _, _, _, _, _, _, rfl, _⟩ := h; rfl) | (obtain ⟨_, _, _, _, _, _, _, _, _, _, _, rfl, _⟩ := h; rfl) | (obtain ⟨_, _, _, _, _, _, _, _, _, _, _, _, rfl, _⟩ := h; rfl) | (obtain ⟨_, _, _, _, _, _, _, _, _, _, _, _, _, rfl, _⟩ := h; rfl) | (obtain ⟨_, _, _, _, _, _, _, _, _, _, _, _, _, _, rfl, _⟩ := h; rfl) | (obtain ⟨_, _, _, _, _, _, _, _, _, _, _, _, _, _, _, rfl, _⟩ := h; rfl) | (obtain ⟨_, _, _, _, _, _, _, _, _, _, _, _, _, _, _, _, rfl, _⟩ := h; rfl) | (obtain ⟨_, _, _, _, _, _, _, _, _, _, _, _, _, _, _, _, _, rfl, _⟩ := h; rfl) | (obtain ⟨_, _, _, _, _, _, _, _, _, _, _, _, _, _, _, _, _, _, rfl, _⟩ := h; rfl) | (obtain ⟨_, _, _, _, _, _, _, _, _, _, _, _, _, _, _, _, _, _, _, rfl, _⟩ := h; rfl) | (obtain ⟨_, _, _, _, _, _, _, _, _, _, _, _, _, _, _, _, _, _, _, _, rfl, _⟩ := h; rfl) | (obtain ⟨_, _, _, _, _, _, _, _, _, _, _, _, _, _, _, _, _, _, _, _, _, rfl, _⟩ := h; rfl) | (obtain ⟨_, _, _, _, _, _, _, _, _, _, _, _, _, _, _, _, _, _, _, _, _, _, rfl, _⟩ := h; rfl) | (obtain ⟨_, _, _, _, _, _, _, _, _, _, _, _, _, _, _, _, _, _, _, _, _, _, _, rfl, _⟩ := h; rfl)) (fun cdv A outer s H vs Q E hr h => ?_)
  obtain ⟨v, d, rfl, hd, hw, kq⟩ := h
  refine ⟨_, (pss_cons (ps_if (pt_not (pt_val (pe_callB (kIsiT (K := K)) (by rfl) Z.isinstance_ PyProof.Rows.Boot.«isinstance» (pa_cons (pv 0) (pa_cons (pe_tup (pa_cons (pe_bltn (v := .ty "tuple") (by rfl) Z.tuple_ PyProof.Rows.Boot.«tuple» rfl) (pa_cons (pe_bltn (v := .ty "list") (by rfl) Z.list_ PyProof.Rows.Boot.«list» rfl) pa_nil))) pa_nil))))) (pss_one (ps_ret (pv 0))) pss_nil)
      (pss_cons (ps_set (i := 1) sc_frozen.nd rfl (.inl rfl) (pe_lst (pa_cons (pe_tup (pa_cons (pv 0) (pa_cons (pe_lst pa_nil) pa_nil))) pa_nil)))
      (pss_one (ps_while PassesOwn.never (pt_val pe_bl) (pss_cons (ps_asg (pe_ix (kIx (K := K)) (pv 1) (pe_un un_neg pe_int) (fun _ _ => rfl)) (kPgT (K := K) (n := 2) rfl (pgs_cons (pg_name (i := 2) sc_frozen.nd rfl (.inl rfl)) (pgs_cons (pg_name (i := 3) sc_frozen.nd rfl (.inl rfl)) pgs_nil))))
      (pss_one (ps_if (pt_cmpR op_lt (pe_callB (kLen (K := K)) (by rfl) Z.len_ PyProof.Rows.Boot.«len» (pa_cons (pv 3) pa_nil)) (pe_callB (kLen (K := K)) (by rfl) Z.len_ PyProof.Rows.Boot.«len» (pa_cons (pv 2) pa_nil)) (nomark _)) (pss_cons (ps_set (i := 4) sc_frozen.nd rfl (.inl rfl) (pe_ix (kIx (K := K)) (pv 2) (pe_callB (kLen (K := K)) (by rfl) Z.len_ PyProof.Rows.Boot.«len» (pa_cons (pv 3) pa_nil)) (fun _ _ => rfl)))
      (pss_one (ps_if (pt_val (pe_callB (kIsiT (K := K)) (by rfl) Z.isinstance_ PyProof.Rows.Boot.«isinstance» (pa_cons (pv 4) (pa_cons (pe_tup (pa_cons (pe_bltn (v := .ty "tuple") (by rfl) Z.tuple_ PyProof.Rows.Boot.«tuple» rfl) (pa_cons (pe_bltn (v := .ty "list") (by rfl) Z.list_ PyProof.Rows.Boot.«list» rfl) pa_nil))) pa_nil)))) (pss_one (ps_expr (pe_bm PySem.F.plainAttrs_list PySem.F.slot_list_append PySem.F.type_list_append mt_append (pv 1) (pa_cons (pe_tup (pa_cons (pv 4) (pa_cons (pe_lst pa_nil) pa_nil))) pa_nil)))) (pss_one (ps_expr (pe_bm PySem.F.plainAttrs_list PySem.F.slot_list_append PySem.F.type_list_append mt_append (pv 3) (pa_cons (pv 4) pa_nil))))))) (pss_cons (ps_expr (pe_bm0 PySem.F.plainAttrs_list PySem.F.slot_list_pop PySem.F.type_list_pop mt_pop (pv 1)))
      (pss_cons (ps_if (pt_not (pt_truth (pv 1) (by intro _; rfl))) (pss_one (ps_ret (pe_callTy (kTup (K := K)) (by rfl) Z.tuple_ PyProof.Rows.Boot.«tuple» (pa_cons (pv 3) pa_nil)))) pss_nil)
      (pss_cons (ps_set (i := 5) sc_frozen.nd rfl (.inl rfl) (pe_ix (kIx (K := K)) (pe_ix (kIx (K := K)) (pv 1) (pe_un un_neg pe_int) (fun _ _ => rfl)) pe_int (fun _ _ => rfl)))
      (pss_one (ps_expr (pe_bm PySem.F.plainAttrs_list PySem.F.slot_list_append PySem.F.type_list_append mt_append (pv 5) (pa_cons (pe_callTy (kTup (K := K)) (by rfl) Z.tuple_ PyProof.Rows.Boot.«tuple» (pa_cons (pv 3) pa_nil)) pa_nil)))))))))))))), ?_⟩
  refine ⟨_, rfl, by show 2 ≤ sizeLine; decide, fun tp htp => ?_⟩
  have e1 := Ex.new (o := .tup [.ty "tuple", .ty "list"]) htp
  dsimp only [tNil]
  refine isi_tl (dp_ex e1 d v hd) upd_same ⟨_, rfl, iteBN (fun n => ?_) fun n => ?_⟩
  · exact ⟨_, rfl, kq v _ e1 (dp_atom hd n)⟩
  obtain ⟨k0, a0, xs0, ds0, rfl, src0, dat0, fz0, wk0⟩ := dp_seq hd n
  refine ⟨_, rfl, Nat.zero_le _, fun b0 hb0 => ⟨by show 2 ≤ sizeLine; decide, fun p0 hp0 => ⟨by show 1 ≤ sizeLine; decide, fun S hS => ?_⟩⟩⟩
  have e2 := e1.trans (Ex.new (o := .lst []) hb0)
  have e3 := e2.trans (Ex.new (o := .tup [.ref a0, .ref b0]) hp0)
  have e4 := e3.trans (Ex.new (o := .lst [.ref p0]) hS)
  have bS : b0 ≠ S := ne_of_none ((Ex.new hp0) _ _ upd_same) hS
  refine ⟨fun m σ H' => ∃ (fs : List Frm1) (v2 v3 v4 v5 : Option V), σ = [some (.ref a0), some (.ref S), v2, v3, v4, v5] ∧ Stk K H H' S fs d ∧ m = rem fs ∧ m ≤ 100000,
    ⟨_, [⟨p0, a0, b0, k0, xs0, [], ds0⟩], _, _, _, _, rfl, ⟨fun f hf => ?_, by simp, by simp [Ne.symm bS], upd_same, e3.free hS, e4, .one fz0⟩, rfl, ?_⟩, ?_⟩
  · rw [List.mem_singleton.mp hf]
    exact ⟨(Ex.new hS) _ _ upd_same, src0, dat0, (Ex.new hS) _ _ ((Ex.new hp0) _ _ upd_same), e1.free hb0, .nil, Nat.zero_le _, by show wkAll ds0 ≤ 100000; omega⟩
  · show 1 + wkAll ds0 + 0 ≤ 100000
    omega
  rintro m σ H' ⟨fs, v2, v3, v4, v5, rfl, stk, rfl, hm⟩
  refine ⟨_, rfl, iteT ⟨fun σ' H' => ∃ m', m' < rem fs ∧ _, fun _ _ h => h, ?_⟩⟩
  obtain ⟨g, r, rfl⟩ : ∃ g r, fs = g :: r := by
    cases stk.lk with
    | one h => exact ⟨_, _, rfl⟩
    | cons h1 h2 h3 => exact ⟨_, _, rfl⟩
  have G := stk.all g (by simp)
  have hS' := stk.st
  rw [List.reverse_cons, List.map_append] at hS'
  refine ⟨_, rfl, 1, rfl, ixl hS' atI_last ⟨g.p, _, rfl, SqT.of G.pair, rfl, _, _, rfl, _, _, rfl, rfl, ?_⟩⟩
  have gsrc := stk.ex.seq G.src
  refine ⟨_, rfl, g.b, g.us, rfl, .inl (SqL.of G.blt), _, rfl, g.a, g.xs, rfl, gsrc.or, _, _, rfl, rfl, _, rfl, iteD (fun c => ?_) fun c => ?_⟩
  · have hlt : g.us.length < g.ds.length := by have := dpAll_len G.dat; omega
    obtain ⟨d1, hd1⟩ : ∃ d1, g.ds[g.us.length]? = some d1 := ⟨_, List.getElem?_eq_getElem hlt⟩
    obtain ⟨x1, hx1, dx1⟩ := dpAll_at G.dat hd1
    obtain ⟨hw1, hw2⟩ := wk_at hd1
    refine ⟨_, rfl, _, rfl, g.b, g.us, rfl, .inl (SqL.of G.blt), ixk gsrc (atI_nat hx1) ?_⟩
    refine ⟨_, rfl, by show 2 ≤ sizeLine; decide, fun tq htq => ?_⟩
    have E1 := Ex.new (o := .tup [.ty "tuple", .ty "list"]) htq
    dsimp only [tNil]
    refine isi_tl (dp_ex (stk.ex.trans E1) d1 x1 dx1) upd_same ⟨_, rfl, iteB (fun n1 => ?_) fun n1 => ?_⟩
    · obtain ⟨k1, a1, xs1, ds1, rfl, src1, dat1, fz1, wk1⟩ := dp_seq dx1 n1
      refine ⟨_, rfl, .inl ⟨rfl, _, SqL.of (E1 _ _ stk.st)⟩, _, rfl, Nat.zero_le _, fun b1 hb1 => ⟨by show 2 ≤ sizeLine; decide, fun p1 hp1 => ?_⟩⟩
      have E2 := E1.trans (Ex.new (o := .lst []) hb1)
      have E3 := E2.trans (Ex.new (o := .tup [.ref a1, .ref b1]) hp1)
      have hS3 := E3 _ _ stk.st
      have hfl := rem_len (g :: r)
      refine ⟨S, _, _, rfl, rfl, hS3, by rw [List.length_map, List.length_reverse, sizeLine_eq]; omega, ?_⟩
      have b1S : b1 ≠ S := fun e => by have z := E1 _ _ stk.st; rw [← e, hb1] at z; cases z
      have b1f : ∀ f ∈ g :: r, b1 ≠ f.b := fun f hf e => by have z := E1 _ _ (stk.all f hf).blt; rw [← e, hb1] at z; cases z
      refine ⟨1 + wkAll ds1 + (1 + wkAll (g.ds.drop (g.us.length + 1)) + remS r), ?_, ⟨p1, a1, b1, k1, xs1, [], ds1⟩ :: g :: r, _, _, _, _, rfl, ⟨fun f hf => ?_, ?_, ?_, ?_, stk.new, (stk.ex.trans E3).up stk.new, .cons hd1 fz1 stk.lk⟩, rfl, ?_⟩
      · show _ < 1 + wkAll (g.ds.drop g.us.length) + remS r
        omega
      · rcases List.mem_cons.mp hf with e | hf
        · rw [e]
          exact ⟨tk_put hS3 _ _ upd_same, src1, dat1, (upd_ne b1S).trans ((Ex.new hp1) _ _ upd_same), (stk.ex.trans E1).free hb1, .nil, Nat.zero_le _, by show wkAll ds1 ≤ 100000; have := G.sz; omega⟩
        · exact ((stk.all f hf).ext E3).put hS3 fun e => stk.sb (List.mem_map.mpr ⟨f, hf, e.symm⟩)
      · rw [List.map_cons, List.nodup_cons]
        refine ⟨fun h => ?_, stk.nod⟩
        obtain ⟨f, hf, e⟩ := List.mem_map.mp h
        exact b1f f hf e.symm
      · rw [List.map_cons, List.mem_cons]
        rintro (e | h)
        · exact b1S e.symm
        · exact stk.sb h
      · refine upd_same.trans ?_
        simp
      · have := hm
        change 1 + wkAll (g.ds.drop g.us.length) + remS r ≤ 100000 at this
        omega
    · have gb := E1 _ _ G.blt
      refine ⟨_, rfl, .inl ⟨rfl, _, SqL.of gb⟩, _, rfl, g.b, _, _, rfl, rfl, gb, by have := wkAll_len g.ds; have := G.sz; rw [sizeLine_eq]; omega, ?_⟩
      have nod := stk.nod
      rw [List.map_cons, List.nodup_cons] at nod
      have Sg : S ≠ g.b := fun e => stk.sb (by rw [e]; simp)
      have hl1 : (g.us ++ [x1]).length = g.us.length + 1 := by simp
      have hp1 : 1 ≤ wk d1 := by cases d1 <;> simp only [wk] <;> omega
      refine ⟨1 + wkAll (g.ds.drop (g.us ++ [x1]).length) + remS r, ?_, { g with us := g.us ++ [x1] } :: r, _, _, _, _, rfl, ⟨fun f hf => ?_, stk.nod, stk.sb, ?_, stk.new, (stk.ex.trans E1).up G.new, stk.lk.top rfl⟩, rfl, ?_⟩
      · show _ < 1 + wkAll (g.ds.drop g.us.length) + remS r
        rw [hl1]
        omega
      · rcases List.mem_cons.mp hf with e | hf
        · rw [e]
          exact (G.ext E1).more hd1 (dp_atom dx1 n1)
        · exact ((stk.all f (by simp [hf])).ext E1).put gb fun e => nod.1 (List.mem_map.mpr ⟨f, hf, e.symm⟩)
      · refine (upd_ne Sg).trans ?_
        have := E1 _ _ stk.st
        rw [List.reverse_cons, List.map_append] at this ⊢
        exact this
      · have := hm
        change 1 + wkAll (g.ds.drop g.us.length) + remS r ≤ 100000 at this
        rw [hl1]
        omega
  · have hge : g.us.length = g.ds.length := by have := dpAll_len G.dat; have := G.le; omega
    have okg := G.ok
    rw [hge, List.take_length] at okg
    refine ⟨_, rfl, .inl ⟨rfl, _, SqL.of hS'⟩, S, _, V.ref g.p, rfl, rfl, hS', by simp, ?_⟩
    have ed : ((r.reverse.map fun f => V.ref f.p) ++ [g].map fun f => V.ref f.p).dropLast = r.reverse.map fun f => V.ref f.p := List.dropLast_concat
    rw [ed]
    have gS : g.b ≠ S := fun e => stk.sb (by rw [← e]; simp)
    have gb : upd H' S (.lst (r.reverse.map fun f => V.ref f.p)) g.b = some (.lst g.us) := (upd_ne gS).trans G.blt
    have ok1 := TpAll.mono (tk_put hS' (o := .lst (r.reverse.map fun f => V.ref f.p))) _ _ okg
    have ex1 := stk.ex.up (o := .lst (r.reverse.map fun f => V.ref f.p)) stk.new
    refine ⟨_, rfl, _, .inl ⟨_, SqL.of upd_same, rfl⟩, ?_⟩
    cases r with
    | nil =>
      refine iteT ⟨_, rfl, g.b, g.us, rfl, .inl ⟨SqL.of gb, fun t ht => ?_⟩⟩
      cases stk.lk with
      | one h =>
        refine kq (.ref t) _ (ex1.trans (Ex.new ht)) ?_
        rw [h]
        exact .tup upd_same (TpAll.mono (fun _ _ h => (Ex.new ht) _ _ h) _ _ ok1)
    | cons f r =>
      have F := stk.all f (by simp)
      have e1 : (!(!((f :: r).reverse.map fun f => V.ref f.p).isEmpty)) = false := by simp
      refine (show (if (!(!((f :: r).reverse.map fun f => V.ref f.p).isEmpty)) = true then _ else _) from ?_)
      rw [e1]
      refine iteF ?_
      have sbf : S ∉ (f :: r).map Frm1.b := fun h => stk.sb (by rw [List.map_cons]; exact List.mem_cons_of_mem _ h)
      have Sf : S ≠ f.b := fun e => sbf (by rw [e]; simp)
      have nod := stk.nod
      rw [List.map_cons, List.nodup_cons] at nod
      have nod2 := nod.2
      rw [List.map_cons, List.nodup_cons] at nod2
      have hS2 : upd H' S (.lst ((f :: r).reverse.map fun f => V.ref f.p)) S = some (.lst ((r.reverse.map fun f => V.ref f.p) ++ [V.ref f.p])) := by
        refine upd_same.trans ?_
        simp
      have F1 := F.put (o := .lst ((f :: r).reverse.map fun f => V.ref f.p)) hS' Sf
      refine ⟨_, rfl, 1, rfl, ixl hS2 atI_last (ixt F1.pair (atI_nat (j := 1) rfl) ?_)⟩
      refine ⟨_, rfl, .inl ⟨rfl, _, SqL.of F1.blt⟩, _, rfl, g.b, g.us, rfl, .inl ⟨SqL.of gb, fun t ht => ?_⟩⟩
      have E2 := Ex.new (o := .tup g.us) ht
      have F2 := F1.ext E2
      have hfl := wkAll_len f.ds
      have hfz := F.sz
      have hfle := F.le
      refine ⟨f.b, _, _, rfl, rfl, F2.blt, by rw [sizeLine_eq]; omega, ?_⟩
      cases stk.lk with
      | cons h1 h2 h3 =>
        have hl1 : (f.us ++ [V.ref t]).length = f.us.length + 1 := by simp
        refine ⟨1 + wkAll (f.ds.drop (f.us ++ [V.ref t]).length) + remS r, ?_, { f with us := f.us ++ [V.ref t] } :: r, _, _, _, _, rfl, ⟨fun f2 hf => ?_, nod.2, sbf, ?_, stk.new, (ex1.trans E2).up F.new, h3.top rfl⟩, rfl, ?_⟩
        · show _ < 1 + wkAll (g.ds.drop g.us.length) + (1 + wkAll (f.ds.drop (f.us.length + 1)) + remS r)
          rw [hl1]
          omega
        · rcases List.mem_cons.mp hf with e | hf
          · rw [e]
            refine F2.more h1 ?_
            rw [h2]
            exact .tup upd_same (TpAll.mono (fun _ _ h => E2 _ _ h) _ _ ok1)
          · exact (((stk.all f2 (by simp [hf])).put hS' fun e => sbf (by rw [e]; exact List.mem_map.mpr ⟨f2, by simp [hf], rfl⟩)).ext E2).put F2.blt fun e => nod2.1 (List.mem_map.mpr ⟨f2, hf, e.symm⟩)
        · refine (upd_ne Sf).trans ((E2 _ _ upd_same).trans ?_)
          simp
        · have := hm
          change 1 + wkAll (g.ds.drop g.us.length) + (1 + wkAll (f.ds.drop (f.us.length + 1)) + remS r) ≤ 100000 at this
          rw [hl1]
          omega
abbrev in_QuerySyntax : Stmt := inClass (top 4) 0
theorem ns_QuerySyntax : NdefX.NScope ["self", "position", "__class__"] ["self", "position"] ["__class__"] (defScope in_QuerySyntax) := NdefX.nscope_by (by decide +kernel)
abbrev nf_QuerySyntax (cc cda : Addr) : NdefX.NF := nfOf "QuerySyntax.__init__" (defArgs in_QuerySyntax) (defBody in_QuerySyntax) (defScope in_QuerySyntax) cc cda
theorem ok_i_QuerySyntax {C f c k : Addr} {fd : FuncData} (T : OwnC P K mg "QuerySyntax" nf_QuerySyntax "QuerySyntax.__init__" C f c k fd ["self", "position"]) {f_frozen : Addr} {fd_frozen : FuncData} (D_frozen : DefK K mg "frozen" st_frozen ["thing"] f_frozen fd_frozen) (G_frozen : FnOk P w K mg base CX0 1 f_frozen fd_frozen ["thing"] (sp_frozen K)) (hno : ∀ y ∈ (["position"] : List Str), PySem.W.findIn K (.ref C) y = some none) : FnOk P w K mg base CX0 2 f fd ["self", "position"] (sp_ini C ["position"] K) := by
  obtain ⟨oc, od, doc, pm, ct, osl, rfl, lf⟩ := T.fn
  refine fn_err (k := 1) T.err (N := ["self", "position", "__class__"]) (rest := (defBody in_QuerySyntax).tail) ns_QuerySyntax lf T.code ⟨_, rfl, rfl⟩ rfl rfl (pl := _) (fun L => rfl) (fun vs H Q E h => ?_) (fun vs H Q E h => ?_) (fun A outer s H vs Q E hr h => ?_)
  · exact ini_len h
  · exact ini_self h
  · refine ⟨_, (pss_one (ps_ost (pv 0) (pe_call G_frozen (hr.mono (by decide)) rfl D_frozen.mg D_frozen.fn.kp D_frozen.bd .nil pass0 (pa_cons (pv 1) pa_nil)))), ini1 T.err.oex hno h⟩
end
end K49
set_option maxHeartbeats 4000000
namespace K49
open PySem PySem.Spec PyProof.Rows L2 Hg
section
variable {P : Program} {w : World} {K : PySem.W.Frag} {mg : Str → Option Value} {base : Heap}
open Tk
theorem ok_l_draw {f : Addr} {fd : FuncData} (F : DefK K mg "_law_draw" st_l_draw ["_law_stream", "_law_many"] f fd) (Z : Zs mg) (CG : CGs K mg)  :
    FnOk P w K mg base CX0 1 f fd ["_law_stream", "_law_many"] (sp_l_draw K) := by
  refine F.fn.ok sc_l_draw (fun vs H Q E h => by first | exact listedM_len h | (obtain ⟨rfl, _⟩ := h; rfl) | (obtain ⟨_, rfl, _⟩ := h; rfl) | (obtain ⟨_, _, rfl, _⟩ := h; rfl) | (obtain ⟨_, _, _, rfl, _⟩ := h; rfl) | (obtain ⟨_, _, _, _, rfl, _⟩ := h; rfl) | (obtain ⟨_, _, _, _, _, rfl, _⟩ := h; rfl) | (obtain ⟨_, _, _, _, _, _, rfl, _⟩ := h; rfl) | (obtain ⟨_, _, _, _, _, _, _, rfl, _⟩ := h; rfl) | (obtain ⟨_, _, _, _, _, _, _, _, rfl, _⟩ := h; rfl) | (obtain ⟨_, _, _, _, _, _, _, _, _, rfl, _⟩ := h; rfl) | (obtain ⟨_, _, _, _, _, _, _, _, _, _, rfl, _⟩ := h; rfl) | (obtain ⟨_, _, _, _, _, _, _, _, _, _, _, rfl, _⟩ := h; rfl) | (obtain ⟨_, _, _, _, _, _, _, _, _, _, _, _, rfl, _⟩ := h; rfl) | (obtain ⟨_, _, _, _, _, _, _, _, _, _, _, _, _, rfl, _⟩ := h; rfl) | (obtain ⟨_, _, _, _, _, _, _, _, _, _, _, _, _, _, rfl, _⟩ := h; rfl) | (obtain ⟨_, _, _, _, _, _, _, _, _, _, _, _, _, _, _, rfl, _⟩ := h; rfl) | (obtain ⟨_, _, _, _, _, _, _, _, _, _, _, _, _, _, _, _, rfl, _⟩ := h; rfl) | (obtain ⟨_, _, _, _, _, _, _, _, _, _, _, _, _, _, _, _, _, rfl, _⟩ := h; rfl) | (obtain ⟨_, _, _, _, _, _, _, _, _, _, _, _, _, _, _, _, _, _, rfl, _⟩ := h; rfl) | (obtain ⟨_, _, _, _, _, _, _, _, _, _, _, _, _, _, _, _, _, _, _, rfl, _⟩ := h; rfl) | (obtain ⟨_, _, _, _, _, _, _, _, _, _, _, _, _, _, _, _, _, _, _, _, rfl, _⟩ := h; rfl) | (obtain ⟨_, _, _, _, _, _, _, _, _, _, _, _, _, _, _, _, _, _, _, _, _, rfl, _⟩ := h; rfl) | (obtain ⟨_, _, _, _, _, _, _, _, _, _, _, _, _, _, _, _, _, _, _, _, _, _, rfl, _⟩ := h; rfl) | (obtain ⟨_, _, _, _, _, _, _, _, _, _, _, _, _, _, _, _, _, _, _, _, _, _, _, rfl, _⟩ := h; rfl)) (fun cdv A outer s H vs Q E hr h => ?_)
  obtain ⟨s0, q, B, G, m, rfl, O, hB, hm0, hm1, kq⟩ := h
  obtain ⟨ne, n, c, k, ns, e1, e2, n0, c0, c1, k0, k1⟩ := O.str
  refine ⟨_, (pss_cons (ps_asg (pe_op (kAdd (K := K)) (pe_ix (kIx (K := K)) (pv 0) pe_int (fun _ _ => rfl)) pe_int) (pg_sub (pv 0) pe_int set_list))
      (pss_cons (ps_if (PW.pt (pw_and (pt_cmpR (kEq (K := K) hr.units) (pe_ix (kIx (K := K)) (pv 0) pe_int (fun _ _ => rfl)) pe_int (nomark _)) (pw_and1 (pt_cmpR (kNe (K := K) hr.units) (pe_ix (kIx (K := K)) (pv 0) pe_int (fun _ _ => rfl)) (pe_lst pa_nil) (nomark _))))) (pss_cons (ps_asg (pe_bm PySem.F.plainAttrs_list PySem.F.slot_list_pop PySem.F.type_list_pop mt_popAt (pe_ix (kIx (K := K)) (pv 0) pe_int (fun _ _ => rfl)) (pa_cons pe_int pa_nil)) (pg_sub (pv 0) pe_int set_list))
      (pss_one (ps_if (pt_cmpR op_lt (pe_ix (kIx (K := K)) (pv 0) pe_int (fun _ _ => rfl)) (pe_op op_pow pe_int pe_int) (nomark _)) (pss_cons (ps_asg (pe_op oMod (pe_op (kAdd (K := K)) (pe_op oMul (pe_ix (kIx (K := K)) (pv 0) pe_int (fun _ _ => rfl)) pe_int) (pe_ix (kIx (K := K)) (pv 0) pe_int (fun _ _ => rfl))) pe_int) (pg_sub (pv 0) pe_int set_list))
      (pss_one (ps_asg pe_int (pg_sub (pv 0) pe_int set_list)))) pss_nil))) pss_nil)
      (pss_cons (ps_if (pt_cmpR op_gt (pe_ix (kIx (K := K)) (pv 0) pe_int (fun _ _ => rfl)) pe_int (nomark _)) (pss_cons (ps_set (i := 2) sc_l_draw.nd rfl (.inl rfl) (pe_op oMod (pe_ix (kIx (K := K)) (pv 0) pe_int (fun _ _ => rfl)) (pv 1)))
      (pss_cons (ps_asg (pe_op oDiv (pe_ix (kIx (K := K)) (pv 0) pe_int (fun _ _ => rfl)) (pv 1)) (pg_sub (pv 0) pe_int set_list))
      (pss_one (ps_ret (pv 2))))) pss_nil)
      (pss_cons (ps_set (i := 2) sc_l_draw.nd rfl (.inl rfl) (pe_op oMod (pe_op op_pow (pe_op (kAdd (K := K)) (pe_op (kAdd (K := K)) (pe_ix (kIx (K := K)) (pv 0) pe_int (fun _ _ => rfl)) (pe_op oMul pe_int (pe_ix (kIx (K := K)) (pv 0) pe_int (fun _ _ => rfl)))) pe_int) pe_int) pe_int))
      (pss_one (ps_ret (pe_op oMod (pe_op oMod (pe_op oMul (pe_op (kAdd (K := K)) (pv 2) (pe_ix (kIx (K := K)) (pv 0) pe_int (fun _ _ => rfl))) pe_int) pe_int) (pv 1)))))))), ?_⟩
  -- stream[2] = stream[2] + 1
  refine ⟨_, rfl, ixl e1 rfl (.inl ⟨c, 1, rfl, rfl, _, rfl, s0, _, 2, 2, rfl, rfl, e1, rfl, ?_⟩)⟩
  have O1 : Ov s0 q (B + 1) G (upd H s0 (.lst [.ref q, .int n, .int (c + 1), .int k])) := O.setS e2 n0 (by omega) (by omega) k0 k1
  dsimp only
  refine cut (fun σ' H' => σ' = [some (.ref s0), some (.int m), none] ∧ Ov s0 q (B + 1) G H') ?_ ?_
  · -- what is left of the def
    rintro σ' H' ⟨rfl, O'⟩
    obtain ⟨_, n', c', k', ns', f1, f2, n0', c0', c1', k0', k1'⟩ := O'.str
    refine ⟨_, rfl, ixl f1 rfl ⟨n', 0, rfl, rfl, _, rfl, ?_⟩⟩
    by_cases hn : 0 < n'
    · rw [decide_eq_true hn]
      refine iteT ⟨_, rfl, ixl f1 rfl ⟨_, rfl, n', m, rfl, rfl, (by omega), ?_⟩⟩
      refine ⟨_, rfl, ixl f1 rfl ⟨_, rfl, n', m, rfl, rfl, ⟨by omega, ?_⟩, _, rfl, s0, _, 1, 1, rfl, rfl, f1, rfl, _, rfl, ?_⟩⟩
      · exact Nat.lt_of_lt_of_le (PySem.Flt.log2_lt_of (k := 8000) (by decide) hm1) (by decide)
      · have fm : n'.fmod m = n' % m := Int.fmod_eq_emod_of_nonneg n' (by omega)
        have fd : n'.fdiv m = n' / m := Int.fdiv_eq_ediv_of_nonneg n' (by omega)
        show Q (.int (n'.fmod m)) (upd H' s0 (.lst [.ref q, .int (n'.fdiv m), .int c', .int k']))
        rw [fm, fd]
        refine kq _ _ (Int.emod_nonneg _ (by omega)) (Int.emod_lt_of_pos _ hm0) ?_
        exact O'.setS f2 (Int.ediv_nonneg n0' (by omega)) c0' c1' k0' k1'
    · rw [decide_eq_false hn]
      refine iteF ⟨_, rfl, ixl f1 rfl ⟨_, rfl, ixl f1 rfl ⟨7919, c', rfl, rfl, ?_, .inl ⟨k', 7919 * c', rfl, rfl, .inl ⟨_, 104729, rfl, rfl, _, 5, rfl, rfl, ⟨by decide, by decide, ?_⟩, _, 2147483647, rfl, rfl, (show (2147483647 : Int) ≠ 0 by decide), ?_⟩⟩⟩⟩⟩
      · exact wide_mul (a := 20) (b := 40) (by decide) (by omega) (by decide) (by decide) (by decide)
      · omega
      · generalize hX : (k' + 7919 * c' + 104729) ^ (5 : Int).toNat = X
        have hx0 : 0 ≤ X.fmod 2147483647 ∧ X.fmod 2147483647 < 2147483647 := by
          rw [Int.fmod_eq_emod_of_nonneg X (by decide)]
          exact ⟨Int.emod_nonneg _ (by decide), Int.emod_lt_of_pos _ (by decide)⟩
        have hmu : CMulW (X.fmod 2147483647 + c') 48271 := by
          generalize X.fmod 2147483647 = Y at hx0
          exact wide_mul (a := 40) (b := 20) (by omega) (by decide) (by decide) (by decide) (by decide)
        refine ⟨_, rfl, _, rfl, ixl f1 rfl (.inl ⟨_, c', rfl, rfl, _, 48271, rfl, rfl, hmu, _, 2147483629, rfl, rfl, (show (2147483629 : Int) ≠ 0 by decide), _, rfl, _, m, rfl, rfl, (show m ≠ 0 by omega), ?_⟩)⟩
        show Q (.int ((((X.fmod 2147483647 + c') * 48271).fmod 2147483629).fmod m)) _
        generalize ((X.fmod 2147483647 + c') * 48271).fmod 2147483629 = W
        have fm : W.fmod m = W % m := Int.fmod_eq_emod_of_nonneg W (by omega)
        rw [fm]
        exact kq _ _ (Int.emod_nonneg _ (by omega)) (Int.emod_lt_of_pos _ hm0) O'
  · intro N hN
    have done : ∀ H', Ov s0 q (B + 1) G H' → N [some (.ref s0), some (.int m), none] H' := fun H' o => hN _ _ ⟨rfl, o⟩
    obtain ⟨ne1, n1, c2, k2, ns1, f1, f2, g0, g1, g2, g3, g4⟩ := O1.str
    refine ⟨_, rfl, ixl f1 rfl (.inl ⟨rfl, _, rfl, ?_⟩)⟩
    by_cases hn : n1 = 0
    · have d1 : decide (V.int n1 = V.int 0) = true := by simp [hn]
      rw [d1]
      refine iteT ⟨_, rfl, ixl f1 rfl ⟨Nat.zero_le _, fun l hl => ?_⟩⟩
      have nl : q ≠ l := ne_of_none f2 hl
      have nsl : s0 ≠ l := ne_of_none f1 hl
      have O2 := O1.drop (o := .lst []) hl
      refine .inr ⟨_, _, dp_l (SqL.of ((upd_ne nl).trans f2)), .lst (SqL.of upd_same) .nil, shaped_l _, shaped_l [], _, rfl, ?_⟩
      rw [eqv_nil]
      cases ns1 with
      | nil => exact iteF (done _ O2)
      | cons z zs =>
        refine iteT ?_
        have f1' : upd (upd H s0 (.lst [.ref q, .int n, .int (c + 1), .int k])) l (.lst []) s0 = some (.lst [.ref q, .int n1, .int c2, .int k2]) := (upd_ne nsl).trans f1
        have f2' : upd (upd H s0 (.lst [.ref q, .int n, .int (c + 1), .int k])) l (.lst []) q = some (.lst ((z :: zs).map V.int)) := (upd_ne nl).trans f2
        -- stream[1] = stream[0].pop(0)
        refine ⟨_, rfl, ixl f1' rfl ⟨.inl ⟨rfl, _, SqL.of f2'⟩, q, _, 0, 0, .int z, rfl, rfl, f2', by decide, by decide, (by show seqIndex? 0 ((zs.map V.int).length + 1) = some 0; exact seq0 _), rfl, ?_⟩⟩
        have O3 := O2.setQ zs
        have g1' := (upd_ne (H := upd (upd H s0 (.lst [.ref q, .int n, .int (c + 1), .int k])) l (.lst [])) (o := .lst (zs.map V.int)) ne).trans f1'
        have g2' : upd (upd (upd H s0 (.lst [.ref q, .int n, .int (c + 1), .int k])) l (.lst [])) q (.lst (zs.map V.int)) q = some (.lst (zs.map V.int)) := upd_same
        refine ⟨_, rfl, s0, _, 1, 1, rfl, rfl, g1', rfl, ?_⟩
        have h1' := upd_same (H := upd (upd (upd H s0 (.lst [.ref q, .int n, .int (c + 1), .int k])) l (.lst [])) q (.lst (zs.map V.int))) (a := s0) (o := .lst [.ref q, .int z, .int c2, .int k2])
        refine ⟨_, rfl, ixl h1' rfl ⟨10, 18, rfl, rfl, ⟨by decide, by decide, by decide⟩, z, _, rfl, rfl, _, rfl, ?_⟩⟩
        have p18 : (10 : Int) ^ (18 : Int).toNat = 1000000000000000000 := by decide
        rw [p18]
        by_cases hz : z < 1000000000000000000
        · rw [decide_eq_true hz]
          refine iteT ⟨_, rfl, ixl h1' rfl ⟨k2, 39373, rfl, rfl, ?_, _, rfl, ixl h1' rfl (.inl ⟨k2 * 39373, z, rfl, rfl, k2 * 39373 + z, 2147483647, rfl, rfl, (show (2147483647 : Int) ≠ 0 by decide), _, rfl, s0, _, 3, 3, rfl, rfl, h1', rfl, ?_⟩)⟩⟩
          · exact wide_mul (a := 40) (b := 20) (by omega) (by decide) (by decide) (by decide) (by decide)
          · refine ⟨_, rfl, s0, _, 1, 1, rfl, rfl, upd_same, rfl, ?_⟩
            have b0 : 0 ≤ (k2 * 39373 + z).fmod 2147483647 ∧ (k2 * 39373 + z).fmod 2147483647 < 2147483647 := by
              rw [Int.fmod_eq_emod_of_nonneg _ (by decide)]
              exact ⟨Int.emod_nonneg _ (by decide), Int.emod_lt_of_pos _ (by decide)⟩
            refine done _ ?_
            rw [upd_upd, upd_upd]
            exact O3.setS g2' (Int.le_refl 0) g1 g2 b0.1 b0.2
        · rw [decide_eq_false hz]
          refine iteF (done _ ?_)
          exact O3.setS g2' (by omega) g1 g2 g3 g4
    · have d1 : decide (V.int n1 = V.int 0) = false := by simp [hn]
      rw [d1]
      exact iteF (done _ O1)
theorem ok__run_end {f : Addr} {fd : FuncData} (F : DefK K mg "_run_end" st__run_end ["text", "start", "characters"] f fd) (Z : Zs mg) (CG : CGs K mg)  :
    FnOk P w K mg base CX0 1 f fd ["text", "start", "characters"] (sp__run_end K) := by
  refine F.fn.ok sc__run_end (fun vs H Q E h => by first | exact listedM_len h | (obtain ⟨rfl, _⟩ := h; rfl) | (obtain ⟨_, rfl, _⟩ := h; rfl) | (obtain ⟨_, _, rfl, _⟩ := h; rfl) | (obtain ⟨_, _, _, rfl, _⟩ := h; rfl) | (obtain ⟨_, _, _, _, rfl, _⟩ := h; rfl) | (obtain ⟨_, _, _, _, _, rfl, _⟩ := h; rfl) | (obtain ⟨_, _, _, _, _, _, rfl, _⟩ := h; rfl) | (obtain ⟨_, _, _, _, _, _, _, rfl, _⟩ := h; rfl) | (obtain ⟨_, _, _, _, _, _, _, _, rfl, _⟩ := h; rfl) | (obtain ⟨_, _, _, _, _, _, _, _, _, rfl, _⟩ := h; rfl) | (obtain ⟨_, _, _, _, _, _, _, _, _, _, rfl, _⟩ := h; rfl) | (obtain ⟨_, _, _, _, _, _, _, _, _, _, _, rfl, _⟩ := h; rfl) | (obtain ⟨_, _, _, _, _, _, _, _, _, _, _, _, rfl, _⟩ := h; rfl) | (obtain ⟨_, _, _, _, _, _, _, _, _, _, _, _, _, rfl, _⟩ := h; rfl) | (obtain ⟨_, _, _, _, _, _, _, _, _, _, _, _, _, _, rfl, _⟩ := h; rfl) | (obtain ⟨_, _, _, _, _, _, _, _, _, _, _, _, _, _, _, rfl, _⟩ := h; rfl) | (obtain ⟨_, _, _, _, _, _, _, _, _, _, _, _, _, _, _, _, rfl, _⟩ := h; rfl) | (obtain ⟨_, _, _, _, _, _, _, _, _, _, _, _, _, _, _, _, _, rfl, _⟩ := h; rfl) | (obtain ⟨_, _, _, _, _, _, _, _, _, _, _, _, _, _, _, _, _, _, rfl, _⟩ := h; rfl) | (obtain ⟨_, _, _, _, _, _, _, _, _, _, _, _, _, _, _, _, _, _, _, rfl, _⟩ := h; rfl) | (obtain ⟨_, _, _, _, _, _, _, _, _, _, _, _, _, _, _, _, _, _, _, _, rfl, _⟩ := h; rfl) | (obtain ⟨_, _, _, _, _, _, _, _, _, _, _, _, _, _, _, _, _, _, _, _, _, rfl, _⟩ := h; rfl) | (obtain ⟨_, _, _, _, _, _, _, _, _, _, _, _, _, _, _, _, _, _, _, _, _, _, rfl, _⟩ := h; rfl) | (obtain ⟨_, _, _, _, _, _, _, _, _, _, _, _, _, _, _, _, _, _, _, _, _, _, _, rfl, _⟩ := h; rfl)) (fun cdv A outer s H vs Q E hr h => ?_)
  obtain ⟨T, cs, i, rfl, hl, hi, kq⟩ := h
  refine ⟨_, (pss_cons (ps_set (i := 3) sc__run_end.nd rfl (.inl rfl) (pv 1))
      (pss_cons (ps_while PassesOwn.never (PW.pt (pw_and (pt_cmpR op_lt (pv 3) (pe_callB call_len_str (by rfl) Z.len_ PyProof.Rows.Boot.«len» (pa_cons (pv 0) pa_nil)) (nomark _)) (pw_and1 (pt_cmpR op_in_sign (pe_ix (kIx (K := K)) (pv 0) (pv 3) (fun _ _ => rfl)) (pv 2) (by rfl))))) (pss_one (ps_aug (i := 3) sc__run_end.nd rfl (.inl rfl) pe_int ip_add)))
      (pss_one (ps_ret (pv 3))))), ?_⟩
  have hd : (T.drop i).length = T.length - i := List.length_drop
  have hrl := runN_le cs (T.drop i)
  refine ⟨_, rfl, fun m σ H' => ∃ j : Nat, σ = [some (.str (tx T)), some (.int i), some (.str (tx cs)), some (.int ((i + j : Nat) : Int))] ∧ j ≤ runN cs (T.drop i) ∧ H' = H ∧ m + (i + j) = T.length, ⟨T.length - i, 0, rfl, Nat.zero_le _, rfl, by omega⟩, ?_⟩
  rintro m σ H' ⟨j, rfl, hj, rfl, hm⟩
  refine ⟨_, rfl, _, rfl, _, rfl, by rw [tx_len, sizeLine_eq]; omega, _, _, rfl, rfl, _, rfl, iteD (fun c1 => ?_) fun c1 => ?_⟩
  · rw [tx_len] at c1
    have hij : i + j < T.length := by omega
    obtain ⟨ch, hg⟩ : ∃ ch, T[i + j]? = some ch := ⟨T[i + j], by simp [hij]⟩
    have hg2 : (T.drop i)[j]? = some ch := by rw [List.getElem?_drop]; exact hg
    refine ⟨_, rfl, _, rfl, ixs hg (by omega) ⟨_, rfl, _, _, rfl, rfl, _, rfl, iteD (fun c2 => ?_) fun c2 => ?_⟩⟩
    · have c2 : ch ∈ cs := by simpa using c2
      refine ⟨fun σ' H' => ∃ m', m' < m ∧ _, fun _ _ h => h, ?_⟩
      refine ⟨_, rfl, _, _, rfl, rfl, m - 1, by omega, j + 1, rfl, ?_, rfl, by omega⟩
      apply Classical.byContradiction
      intro h
      have e : j = runN cs (T.drop i) := by omega
      rw [e] at hg2
      exact runN_out hg2 c2
    · have c2 : ch ∉ cs := by simpa using c2
      have e : j = runN cs (T.drop i) := by
        apply Classical.byContradiction
        intro h
        exact c2 (runN_in (by omega) hg2)
      rw [← e] at kq
      exact ⟨_, rfl, kq⟩
  · rw [tx_len] at c1
    have e : j = runN cs (T.drop i) := by omega
    rw [← e] at kq
    exact iteF ⟨_, rfl, kq⟩
theorem ok_is_word {f : Addr} {fd : FuncData} (F : DefK K mg "is_word" st_is_word ["thing"] f fd) (Z : Zs mg) (CG : CGs K mg)  :
    FnOk P w K mg base CX0 1 f fd ["thing"] (sp_is_word K) := by
  refine F.fn.ok sc_is_word (fun vs H Q E h => by first | exact listedM_len h | (obtain ⟨rfl, _⟩ := h; rfl) | (obtain ⟨_, rfl, _⟩ := h; rfl) | (obtain ⟨_, _, rfl, _⟩ := h; rfl) | (obtain ⟨_, _, _, rfl, _⟩ := h; rfl) | (obtain ⟨_, _, _, _, rfl, _⟩ := h; rfl) | (obtain ⟨_, _, _, _, _, rfl, _⟩ := h; rfl) | (obtain ⟨_, _, _, _, _, _, rfl, _⟩ := h; rfl) | (obtain ⟨_, _, _, _, _, _, _, rfl, _⟩ := h; rfl) | (obtain ⟨_, _, _, _, _, _, _, _, rfl, _⟩ := h; rfl) | (obtain ⟨_, _, _, _, _, _, _, _, _, rfl, _⟩ := h; rfl) | (obtain ⟨_, _, _, _, _, _, _, _, _, _, rfl, _⟩ := h; rfl) | (obtain ⟨_, _, _, _, _, _, _, _, _, _, _, rfl, _⟩ := h; rfl) | (obtain ⟨_, _, _, _, _, _, _, _, _, _, _, _, rfl, _⟩ := h; rfl) | (obtain ⟨_, _, _, _, _, _, _, _, _, _, _, _, _, rfl, _⟩ := h; rfl) | (obtain ⟨_, _, _, _, _, _, _, _, _, _, _, _, _, _, rfl, _⟩ := h; rfl) | (obtain ⟨_, _, _, _, _, _, _, _, _, _, _, _, _, _, _, rfl, _⟩ := h; rfl) | (obtain ⟨_, _, _, _, _, _, _, _, _, _, _, _, _, _, _, _, rfl, _⟩ := h; rfl) | (obtain ⟨_, _, _, _, _, _, _, _, _, _, _, _, _, _, _, _, _, rfl, _⟩ := h; rfl) | (obtain ⟨_, _, _, _, _, _, _, _, _, _, _, _, _, _, _, _, _, _, rfl, _⟩ := h; rfl) | (obtain ⟨_, _, _, _, _, _, _, _, _, _, _, _, _, _, _, _, _, _, _, rfl, _⟩ := h; rfl) | (obtain ⟨_, _, _, _, _, _, _, _, _, _, _, _, _, _, _, _, _, _, _, _, rfl, _⟩ := h; rfl) | (obtain ⟨_, _, _, _, _, _, _, _, _, _, _, _, _, _, _, _, _, _, _, _, _, rfl, _⟩ := h; rfl) | (obtain ⟨_, _, _, _, _, _, _, _, _, _, _, _, _, _, _, _, _, _, _, _, _, _, rfl, _⟩ := h; rfl) | (obtain ⟨_, _, _, _, _, _, _, _, _, _, _, _, _, _, _, _, _, _, _, _, _, _, _, rfl, _⟩ := h; rfl)) (fun cdv A outer s H vs Q E hr h => ?_)
  obtain ⟨w, rfl, hl, kq⟩ := h
  refine ⟨_, (pss_cons (ps_if (PW.pt (pw_or (pt_not (pt_val (pe_callB (kIsi (K := K)) (by rfl) Z.isinstance_ PyProof.Rows.Boot.«isinstance» (pa_cons (pv 0) (pa_cons (pe_bltn (v := .ty "str") (by rfl) Z.str_ PyProof.Rows.Boot.«str» rfl) pa_nil))))) (pw_or1 (pt_cmpR op_gt (pe_callB call_len_str (by rfl) Z.len_ PyProof.Rows.Boot.«len» (pa_cons (pv 0) pa_nil)) (pe_glob (v := c_LONGEST) rfl CG.LONGEST_ ⟨_, rfl⟩) (nomark _))))) (pss_one (ps_ret pe_bl)) pss_nil)
      (pss_one (ps_ret (pe_callB (kAll (K := K) rfl) (by rfl) Z.all_ PyProof.Rows.Boot.«all» (pa_cons (pe_lc (own := [("char", 1)]) rfl sc_is_word.nd (pi_str (pv 0)) (blkOk_by (N := ["thing", "char"]) (sc := defScope st_is_word) (by decide +kernel)) (fun _ _ _ _ _ => (pg_name (i := 1) sc_is_word.nd rfl (.inl rfl))) (fun _ _ _ _ _ => pts_nil) (fun _ _ _ _ _ => (pe_and (pe_chain op_le_str op_le_str pe_str (pv 1) pe_str) (pe_one (pe_cmpR (kNe (K := K) hr.units) (pv 1) pe_str (nomark _)))))) pa_nil))))), ?_⟩
  refine ⟨_, rfl, .str (tx w), .ty "str", .type "str", .type "str", _, rfl, .ty "str", (Kd.str (H := H) (tx w)).ty, kit_ty (by decide +kernel : kitB "str" "str" = some true), _, rfl, iteF ?_⟩
  refine ⟨_, rfl, _, rfl, by rw [tx_len, sizeLine_eq]; omega, _, _, rfl, rfl, _, rfl, iteD (fun c => ?_) fun c => ?_⟩
  · rw [tx_len] at c
    have q := kq H (Ex.refl H)
    rw [show isW w = false by unfold isW; rw [decide_eq_false (by omega)]; rfl] at q
    exact q
  rw [tx_len] at c
  refine ⟨_, rfl, tx w, rfl, fun D hD => ?_⟩
  refine lc_pure (walk_str (z := tx w)) hD (fun _ => true) (fun i => .bl (decide (32 ≤ w.getD i 0) && decide (w.getD i 0 ≤ 126) && !decide (w.getD i 0 = 34))) (by show w.toArray.size ≤ _; rw [List.size_toArray]; omega) (fun _ _ => trivial) (fun i x Hc Hy hi e y Qe Qn qe qn => ?_) (fun H1 ex hL => ?_)
  · obtain ⟨rfl, ch, hch, rfl⟩ := y
    have hg : w[i]? = some ch := by simpa using hch
    have eg : w.getD i 0 = ch := by rw [List.getD_eq_getElem?_getD, hg]; rfl
    rw [eg] at qe
    have qe := qe rfl Hy (Ex.refl _)
    refine ⟨rfl, _, rfl, tx [32], tx [ch], rfl, rfl, _, rfl, ?_⟩
    rw [lt_one]
    by_cases c1 : ch < 32
    · rw [decide_eq_true c1]
      refine iteF ⟨_, rfl, iteF ?_⟩
      rw [decide_eq_false (by omega)] at qe
      exact qe
    · rw [decide_eq_false c1]
      refine iteT ⟨tx [ch], tx [126], rfl, rfl, ?_⟩
      rw [lt_one]
      by_cases c2 : 126 < ch
      · rw [decide_eq_true c2]
        refine ⟨_, rfl, iteF ?_⟩
        rw [decide_eq_false (show ¬ ch ≤ 126 by omega), Bool.and_false] at qe
        exact qe
      · rw [decide_eq_false c2]
        refine ⟨_, rfl, iteT ⟨_, rfl, .inl ⟨rfl, ?_⟩⟩⟩
        rw [decide_eq_true (show 32 ≤ ch by omega), decide_eq_true (show ch ≤ 126 by omega), Bool.true_and, Bool.true_and] at qe
        have et : decide (V.str (tx [ch]) = V.str (tx [34])) = decide (ch = 34) := by rw [tx_eq]; simp
        show Qe (.bl (!decide (V.str (tx [ch]) = V.str (tx [34])))) Hy
        rw [et]
        exact qe
  · have hL : H1 D = some (.lst ((w.map fun c => decide (32 ≤ c) && decide (c ≤ 126) && !decide (c = 34)).map V.bl)) := by
      rw [hL, picked_all]
      show some (HO.lst ((List.range w.toArray.size).map _)) = _
      rw [List.size_toArray, map_range w (fun c => V.bl (decide (32 ≤ c) && decide (c ≤ 126) && !decide (c = 34))) _ (fun i x h => by rw [List.getD_eq_getElem?_getD, h]; rfl), List.map_map]
      rfl
    refine ⟨D, _, rfl, SqL.of hL, ?_⟩
    have q := kq H1 ex
    unfold isW at q
    rw [decide_eq_true (by omega), Bool.true_and] at q
    rw [List.all_map]
    exact q
end
end K49
set_option maxHeartbeats 4000000
namespace Tk
open PySem PySem.Spec PyProof.Rows L2 Hg
/-! ### k49: the law's own scanner -/
def prn (l : List Nat) : Prop := ∀ c ∈ l, 32 ≤ c ∧ c ≤ 126
theorem prn_app {l m : List Nat} (h : prn l) (g : prn m) : prn (l ++ m) := fun c hc => (List.mem_append.mp hc).elim (h c) (g c)
theorem prn_nch : prn NCH := by unfold prn; decide +kernel
theorem gt_prn {k : Str} {v : V} {m : List Nat} (h : GT k v m) : m.length ≤ 14 ∧ prn m := by
  have all : ∀ {ls : List (List Nat)} {m : List Nat}, (ls.all fun m => decide (m.length ≤ 12) && m.all fun c => decide (32 ≤ c) && decide (c ≤ 126)) = true → m ∈ ls → m.length ≤ 12 ∧ prn m := fun f hm => by
    have f := List.all_eq_true.mp f _ hm
    simp only [Bool.and_eq_true, decide_eq_true_eq, List.all_eq_true] at f
    exact f
  have nm : ∀ {m : List Nat}, NameOk m → m.length ≤ 14 ∧ prn m := fun h => ⟨by have := h.2.2; omega, fun c hc => prn_nch c (h.2.1 c hc)⟩
  cases h with
  | int h =>
    have f : (intOpts.all fun p => decide (p.2.length ≤ 12) && p.2.all fun c => decide (32 ≤ c) && decide (c ≤ 126)) = true := by decide +kernel
    have f := List.all_eq_true.mp f _ h
    simp only [Bool.and_eq_true, decide_eq_true_eq, List.all_eq_true] at f
    exact ⟨by omega, f.2⟩
  | word h =>
    obtain ⟨a, b⟩ := all (by decide +kernel) h
    refine ⟨by simp; omega, fun c hc => ?_⟩
    simp only [List.mem_cons, List.mem_append, List.not_mem_nil, or_false] at hc
    rcases hc with rfl | hc | rfl
    · decide
    · exact b c hc
    · decide
  | sym h =>
    obtain ⟨a, b⟩ := all (ls := symOpts) (by decide +kernel) h
    exact ⟨by omega, b⟩
  | res h => exact nm (nameOk_res _ h)
  | name h _ => exact nm h
def aTen : List Nat := List.replicate 13 97
def wTen : List Nat := 34 :: (List.replicate 13 119 ++ [34])
def oddOpts : List (List Nat) := [[33], [65], [95], [48, 48], [48, 48, 55], [49, 50, 51, 52, 53, 54, 55], aTen, [34], wTen, [39], [47], [59], [91], [35], [126], [94]]
theorem odd_prn {m : List Nat} (h : m ∈ oddOpts) : m.length ≤ 15 ∧ prn m := by
  have f : (oddOpts.all fun m => decide (m.length ≤ 15) && m.all fun c => decide (32 ≤ c) && decide (c ≤ 126)) = true := by decide +kernel
  have f := List.all_eq_true.mp f _ h
  simp only [Bool.and_eq_true, decide_eq_true_eq, List.all_eq_true] at f
  exact f
theorem LexR.skip : ∀ {r : List Nat} {i : Nat} {ts : List Tk} {e : Option Nat}, LexR i r ts e → LexR (i + runN [32] r) (r.drop (runN [32] r)) ts e
  | [], i, ts, e, h => by simpa [runN] using h
  | c :: r, i, ts, e, h => by
    by_cases hc : c = 32
    · subst hc
      have e1 : runN [32] (32 :: r) = runN [32] r + 1 := by
        unfold runN
        rw [List.takeWhile_cons, if_pos (by simp)]
        simp
      rw [e1, List.drop_succ_cons, show i + (runN [32] r + 1) = i + 1 + runN [32] r by omega]
      cases h with
      | sp h => exact h.skip
      | tok h1 => exact absurd rfl h1
      | bad h1 => exact absurd rfl h1
    · have e1 : runN [32] (c :: r) = 0 := by
        unfold runN
        rw [List.takeWhile_cons, if_neg (by simpa using hc)]
        rfl
      rw [e1]
      exact h
theorem skip_head {r : List Nat} {c : Nat} (h : (r.drop (runN [32] r))[0]? = some c) : c ≠ 32 := by
  rw [List.getElem?_drop, Nat.add_zero] at h
  have := runN_out h
  simpa using this
/-- the signs of a name, in another order -/
theorem run_nch (r : List Nat) : runN (LET ++ DIG ++ [95]) r = runN NCH r := by
  have e : ∀ c, decide (c ∈ LET ++ DIG ++ [95]) = decide (c ∈ NCH) := fun c => by
    by_cases hc : c < 200
    · have f : ((List.range 200).all fun c => decide (c ∈ LET ++ DIG ++ [95]) == decide (c ∈ NCH)) = true := by decide +kernel
      exact beq_iff_eq.mp (List.all_eq_true.mp f c (List.mem_range.mpr hc))
    · have f1 : ∀ c ∈ LET ++ DIG ++ [95], c < 200 := by decide +kernel
      have f2 : ∀ c ∈ NCH, c < 200 := by decide +kernel
      rw [decide_eq_false fun z => hc (f1 c z), decide_eq_false fun z => hc (f2 c z)]
  unfold runN
  rw [funext e]
/-! the symbols -/
def symM (r : List Nat) : List (List Nat) := symOpts.filter fun m => decide (r.take m.length = m)
def symR (c : Nat) (r : List Nat) : Option (Str × V × Nat) := if r.take 2 ∈ LSY then some ("symbol", .str (tx (r.take 2)), 2) else if c ∈ SSY then some ("symbol", .str (tx [c]), 1) else none
theorem tokR_cons (c : Nat) (r : List Nat) : tokR (c :: r) = if c ∈ LET then tokL (c :: r) else if c ∈ DIG then tokD (c :: r) else if c = 34 then tokW (c :: r) else symR c (c :: r) := rfl
theorem sym_facts : (∀ m ∈ symOpts, m.length ≤ 2 ∧ 1 ≤ m.length ∧ (m.length = 2 → m ∈ LSY) ∧ (m.length = 1 → m ∈ SSY.map fun d => [d])) ∧ (∀ m ∈ LSY, m ∈ symOpts ∧ m.length = 2) ∧ ∀ c ∈ SSY, [c] ∈ symOpts := by decide +kernel
theorem sym_none {c : Nat} {r : List Nat} : symM (c :: r) = [] ↔ symR c (c :: r) = none := by
  obtain ⟨f1, f2, f3⟩ := sym_facts
  unfold symM symR
  rw [List.filter_eq_nil_iff]
  constructor
  · intro h
    rw [if_neg fun z => ?_, if_neg fun z => ?_]
    · have := h _ (f3 c z)
      simp at this
    · have := h _ (f2 _ z).1
      rw [(f2 _ z).2] at this
      simp at this
  · intro h m hm
    by_cases h2 : (c :: r).take 2 ∈ LSY
    · rw [if_pos h2] at h; cases h
    rw [if_neg h2] at h
    by_cases h1 : c ∈ SSY
    · rw [if_pos h1] at h; cases h
    intro z
    have z : (c :: r).take m.length = m := by simpa using z
    obtain ⟨a, b, d, e⟩ := f1 m hm
    by_cases l2 : m.length = 2
    · rw [l2] at z
      exact h2 (z ▸ d l2)
    · have l1 : m.length = 1 := by omega
      rw [l1] at z
      obtain ⟨x, hx, ex⟩ := List.mem_map.mp (e l1)
      have : [c] = m := z
      rw [← this] at ex
      exact h1 ((List.cons.inj ex).1 ▸ hx)
theorem sym_max {c : Nat} {r : List Nat} {i : Nat} {m : List Nat} (hi : (symM (c :: r) ++ [[]])[i]? = some m) (best : ∀ j x, (symM (c :: r) ++ [[]])[j]? = some x → x.length ≤ m.length ∧ (j < i → x.length < m.length)) :
    m.length ≤ 2 ∧ ∀ k v n, symR c (c :: r) = some (k, v, n) → k = "symbol" ∧ v = .str (tx m) ∧ n = m.length := by
  obtain ⟨f1, f2, f3⟩ := sym_facts
  have big : ∀ x ∈ symM (c :: r), x.length ≤ m.length := fun x hx => by
    obtain ⟨j, hj⟩ := List.mem_iff_getElem?.mp (List.mem_append_left [[]] hx)
    exact (best j x hj).1
  have inM : ∀ x ∈ symOpts, (c :: r).take x.length = x → x.length ≤ m.length := fun x h1 h2 => big x (List.mem_filter.mpr ⟨h1, by simpa using h2⟩)
  have hm : m = [] ∨ (m ∈ symOpts ∧ (c :: r).take m.length = m) := by
    rcases List.mem_append.mp (List.mem_of_getElem? hi) with h | h
    · obtain ⟨h1, h2⟩ := List.mem_filter.mp h
      exact .inr ⟨h1, by simpa using h2⟩
    · exact .inl (List.mem_singleton.mp h)
  have le2 : m.length ≤ 2 := by
    rcases hm with rfl | h
    · simp
    · exact (f1 m h.1).1
  refine ⟨le2, fun k v n h => ?_⟩
  unfold symR at h
  by_cases h2 : (c :: r).take 2 ∈ LSY
  · rw [if_pos h2] at h
    cases h
    obtain ⟨a, b⟩ := f2 _ h2
    have := inM _ a (by rw [b])
    have l2 : m.length = 2 := by omega
    rcases hm with rfl | ⟨_, h⟩
    · simp at l2
    · rw [l2] at h
      exact ⟨rfl, by rw [h], l2.symm⟩
  rw [if_neg h2] at h
  by_cases h1 : c ∈ SSY
  · rw [if_pos h1] at h
    cases h
    have ge := inM _ (f3 c h1) (by simp)
    have ge : 1 ≤ m.length := ge
    rcases hm with rfl | ⟨h3, h⟩
    · simp at ge
    · have l1 : m.length = 1 := by
        by_cases l2 : m.length = 2
        · rw [l2] at h
          exact absurd (h ▸ (f1 m h3).2.2.1 l2) h2
        · omega
      rw [l1] at h
      have : [c] = m := h
      exact ⟨rfl, by rw [← this], l1.symm⟩
  · rw [if_neg h1] at h
    cases h
/-! ### the promises -/
def sp_l_end_of (_ : PySem.W.Frag) : Sp := fun vs H Q _ => ∃ (T cs : List Nat) (i : Nat), vs = [.str (tx T), .int i, .str (tx cs)] ∧ T.length ≤ 5000 ∧ i ≤ T.length ∧ Q (.int ((i + runN cs (T.drop i) : Nat) : Int)) H
def sp_l_piece (_ : PySem.W.Frag) : Sp := fun vs H Q _ => ∃ (s q : Addr) (B : Nat) (G : Hp), vs = [.ref s] ∧ Ov s q B G H ∧ B < 600000 ∧ ∀ (m : List Nat) (H' : Hp), m.length ≤ 15 → prn m → Ov s q (B + 30) G H' → Q (.str (tx m)) H'
def sp_l_seen (_ : PySem.W.Frag) : Sp := fun vs H Q _ => ∃ (T : List Nat) (ts : List Tk) (e : Option Nat), vs = [.str (tx T)] ∧ T.length ≤ 5000 ∧ LexR 0 T ts e ∧
  (e = none → ∀ (H' : Hp) (L : Addr) (xs : List V), Ex H H' → H L = none → H' L = some (.lst xs) → xs.length ≤ 5000 → TksIn H' xs ts → Q (.ref L) H') ∧ ∀ p, e = some p → ∀ H', Ex H H' → Q (.int (p : Nat)) H'
def scQ : Str := ("_law_scan" : Str) ++ ".<locals>." ++ "<lambda>"
abbrev scT (PT : Addr) : List (Addr × Str) := [(PT, scQ)]
def sp_l_scan (PT : Addr) (_ : PySem.W.Frag) : Sp := fun vs H Q _ => ∃ (T : List Nat) (ts : List Tk) (e : Option Nat), vs = [.str (tx T)] ∧ T.length ≤ 1000 ∧ prn T ∧ LexR 0 T ts e ∧ LamX.Tabs (scT PT) H ∧
  (e = none → ∀ (H' : Hp) (L : Addr) (xs : List V), LamX.ExtN H H' → LamX.Tabs (scT PT) H' → H' L = some (.lst xs) → xs.length ≤ 1000 → TksIn H' xs ts → Q (.ref L) H') ∧ ∀ p, e = some p → ∀ H', LamX.ExtN H H' → LamX.Tabs (scT PT) H' → Q (.int (p : Nat)) H'
abbrev scA : Arguments := { posonlyargs := [], args := [{ arg := "_law_one", annotation := none, pos := ⟨153, 80, 153, 88⟩ : PySem.Arg }], vararg := none, kwonlyargs := [], kw_defaults := [], kwarg := none, defaults := [] }
abbrev scB : Expr := (PySem.Expr.Call (func := (PySem.Expr.Name "len" ⟨153, 90, 153, 93⟩)) (args := [(PySem.Expr.Name "_law_one" ⟨153, 94, 153, 102⟩)]) (keywords := []) (pos := ⟨153, 90, 153, 103⟩))
abbrev scS : Scope := { kind := PySem.ScopeKind.function, names := [(PySem.Str.ofString "_law_one", PySem.NameKind.local), (PySem.Str.ofString "len", PySem.NameKind.globalImplicit)], isGenerator := false, isCoroutine := false, more := [] }
theorem scLL : LamX.LenLam "_law_one" scA scB scS := ⟨fun _ _ _ _ _ _ => rfl, ⟨_, _, _, rfl⟩, rfl, rfl, rfl, by decide +kernel, by decide +kernel, by decide +kernel, by decide +kernel⟩
theorem tabs_put {T : List (Addr × Str)} {H : Hp} {L : Addr} {xs : List V} {o : HO} (t : LamX.Tabs T H) (hL : H L = some (.lst xs)) : LamX.Tabs T (upd H L o) := fun p hp => by
  obtain ⟨ps, h1, h2, h3⟩ := t p hp
  refine ⟨ps, by rw [upd_ne fun z => by rw [z, hL] at h1; cases h1]; exact h1, h2, fun pos cv hc => ?_⟩
  obtain ⟨c, e1, e2⟩ := h3 pos cv hc
  refine ⟨c, e1, ?_⟩
  rw [upd_ne fun z => ?_]
  · exact e2
  · rw [z, hL] at e2
    unfold LamX.CodeO at e2
    cases e2
theorem extN_ex {H H1 H2 : Hp} (a : LamX.ExtN H H1) (e : Ex H1 H2) : LamX.ExtN H H2 := a.trans (.of e)
theorem extN_put {H H1 : Hp} {L : Addr} {o : HO} (a : LamX.ExtN H H1) (n : H L = none) : LamX.ExtN H (upd H1 L o) := fun b u h t => by
  rw [upd_ne fun z => by rw [z, n] at h; cases h]
  exact a b u h t
theorem picked_sym (r : List Nat) : picked (fun i => decide (r.take (symOpts.getD i []).length = symOpts.getD i [])) (fun i => V.str (tx (symOpts.getD i []))) 13 = sV (symM r) := by
  have key : ∀ k, k ≤ symOpts.length → picked (fun i => decide (r.take (symOpts.getD i []).length = symOpts.getD i [])) (fun i => V.str (tx (symOpts.getD i []))) k = sV ((symOpts.take k).filter fun m => decide (r.take m.length = m)) := fun k => by
    induction k with
    | zero => intro _; rfl
    | succ k ih =>
      intro hk
      have hx : symOpts[k]? = some (symOpts[k]'hk) := List.getElem?_eq_getElem hk
      have e : symOpts.getD k [] = symOpts[k]'hk := by rw [List.getD_eq_getElem?_getD, hx]; rfl
      rw [picked_succ, ih (by omega), List.take_succ, hx, e]
      generalize symOpts[k]'hk = m
      simp only [Option.toList_some, List.filter_append, List.filter_cons, List.filter_nil, sV, List.map_append]
      by_cases h : r.take m.length = m
      · rw [if_pos (by simpa using h), if_pos (by simpa using h)]; rfl
      · rw [if_neg (by simpa using h), if_neg (by simpa using h)]; simp
  have := key 13 (by decide)
  rw [this]
  rfl
end Tk
set_option maxHeartbeats 4000000
namespace K49
open PySem PySem.Spec PyProof.Rows L2 Hg
section
variable {P : Program} {w : World} {K : PySem.W.Frag} {mg : Str → Option Value} {base : Heap}
open Tk
theorem ok_l_reserved {f : Addr} {fd : FuncData} (F : DefK K mg "_law_reserved" st_l_reserved [] f fd) (Z : Zs mg) (CG : CGs K mg)  :
    FnOk P w K mg base CX0 1 f fd [] (sp_l_reserved K) := by
  refine F.fn.ok sc_l_reserved (fun vs H Q E h => by first | exact listedM_len h | (obtain ⟨rfl, _⟩ := h; rfl) | (obtain ⟨_, rfl, _⟩ := h; rfl) | (obtain ⟨_, _, rfl, _⟩ := h; rfl) | (obtain ⟨_, _, _, rfl, _⟩ := h; rfl) | (obtain ⟨_, _, _, _, rfl, _⟩ := h; rfl) | (obtain ⟨_, _, _, _, _, rfl, _⟩ := h; rfl) | (obtain ⟨_, _, _, _, _, _, rfl, _⟩ := h; rfl) | (obtain ⟨_, _, _, _, _, _, _, rfl, _⟩ := h; rfl) | (obtain ⟨_, _, _, _, _, _, _, _, rfl, _⟩ := h; rfl) | (obtain ⟨_, _, _, _, _, _, _, _, _, rfl, _⟩ := h; rfl) | (obtain ⟨_, _, _, _, _, _, _, _, _, _, rfl, _⟩ := h; rfl) | (obtain ⟨_, _, _, _, _, _, _, _, _, _, _, rfl, _⟩ := h; rfl) | (obtain ⟨_, _, _, _, _, _, _, _, _, _, _, _, rfl, _⟩ := h; rfl) | (obtain ⟨_, _, _, _, _, _, _, _, _, _, _, _, _, rfl, _⟩ := h; rfl) | (obtain ⟨_, _, _, _, _, _, _, _, _, _, _, _, _, _, rfl, _⟩ := h; rfl) | (obtain ⟨_, _, _, _, _, _, _, _, _, _, _, _, _, _, _, rfl, _⟩ := h; rfl) | (obtain ⟨_, _, _, _, _, _, _, _, _, _, _, _, _, _, _, _, rfl, _⟩ := h; rfl) | (obtain ⟨_, _, _, _, _, _, _, _, _, _, _, _, _, _, _, _, _, rfl, _⟩ := h; rfl) | (obtain ⟨_, _, _, _, _, _, _, _, _, _, _, _, _, _, _, _, _, _, rfl, _⟩ := h; rfl) | (obtain ⟨_, _, _, _, _, _, _, _, _, _, _, _, _, _, _, _, _, _, _, rfl, _⟩ := h; rfl) | (obtain ⟨_, _, _, _, _, _, _, _, _, _, _, _, _, _, _, _, _, _, _, _, rfl, _⟩ := h; rfl) | (obtain ⟨_, _, _, _, _, _, _, _, _, _, _, _, _, _, _, _, _, _, _, _, _, rfl, _⟩ := h; rfl) | (obtain ⟨_, _, _, _, _, _, _, _, _, _, _, _, _, _, _, _, _, _, _, _, _, _, rfl, _⟩ := h; rfl) | (obtain ⟨_, _, _, _, _, _, _, _, _, _, _, _, _, _, _, _, _, _, _, _, _, _, _, rfl, _⟩ := h; rfl)) (fun cdv A outer s H vs Q E hr h => ?_)
  obtain ⟨rfl, kq⟩ := h
  refine ⟨_, (pss_one (ps_ret (pe_split pe_str pe_str))), ?_⟩
  refine ⟨⟨_, rfl⟩, _, _, rfl, rfl, rfl, by rw [sizeLine_eq]; decide, fun p hp => ?_⟩
  have e : Txt.split "select sum count from at day as where by and or not in" " " = RES.map tx := by decide +kernel
  rw [e, List.map_map]
  exact kq p hp
theorem ok_l_symbols {f : Addr} {fd : FuncData} (F : DefK K mg "_law_symbols" st_l_symbols [] f fd) (Z : Zs mg) (CG : CGs K mg)  :
    FnOk P w K mg base CX0 1 f fd [] (sp_l_symbols K) := by
  refine F.fn.ok sc_l_symbols (fun vs H Q E h => by first | exact listedM_len h | (obtain ⟨rfl, _⟩ := h; rfl) | (obtain ⟨_, rfl, _⟩ := h; rfl) | (obtain ⟨_, _, rfl, _⟩ := h; rfl) | (obtain ⟨_, _, _, rfl, _⟩ := h; rfl) | (obtain ⟨_, _, _, _, rfl, _⟩ := h; rfl) | (obtain ⟨_, _, _, _, _, rfl, _⟩ := h; rfl) | (obtain ⟨_, _, _, _, _, _, rfl, _⟩ := h; rfl) | (obtain ⟨_, _, _, _, _, _, _, rfl, _⟩ := h; rfl) | (obtain ⟨_, _, _, _, _, _, _, _, rfl, _⟩ := h; rfl) | (obtain ⟨_, _, _, _, _, _, _, _, _, rfl, _⟩ := h; rfl) | (obtain ⟨_, _, _, _, _, _, _, _, _, _, rfl, _⟩ := h; rfl) | (obtain ⟨_, _, _, _, _, _, _, _, _, _, _, rfl, _⟩ := h; rfl) | (obtain ⟨_, _, _, _, _, _, _, _, _, _, _, _, rfl, _⟩ := h; rfl) | (obtain ⟨_, _, _, _, _, _, _, _, _, _, _, _, _, rfl, _⟩ := h; rfl) | (obtain ⟨_, _, _, _, _, _, _, _, _, _, _, _, _, _, rfl, _⟩ := h; rfl) | (obtain ⟨_, _, _, _, _, _, _, _, _, _, _, _, _, _, _, rfl, _⟩ := h; rfl) | (obtain ⟨_, _, _, _, _, _, _, _, _, _, _, _, _, _, _, _, rfl, _⟩ := h; rfl) | (obtain ⟨_, _, _, _, _, _, _, _, _, _, _, _, _, _, _, _, _, rfl, _⟩ := h; rfl) | (obtain ⟨_, _, _, _, _, _, _, _, _, _, _, _, _, _, _, _, _, _, rfl, _⟩ := h; rfl) | (obtain ⟨_, _, _, _, _, _, _, _, _, _, _, _, _, _, _, _, _, _, _, rfl, _⟩ := h; rfl) | (obtain ⟨_, _, _, _, _, _, _, _, _, _, _, _, _, _, _, _, _, _, _, _, rfl, _⟩ := h; rfl) | (obtain ⟨_, _, _, _, _, _, _, _, _, _, _, _, _, _, _, _, _, _, _, _, _, rfl, _⟩ := h; rfl) | (obtain ⟨_, _, _, _, _, _, _, _, _, _, _, _, _, _, _, _, _, _, _, _, _, _, rfl, _⟩ := h; rfl) | (obtain ⟨_, _, _, _, _, _, _, _, _, _, _, _, _, _, _, _, _, _, _, _, _, _, _, rfl, _⟩ := h; rfl)) (fun cdv A outer s H vs Q E hr h => ?_)
  obtain ⟨rfl, kq⟩ := h
  refine ⟨_, (pss_one (ps_ret (pe_split pe_str pe_str))), ?_⟩
  refine ⟨⟨_, rfl⟩, _, _, rfl, rfl, rfl, by rw [sizeLine_eq]; decide, fun p hp => ?_⟩
  have e : Txt.split "( ) , . + - * = != < <= > >=" " " = symOpts.map tx := by decide +kernel
  rw [e, List.map_map]
  exact kq p hp
theorem ok_l_name {f : Addr} {fd : FuncData} (F : DefK K mg "_law_name" st_l_name ["_law_stream"] f fd) (Z : Zs mg) (CG : CGs K mg) {f_l_draw : Addr} {fd_l_draw : FuncData} (D_l_draw : DefK K mg "_law_draw" st_l_draw ["_law_stream", "_law_many"] f_l_draw fd_l_draw) (G_l_draw : FnOk P w K mg base CX0 1 f_l_draw fd_l_draw ["_law_stream", "_law_many"] (sp_l_draw K)) {f_l_reserved : Addr} {fd_l_reserved : FuncData} (D_l_reserved : DefK K mg "_law_reserved" st_l_reserved [] f_l_reserved fd_l_reserved) (G_l_reserved : FnOk P w K mg base CX0 1 f_l_reserved fd_l_reserved [] (sp_l_reserved K)) :
    FnOk P w K mg base CX0 2 f fd ["_law_stream"] (sp_l_name K) := by
  refine F.fn.ok sc_l_name (fun vs H Q E h => by first | exact listedM_len h | (obtain ⟨rfl, _⟩ := h; rfl) | (obtain ⟨_, rfl, _⟩ := h; rfl) | (obtain ⟨_, _, rfl, _⟩ := h; rfl) | (obtain ⟨_, _, _, rfl, _⟩ := h; rfl) | (obtain ⟨_, _, _, _, rfl, _⟩ := h; rfl) | (obtain ⟨_, _, _, _, _, rfl, _⟩ := h; rfl) | (obtain ⟨_, _, _, _, _, _, rfl, _⟩ := h; rfl) | (obtain ⟨_, _, _, _, _, _, _, rfl, _⟩ := h; rfl) | (obtain ⟨_, _, _, _, _, _, _, _, rfl, _⟩ := h; rfl) | (obtain ⟨_, _, _, _, _, _, _, _, _, rfl, _⟩ := h; rfl) | (obtain ⟨_, _, _, _, _, _, _, _, _, _, rfl, _⟩ := h; rfl) | (obtain ⟨_, _, _, _, _, _, _, _, _, _, _, rfl, _⟩ := h; rfl) | (obtain ⟨_, _, _, _, _, _, _, _, _, _, _, _, rfl, _⟩ := h; rfl) | (obtain ⟨_, _, _, _, _, _, _, _, _, _, _, _, _, rfl, _⟩ := h; rfl) | (obtain ⟨_, _, _, _, _, _, _, _, _, _, _, _, _, _, rfl, _⟩ := h; rfl) | (obtain ⟨_, _, _, _, _, _, _, _, _, _, _, _, _, _, _, rfl, _⟩ := h; rfl) | (obtain ⟨_, _, _, _, _, _, _, _, _, _, _, _, _, _, _, _, rfl, _⟩ := h; rfl) | (obtain ⟨_, _, _, _, _, _, _, _, _, _, _, _, _, _, _, _, _, rfl, _⟩ := h; rfl) | (obtain ⟨_, _, _, _, _, _, _, _, _, _, _, _, _, _, _, _, _, _, rfl, _⟩ := h; rfl) | (obtain ⟨_, _, _, _, _, _, _, _, _, _, _, _, _, _, _, _, _, _, _, rfl, _⟩ := h; rfl) | (obtain ⟨_, _, _, _, _, _, _, _, _, _, _, _, _, _, _, _, _, _, _, _, rfl, _⟩ := h; rfl) | (obtain ⟨_, _, _, _, _, _, _, _, _, _, _, _, _, _, _, _, _, _, _, _, _, rfl, _⟩ := h; rfl) | (obtain ⟨_, _, _, _, _, _, _, _, _, _, _, _, _, _, _, _, _, _, _, _, _, _, rfl, _⟩ := h; rfl) | (obtain ⟨_, _, _, _, _, _, _, _, _, _, _, _, _, _, _, _, _, _, _, _, _, _, _, rfl, _⟩ := h; rfl)) (fun cdv A outer s H vs Q E hr h => ?_)
  obtain ⟨s0, q, B, G, rfl, O, hB, kq⟩ := h
  refine ⟨_, (pss_cons (ps_set (i := 1) sc_l_name.nd rfl (.inl rfl) pe_str)
      (pss_cons (ps_set (i := 2) sc_l_name.nd rfl (.inl rfl) (pe_ix (kIx (K := K)) (pe_lst (pa_cons pe_int (pa_cons pe_int (pa_cons pe_int (pa_cons pe_int (pa_cons pe_int (pa_cons pe_int pa_nil))))))) (pe_call G_l_draw (hr.mono (by decide)) rfl D_l_draw.mg D_l_draw.fn.kp D_l_draw.bd .nil pass0 (pa_cons (pv 0) (pa_cons pe_int pa_nil))) (fun _ _ => rfl)))
      (pss_cons (ps_set (i := 3) sc_l_name.nd rfl (.inl rfl) (pe_ix (kIx (K := K)) (pv 1) (pe_call G_l_draw (hr.mono (by decide)) rfl D_l_draw.mg D_l_draw.fn.kp D_l_draw.bd .nil pass0 (pa_cons (pv 0) (pa_cons pe_int pa_nil))) (fun _ _ => rfl)))
      (pss_cons (ps_for PassesOwn.never rfl (pi_range1 (by rfl) Z.range_ (pa_cons (pv 2) pa_nil)) (pg_name (i := 4) sc_l_name.nd rfl (.inl rfl)) (pss_one (ps_set (i := 3) sc_l_name.nd rfl (.inl rfl) (pe_op (kAdd (K := K)) (pv 3) (pe_ix (kIx (K := K)) (pv 1) (pe_call G_l_draw (hr.mono (by decide)) rfl D_l_draw.mg D_l_draw.fn.kp D_l_draw.bd .nil pass0 (pa_cons (pv 0) (pa_cons pe_int pa_nil))) (fun _ _ => rfl))))))
      (pss_one (ps_ret (pe_op (kAdd (K := K)) (pv 3) (pe_op op_mulS pe_str (pe_callTy call_int1 (by rfl) Z.int_ PyProof.Rows.Boot.«int» (pa_cons (pe_cmpR (kIn (K := K)) (pv 3) (pe_call0 G_l_reserved (hr.mono (by decide)) rfl D_l_reserved.mg D_l_reserved.fn.kp D_l_reserved.bd .nil pass0) (by rfl)) pa_nil)))))))))), ?_⟩
  refine ⟨by show 6 ≤ sizeLine; decide, fun l hl => ⟨_, rfl, s0, q, _, _, 6, rfl, O.new hl, by omega, by decide, by decide, fun r H1 r0 r1 O1 => ?_⟩⟩
  obtain ⟨v, hv, hm⟩ := menu (n := 6) r0 r1 (vs := [.int 0, .int 0, .int 1, .int 2, .int 4, .int 11]) rfl
  have hvz : ∃ z : Nat, v = .int (z : Int) ∧ z ≤ 11 := by
    simp only [List.mem_cons, List.not_mem_nil, or_false] at hm
    rcases hm with h | h | h | h | h | h
    · exact ⟨0, h, by decide⟩
    · exact ⟨0, h, by decide⟩
    · exact ⟨1, h, by decide⟩
    · exact ⟨2, h, by decide⟩
    · exact ⟨4, h, by decide⟩
    · exact ⟨11, h, by decide⟩
  obtain ⟨more, rfl, hmore⟩ := hvz
  refine ixl (O1.sub _ _ upd_same) hv ?_
  have O1 := O1.weak (Ex.new (O.sub.free hl))
  refine ⟨_, rfl, _, rfl, s0, q, _, _, 26, rfl, O1, by omega, by decide, by decide, fun i H2 i0 i1 O2 => ?_⟩
  obtain ⟨i, rfl⟩ := Int.eq_ofNat_of_zero_le i0
  obtain ⟨c, hc, hcl⟩ := inn_let (i := i) (by omega)
  refine ixs (l := INN) hc (by decide) ?_
  refine ⟨_, rfl, (more : Int), rfl, by omega, by omega, ?_⟩
  rw [Int.toNat_natCast]
  refine for_it (walk_range (lo := 0) (n := more)) (fun j σ H' => ∃ (t : List Nat) (v4 : Option V), σ = [some (.ref s0), some (.str (tx INN)), some (.int (more : Int)), some (.str (tx (c :: t))), v4] ∧ t.length = j ∧ (∀ d ∈ c :: t, d ∈ NCH) ∧ Ov s0 q (B + 2 + j) G H')
    ⟨[], _, rfl, rfl, fun d hd => by rw [List.mem_singleton.mp hd]; exact let_nch c hcl, O2⟩ (fun _ _ _ _ _ => trivial) (fun j x σ H' H6 hj p y => ?_) (fun σ H' p => ?_)
  · obtain ⟨t, v4, rfl, ht, hall, O3⟩ := p
    obtain ⟨rfl, rfl⟩ := y
    refine ⟨_, rfl, _, rfl, _, rfl, s0, q, _, _, 37, rfl, O3, by omega, by decide, by decide, fun i H7 i0 i1 O4 => ?_⟩
    obtain ⟨i, rfl⟩ := Int.eq_ofNat_of_zero_le i0
    obtain ⟨d, hd, hdn⟩ := inn_nch (i := i) (by omega)
    refine ixs (l := INN) hd (by decide) (cat_s (by simp; omega) ?_)
    refine ⟨t ++ [d], _, rfl, by simp [ht], fun e he => ?_, O4⟩
    rw [← List.cons_append] at he
    rcases List.mem_append.mp he with h | h
    · exact hall e h
    · rw [List.mem_singleton.mp h]; exact hdn
  · obtain ⟨t, v4, rfl, ht, hall, O3⟩ := p
    refine ⟨_, rfl, _, rfl, rfl, fun p hp => ?_⟩
    have OO := O3.drop (o := .lst (sV RES)) hp
    refine in_l (ls := RES) (.inl (SqL.of upd_same)) (.inr ⟨_, rfl, ?_⟩)
    by_cases hr : (c :: t) ∈ RES
    · rw [decide_eq_true hr]
      refine ⟨[95], 1, rfl, rfl, by decide, by decide, cat_s (by simp; omega) (kq _ _ ⟨⟨c, t ++ [95], rfl, hcl⟩, fun e he => ?_, ?_⟩ ?_ (OO.more (by omega)))⟩
      · rcases List.mem_append.mp he with h | h
        · exact hall e h
        · have h : e ∈ [95] := h
          rw [List.mem_singleton.mp h]; decide
      · have f : (RES.all fun m => decide (m.length ≤ 6)) = true := by decide +kernel
        have f := List.all_eq_true.mp f _ hr
        have f := of_decide_eq_true f
        show ((c :: t) ++ [95]).length ≤ 12
        rw [List.length_append]
        show (c :: t).length + 1 ≤ 12
        omega
      · intro h
        have f : (RES.all fun m => !decide (95 ∈ m)) = true := by decide +kernel
        have f := List.all_eq_true.mp f _ h
        have h95 : 95 ∈ ((c :: t) ++ (List.replicate 1 [95]).flatten) := by simp
        rw [decide_eq_true h95] at f
        cases f
    · rw [decide_eq_false hr]
      refine ⟨[95], 0, rfl, rfl, by decide, by decide, cat_s (by simp; omega) ?_⟩
      have e0 : (c :: t) ++ (List.replicate 0 [95]).flatten = c :: t := by simp
      rw [e0]
      exact kq _ _ ⟨⟨c, t, rfl, hcl⟩, hall, by simp; omega⟩ hr (OO.more (by omega))
end
end K49
set_option maxHeartbeats 4000000
namespace K49
open PySem PySem.Spec PyProof.Rows L2 Hg
section
variable {P : Program} {w : World} {K : PySem.W.Frag} {mg : Str → Option Value} {base : Heap}
open Tk
theorem ok_l_end_of {f : Addr} {fd : FuncData} (F : DefK K mg "_law_end_of" st_l_end_of ["_law_text", "_law_at", "_law_inner"] f fd) (Z : Zs mg) (CG : CGs K mg)  :
    FnOk P w K mg base CX0 1 f fd ["_law_text", "_law_at", "_law_inner"] (sp_l_end_of K) := by
  refine F.fn.ok sc_l_end_of (fun vs H Q E h => by first | exact listedM_len h | (obtain ⟨rfl, _⟩ := h; rfl) | (obtain ⟨_, rfl, _⟩ := h; rfl) | (obtain ⟨_, _, rfl, _⟩ := h; rfl) | (obtain ⟨_, _, _, rfl, _⟩ := h; rfl) | (obtain ⟨_, _, _, _, rfl, _⟩ := h; rfl) | (obtain ⟨_, _, _, _, _, rfl, _⟩ := h; rfl) | (obtain ⟨_, _, _, _, _, _, rfl, _⟩ := h; rfl) | (obtain ⟨_, _, _, _, _, _, _, rfl, _⟩ := h; rfl) | (obtain ⟨_, _, _, _, _, _, _, _, rfl, _⟩ := h; rfl) | (obtain ⟨_, _, _, _, _, _, _, _, _, rfl, _⟩ := h; rfl) | (obtain ⟨_, _, _, _, _, _, _, _, _, _, rfl, _⟩ := h; rfl) | (obtain ⟨_, _, _, _, _, _, _, _, _, _, _, rfl, _⟩ := h; rfl) | (obtain ⟨_, _, _, _, _, _, _, _, _, _, _, _, rfl, _⟩ := h; rfl) | (obtain ⟨_, _, _, _, _, _, _, _, _, _, _, _, _, rfl, _⟩ := h; rfl) | (obtain ⟨_, _, _, _, _, _, _, _, _, _, _, _, _, _, rfl, _⟩ := h; rfl) | (obtain ⟨_, _, _, _, _, _, _, _, _, _, _, _, _, _, _, rfl, _⟩ := h; rfl) | (obtain ⟨_, _, _, _, _, _, _, _, _, _, _, _, _, _, _, _, rfl, _⟩ := h; rfl) | (obtain ⟨_, _, _, _, _, _, _, _, _, _, _, _, _, _, _, _, _, rfl, _⟩ := h; rfl) | (obtain ⟨_, _, _, _, _, _, _, _, _, _, _, _, _, _, _, _, _, _, rfl, _⟩ := h; rfl) | (obtain ⟨_, _, _, _, _, _, _, _, _, _, _, _, _, _, _, _, _, _, _, rfl, _⟩ := h; rfl) | (obtain ⟨_, _, _, _, _, _, _, _, _, _, _, _, _, _, _, _, _, _, _, _, rfl, _⟩ := h; rfl) | (obtain ⟨_, _, _, _, _, _, _, _, _, _, _, _, _, _, _, _, _, _, _, _, _, rfl, _⟩ := h; rfl) | (obtain ⟨_, _, _, _, _, _, _, _, _, _, _, _, _, _, _, _, _, _, _, _, _, _, rfl, _⟩ := h; rfl) | (obtain ⟨_, _, _, _, _, _, _, _, _, _, _, _, _, _, _, _, _, _, _, _, _, _, _, rfl, _⟩ := h; rfl)) (fun cdv A outer s H vs Q E hr h => ?_)
  obtain ⟨T, cs, i, rfl, hl, hi, kq⟩ := h
  refine ⟨_, (pss_cons (ps_while PassesOwn.never (PW.pt (pw_and (pt_cmpR op_lt (pv 1) (pe_callB call_len_str (by rfl) Z.len_ PyProof.Rows.Boot.«len» (pa_cons (pv 0) pa_nil)) (nomark _)) (pw_and1 (pt_cmpR op_in_sign (pe_ix (kIx (K := K)) (pv 0) (pv 1) (fun _ _ => rfl)) (pv 2) (by rfl))))) (pss_one (ps_set (i := 1) sc_l_end_of.nd rfl (.inl rfl) (pe_op (kAdd (K := K)) (pv 1) pe_int))))
      (pss_one (ps_ret (pv 1)))), ?_⟩
  have hd : (T.drop i).length = T.length - i := List.length_drop
  have hrl := runN_le cs (T.drop i)
  refine ⟨fun m σ H' => ∃ j : Nat, σ = [some (.str (tx T)), some (.int ((i + j : Nat) : Int)), some (.str (tx cs))] ∧ j ≤ runN cs (T.drop i) ∧ H' = H ∧ m + (i + j) = T.length, ⟨T.length - i, 0, rfl, Nat.zero_le _, rfl, by omega⟩, ?_⟩
  rintro m σ H' ⟨j, rfl, hj, rfl, hm⟩
  refine ⟨_, rfl, _, rfl, _, rfl, by rw [tx_len, sizeLine_eq]; omega, _, _, rfl, rfl, _, rfl, iteD (fun c1 => ?_) fun c1 => ?_⟩
  · rw [tx_len] at c1
    have hij : i + j < T.length := by omega
    obtain ⟨ch, hg⟩ : ∃ ch, T[i + j]? = some ch := ⟨T[i + j], by simp [hij]⟩
    have hg2 : (T.drop i)[j]? = some ch := by rw [List.getElem?_drop]; exact hg
    refine ⟨_, rfl, _, rfl, ixs hg (by omega) ⟨_, rfl, _, _, rfl, rfl, _, rfl, iteD (fun c2 => ?_) fun c2 => ?_⟩⟩
    · have c2 : ch ∈ cs := by simpa using c2
      refine ⟨fun σ' H' => ∃ m', m' < m ∧ _, fun _ _ h => h, ?_⟩
      refine ⟨_, rfl, .inl ⟨_, _, rfl, rfl, m - 1, by omega, j + 1, rfl, ?_, rfl, by omega⟩⟩
      apply Classical.byContradiction
      intro h
      have e : j = runN cs (T.drop i) := by omega
      rw [e] at hg2
      exact runN_out hg2 c2
    · have c2 : ch ∉ cs := by simpa using c2
      have e : j = runN cs (T.drop i) := by
        apply Classical.byContradiction
        intro h
        exact c2 (runN_in (by omega) hg2)
      rw [← e] at kq
      exact ⟨_, rfl, kq⟩
  · rw [tx_len] at c1
    have e : j = runN cs (T.drop i) := by omega
    rw [← e] at kq
    exact iteF ⟨_, rfl, kq⟩
end
end K49
set_option maxHeartbeats 4000000
namespace K49
open PySem PySem.Spec PyProof.Rows L2 Hg
section
variable {P : Program} {w : World} {K : PySem.W.Frag} {mg : Str → Option Value} {base : Heap}
open Tk
theorem ok_l_scan {f : Addr} {fd : FuncData} (F : DefK K mg "_law_scan" st_l_scan ["_law_text"] f fd) (Z : Zs mg) (CG : CGs K mg) {f_l_reserved : Addr} {fd_l_reserved : FuncData} (D_l_reserved : DefK K mg "_law_reserved" st_l_reserved [] f_l_reserved fd_l_reserved) (G_l_reserved : FnOk P w K mg base CX0 1 f_l_reserved fd_l_reserved [] (sp_l_reserved K)) {f_l_symbols : Addr} {fd_l_symbols : FuncData} (D_l_symbols : DefK K mg "_law_symbols" st_l_symbols [] f_l_symbols fd_l_symbols) (G_l_symbols : FnOk P w K mg base CX0 1 f_l_symbols fd_l_symbols [] (sp_l_symbols K)) {f_l_end_of : Addr} {fd_l_end_of : FuncData} (D_l_end_of : DefK K mg "_law_end_of" st_l_end_of ["_law_text", "_law_at", "_law_inner"] f_l_end_of fd_l_end_of) (G_l_end_of : FnOk P w K mg base CX0 1 f_l_end_of fd_l_end_of ["_law_text", "_law_at", "_law_inner"] (sp_l_end_of K)) {c PT : Addr} (TB : LamX.TabB base mg c PT) (hc : fd.code = .ref c) :
    FnOk P w K mg base CX0 4 f fd ["_law_text"] (sp_l_scan PT K) := by
  refine F.fn.okT hc sc_l_scan (fun vs H Q E h => by first | exact listedM_len h | (obtain ⟨rfl, _⟩ := h; rfl) | (obtain ⟨_, rfl, _⟩ := h; rfl) | (obtain ⟨_, _, rfl, _⟩ := h; rfl) | (obtain ⟨_, _, _, rfl, _⟩ := h; rfl) | (obtain ⟨_, _, _, _, rfl, _⟩ := h; rfl) | (obtain ⟨_, _, _, _, _, rfl, _⟩ := h; rfl) | (obtain ⟨_, _, _, _, _, _, rfl, _⟩ := h; rfl) | (obtain ⟨_, _, _, _, _, _, _, rfl, _⟩ := h; rfl) | (obtain ⟨_, _, _, _, _, _, _, _, rfl, _⟩ := h; rfl) | (obtain ⟨_, _, _, _, _, _, _, _, _, rfl, _⟩ := h; rfl) | (obtain ⟨_, _, _, _, _, _, _, _, _, _, rfl, _⟩ := h; rfl) | (obtain ⟨_, _, _, _, _, _, _, _, _, _, _, rfl, _⟩ := h; rfl) | (obtain ⟨_, _, _, _, _, _, _, _, _, _, _, _, rfl, _⟩ := h; rfl) | (obtain ⟨_, _, _, _, _, _, _, _, _, _, _, _, _, rfl, _⟩ := h; rfl) | (obtain ⟨_, _, _, _, _, _, _, _, _, _, _, _, _, _, rfl, _⟩ := h; rfl) | (obtain ⟨_, _, _, _, _, _, _, _, _, _, _, _, _, _, _, rfl, _⟩ := h; rfl) | (obtain ⟨_, _, _, _, _, _, _, _, _, _, _, _, _, _, _, _, rfl, _⟩ := h; rfl) | (obtain ⟨_, _, _, _, _, _, _, _, _, _, _, _, _, _, _, _, _, rfl, _⟩ := h; rfl) | (obtain ⟨_, _, _, _, _, _, _, _, _, _, _, _, _, _, _, _, _, _, rfl, _⟩ := h; rfl) | (obtain ⟨_, _, _, _, _, _, _, _, _, _, _, _, _, _, _, _, _, _, _, rfl, _⟩ := h; rfl) | (obtain ⟨_, _, _, _, _, _, _, _, _, _, _, _, _, _, _, _, _, _, _, _, rfl, _⟩ := h; rfl) | (obtain ⟨_, _, _, _, _, _, _, _, _, _, _, _, _, _, _, _, _, _, _, _, _, rfl, _⟩ := h; rfl) | (obtain ⟨_, _, _, _, _, _, _, _, _, _, _, _, _, _, _, _, _, _, _, _, _, _, rfl, _⟩ := h; rfl) | (obtain ⟨_, _, _, _, _, _, _, _, _, _, _, _, _, _, _, _, _, _, _, _, _, _, _, rfl, _⟩ := h; rfl)) (fun cdv A outer s H vs Q E hr h => ?_)
  obtain ⟨T', ts, er, rfl, hl, hp, hL0, tab, kq, ke⟩ := h
  refine ⟨_, (pss_cons (ps_asg (pe_tup (pa_cons pe_str (pa_cons pe_str pa_nil))) (kPgT (K := K) (n := 2) rfl (pgs_cons (pg_name (i := 1) sc_l_scan.nd rfl (.inl rfl)) (pgs_cons (pg_name (i := 2) sc_l_scan.nd rfl (.inl rfl)) pgs_nil))))
      (pss_cons (ps_set (i := 3) sc_l_scan.nd rfl (.inl rfl) (pe_lst pa_nil))
      (pss_cons (ps_set (i := 4) sc_l_scan.nd rfl (.inr rfl) (pe_call G_l_end_of (hr.mono (by decide)) rfl D_l_end_of.mg D_l_end_of.fn.kp D_l_end_of.bd .nil pass0 (pa_cons (pv 0) (pa_cons pe_int (pa_cons pe_str pa_nil)))))
      (pss_cons (ps_while PassesOwn.never (pt_cmpR op_lt (pv 4) (pe_callB call_len_str (by rfl) Z.len_ PyProof.Rows.Boot.«len» (pa_cons (pv 0) pa_nil)) (nomark _)) (pss_cons (ps_if (pt_cmpR op_in_sign (pe_ix (kIx (K := K)) (pv 0) (pv 4) (fun _ _ => rfl)) (pv 1) (by rfl)) (pss_cons (ps_set (i := 5) sc_l_scan.nd rfl (.inl rfl) (pe_call G_l_end_of (hr.mono (by decide)) rfl D_l_end_of.mg D_l_end_of.fn.kp D_l_end_of.bd .nil pass0 (pa_cons (pv 0) (pa_cons (pv 4) (pa_cons (pe_op (kAdd (K := K)) (pe_op (kAdd (K := K)) (pv 1) (pv 2)) pe_str) pa_nil)))))
      (pss_cons (ps_set (i := 6) sc_l_scan.nd rfl (.inl rfl) (pe_slice kSlS (pv 0) (po_some (pv 4)) (po_some (pv 5))))
      (pss_cons (ps_set (i := 7) sc_l_scan.nd rfl (.inl rfl) (pe_ifExp (pt_cmpR (kIn (K := K)) (pv 6) (pe_call0 G_l_reserved (hr.mono (by decide)) rfl D_l_reserved.mg D_l_reserved.fn.kp D_l_reserved.bd .nil pass0) (by rfl)) pe_str pe_str))
      (pss_one (ps_set (i := 8) sc_l_scan.nd rfl (.inl rfl) (pe_cmpR op_lt (pe_op op_sub (pv 5) (pv 4)) pe_int (nomark _))))))) (pss_one (ps_if (pt_cmpR op_in_sign (pe_ix (kIx (K := K)) (pv 0) (pv 4) (fun _ _ => rfl)) (pv 2) (by rfl)) (pss_cons (ps_set (i := 5) sc_l_scan.nd rfl (.inl rfl) (pe_call G_l_end_of (hr.mono (by decide)) rfl D_l_end_of.mg D_l_end_of.fn.kp D_l_end_of.bd .nil pass0 (pa_cons (pv 0) (pa_cons (pv 4) (pa_cons (pv 2) pa_nil)))))
      (pss_cons (ps_set (i := 8) sc_l_scan.nd rfl (.inl rfl) (pe_and (pe_cmpR op_lt (pe_op op_sub (pv 5) (pv 4)) pe_int (nomark _)) (pe_one (pe_or (pe_cmpR (kEq (K := K) hr.units) (pe_op op_sub (pv 5) (pv 4)) pe_int (nomark _)) (pe_one (pe_cmpR (kNe (K := K) hr.units) (pe_ix (kIx (K := K)) (pv 0) (pv 4) (fun _ _ => rfl)) pe_str (nomark _)))))))
      (pss_one (ps_par (i := 7) (j := 6) (by rfl) sc_l_scan.nd rfl rfl (by decide) rfl rfl (pa_cons pe_str (pa_cons (pe_callTy call_int_str (by rfl) Z.int_ PyProof.Rows.Boot.«int» (pa_cons (pe_slice kSlS (pv 0) (po_some (pv 4)) (po_some (pe_callB (call_min2 rfl) (by rfl) Z.min_ PyProof.Rows.Boot.«min» (pa_cons (pv 5) (pa_cons (pe_op (kAdd (K := K)) (pv 4) pe_int) pa_nil))))) pa_nil)) pa_nil)) (by rfl))))) (pss_one (ps_if (pt_cmpR (kEq (K := K) hr.units) (pe_ix (kIx (K := K)) (pv 0) (pv 4) (fun _ _ => rfl)) pe_str (nomark _)) (pss_cons (ps_set (i := 5) sc_l_scan.nd rfl (.inl rfl) (pe_op (kAdd (K := K)) (pe_bm PySem.F.plainAttrs_str PySem.F.slot_str_find PySem.F.type_str_find mt_find3 (pv 0) (pa_cons pe_str (pa_cons (pe_op (kAdd (K := K)) (pv 4) pe_int) pa_nil))) pe_int))
      (pss_cons (ps_set (i := 8) sc_l_scan.nd rfl (.inl rfl) (pe_chain op_lt op_lt pe_int (pv 5) (pe_op (kAdd (K := K)) (pv 4) pe_int)))
      (pss_one (ps_par (i := 7) (j := 6) (by rfl) sc_l_scan.nd rfl rfl (by decide) rfl rfl (pa_cons pe_str (pa_cons (pe_slice kSlS (pv 0) (po_some (pe_op (kAdd (K := K)) (pv 4) pe_int)) (po_some (pe_op op_sub (pv 5) pe_int))) pa_nil)) (by rfl))))) (pss_cons (ps_setLc (i := 9) (own := [("_law_one", 10)]) rfl sc_l_scan.nd rfl rfl (sw_true rfl rfl rfl (by decide +kernel)) (kSeq (K := K) (pe_call0 G_l_symbols (hr.mono (by decide)) rfl D_l_symbols.mg D_l_symbols.fn.kp D_l_symbols.bd .nil pass0)) (blkOk_by (N := ["_law_text", "_law_small", "_law_digits", "_law_found", "_law_at", "_law_end", "_law_value", "_law_kind", "_law_good", "_law_some", "_law_one"]) (sc := defScope st_l_scan) (by decide +kernel)) (fun _ _ _ _ _ => (pg_name (i := 10) sc_l_scan.nd rfl (.inl rfl))) (fun _ _ _ _ _ => (pts_one (pt_cmpR (kEq (K := K) hr.units) (pe_slice kSlS (pv 0) (po_some (pv 4)) (po_some (pe_op (kAdd (K := K)) (pv 4) (pe_callB call_len_str (by rfl) Z.len_ PyProof.Rows.Boot.«len» (pa_cons (pv 10) pa_nil))))) (pv 10) (nomark _)))) (fun _ _ _ _ _ => (pv 10)))
      (pss_cons (ps_set (i := 8) sc_l_scan.nd rfl (.inl rfl) (pe_cmpR (kNeL (K := K) hr.units) (pv 9) (pe_lst pa_nil) (nomark _)))
      (pss_cons (ps_par (i := 7) (j := 6) (by rfl) sc_l_scan.nd rfl rfl (by decide) rfl rfl (pa_cons pe_str (pa_cons (pe_callBK (LamX.cr_maxLen Tk.scLL (hr.mono (by decide)) Z.len_) (by rfl) Z.max_ PyProof.Rows.Boot.«max» (pa_cons (pe_op (kAdd (K := K)) (pv 9) (pe_lst (pa_cons pe_str pa_nil))) pa_nil) (pk_cons (LamX.pe_lamF (T := Tk.scT PT) (scope := Tk.scS) (params := Tk.scA) (body := Tk.scB) TB rfl (List.mem_singleton.mpr rfl) (fun p hp _ => by rw [List.mem_singleton.mp hp]; rfl) rfl (fun _ y hy e => absurd e ((by decide +kernel : ∀ y ∈ Tk.scS.names, y.2 ≠ .free) y hy))) pk_nil)) pa_nil)) (by rfl))
      (pss_one (ps_set (i := 5) sc_l_scan.nd rfl (.inl rfl) (pe_op (kAdd (K := K)) (pv 4) (pe_callB call_len_str (by rfl) Z.len_ PyProof.Rows.Boot.«len» (pa_cons (pv 6) pa_nil)))))))))))))
      (pss_cons (ps_if (pt_not (pt_truth (pv 8) (by intro _; rfl))) (pss_one (ps_ret (pv 4))) pss_nil)
      (pss_cons (ps_expr (pe_bm PySem.F.plainAttrs_list PySem.F.slot_list_append PySem.F.type_list_append mt_append (pv 3) (pa_cons (pe_tup (pa_cons (pv 7) (pa_cons (pv 6) (pa_cons (pv 4) pa_nil)))) pa_nil)))
      (pss_one (ps_set (i := 4) sc_l_scan.nd rfl (.inr rfl) (pe_call G_l_end_of (hr.mono (by decide)) rfl D_l_end_of.mg D_l_end_of.fn.kp D_l_end_of.bd .nil pass0 (pa_cons (pv 0) (pa_cons (pv 5) (pa_cons pe_str pa_nil))))))))))
      (pss_one (ps_ret (pv 3))))))), ?_⟩
  refine ⟨by show 2 ≤ sizeLine; decide, fun t0 ht0 => ⟨t0, _, rfl, SqT.of upd_same, rfl, _, _, rfl, _, _, rfl, rfl, ?_⟩⟩
  have e0 := Ex.new (o := .tup [.str "abcdefghijklmnopqrstuvwxyz", .str "0123456789"]) ht0
  generalize upd H t0 (.tup [.str "abcdefghijklmnopqrstuvwxyz", .str "0123456789"]) = H1 at e0
  have tab1 := tab.ext e0
  refine ⟨Nat.zero_le _, fun L hLn => ?_⟩
  have e1 := Ex.new (o := .lst []) hLn
  have tab2 := tab1.ext e1
  have x2 := extN_ex (extN_ex (LamX.ExtN.refl H) e0) e1
  have hL2 : upd H1 L (.lst []) L = some (.lst []) := upd_same
  have nL : H L = none := e0.free hLn
  generalize upd H1 L (.lst []) = H2 at e1 tab2 x2 hL2
  dsimp only [gName]
  refine ⟨_, rfl, T', [32], 0, rfl, by omega, Nat.zero_le _, ?_⟩
  dsimp only [gName]
  have sk0 := hL0.skip
  rw [Nat.zero_add] at sk0
  refine ⟨fun m σ H' => ∃ (at_ : Nat) (ds rest : List Tk) (xs : List V) (v5 v6 v7 v8 v9 v10 : Option V), σ = [some (.str (tx T')), some (.str (tx LET)), some (.str (tx DIG)), some (.ref L), some (.int (at_ : Nat)), v5, v6, v7, v8, v9, v10] ∧ LamX.ExtN H H' ∧ LamX.Tabs (scT PT) H' ∧ H' L = some (.lst xs) ∧ TksIn H' xs ds ∧ at_ ≤ T'.length ∧ LexR at_ (T'.drop at_) rest er ∧ (T'.drop at_)[0]? ≠ some 32 ∧ ds ++ rest = ts ∧ xs.length ≤ at_ ∧ m = T'.length - at_,
    ⟨_, 0 + runN [32] (T'.drop 0), [], ts, [], _, _, _, _, _, _, rfl, x2, tab2, hL2, .nil, ?_, ?_, ?_, rfl, Nat.zero_le _, rfl⟩, ?_⟩
  · have := runN_le [32] (T'.drop 0)
    rw [List.length_drop] at this
    omega
  · rw [Nat.zero_add]
    exact sk0
  · intro z
    rw [Nat.zero_add] at z
    exact skip_head (r := T') z rfl
  rintro m σ H' ⟨at_, ds, rest, xs, v5, v6, v7, v8, v9, v10, rfl, ex, tabs, hLl, htk, hat, hlx, h32, hdr, hxl, rfl⟩
  refine ⟨_, rfl, _, rfl, _, rfl, by rw [tx_len, sizeLine_eq]; omega, _, _, rfl, rfl, _, rfl, iteD (fun c0 => ?_) fun c0 => ?_⟩
  · rw [tx_len] at c0
    have hpos : at_ < T'.length := by omega
    refine ⟨fun σ' H' => ∃ m', m' < T'.length - at_ ∧ _, fun _ _ h => h, ?_⟩
    obtain ⟨ch, hch⟩ : ∃ ch, T'[at_]? = some ch := ⟨T'[at_], by simp [hpos]⟩
    have hdrop : T'.drop at_ = ch :: T'.drop (at_ + 1) := by
      rw [List.drop_eq_getElem_cons hpos]
      rw [List.getElem?_eq_getElem hpos] at hch
      rw [Option.some.inj hch]
    have c32 : ch ≠ 32 := fun z => h32 (by rw [hdrop, z]; rfl)
    have dl : (T'.drop at_).length = T'.length - at_ := List.length_drop
    refine cut (fun σ' H2 => ∃ (E : Int) (v : V) (kk : Str) (g : Bool) (v9 v10 : Option V), σ' = [some (.str (tx T')), some (.str (tx LET)), some (.str (tx DIG)), some (.ref L), some (.int (at_ : Nat)), some (.int E), some v, some (.str kk), some (.bl g), v9, v10] ∧ LamX.ExtN H' H2 ∧ LamX.Tabs (scT PT) H2 ∧ (g = false → tokR (T'.drop at_) = none) ∧ (g = true → ∃ n : Nat, tokR (T'.drop at_) = some (kk, v, n) ∧ E = ((at_ + n : Nat) : Int))) ?_ ?_
    · rintro σ' H2 ⟨E, v, kk, g, v9, v10, rfl, x2, tab2, g0, g1⟩
      have hL2 := x2 _ _ hLl (fun ps => by simp)
      have htk2 := htk.mono fun a ys h => x2 _ _ h fun ps => by simp
      have ex2 := ex.trans x2
      cases hg : g with
      | false =>
        have tn := g0 hg
        rw [hdrop] at hlx tn
        cases hlx with
        | sp h => exact absurd rfl c32
        | tok h1 h2 => rw [tn] at h2; cases h2
        | bad h1 h2 => exact ⟨_, rfl, false, rfl, iteT ⟨_, rfl, ke at_ rfl H2 ex2 tab2⟩⟩
      | true =>
        obtain ⟨n, tn, rfl⟩ := g1 hg
        rw [hdrop] at hlx tn
        cases hlx with
        | sp h => exact absurd rfl c32
        | bad h1 h2 => rw [tn] at h2; cases h2
        | tok h1 h2 h3 h4 =>
          rename_i n' k' v' ts'
          rw [tn] at h2
          cases h2
          obtain ⟨_, n2⟩ := tokR_len tn
          rw [← hdrop, dl] at n2
          rw [← hdrop, List.drop_drop] at h4
          refine ⟨_, rfl, true, rfl, iteF ?_⟩
          refine ⟨_, rfl, .inl ⟨rfl, _, SqL.of hL2⟩, _, rfl, _, rfl, _, rfl, by show 3 ≤ sizeLine; decide, fun p2 hp2 => ?_⟩
          have e3 := Ex.new (o := .tup [.str kk, v, .int (at_ : Int)]) hp2
          have hL3 := e3 _ _ hL2
          have hp3 : upd H2 p2 (.tup [.str kk, v, .int (at_ : Int)]) p2 = some (.tup [.str kk, v, .int (at_ : Int)]) := upd_same
          have tab3 := tab2.ext e3
          have ex3 := extN_ex ex2 e3
          have htk3 := htk2.mono fun a ys h => e3 _ _ h
          generalize upd H2 p2 (.tup [.str kk, v, .int (at_ : Int)]) = H3 at hL3 hp3 tab3 ex3 htk3
          refine ⟨L, _, _, rfl, rfl, hL3, by rw [sizeLine_eq]; omega, ?_⟩
          refine ⟨_, rfl, _, rfl, T', [32], at_ + n, rfl, by omega, by omega, ?_⟩
          have sk := h4.skip
          rw [List.drop_drop] at sk
          have rle := runN_le [32] (T'.drop (at_ + n))
          rw [List.length_drop] at rle
          refine ⟨T'.length - (at_ + n + runN [32] (T'.drop (at_ + n))), by omega, at_ + n + runN [32] (T'.drop (at_ + n)), ds ++ [(kk, v, at_)], ts', xs ++ [.ref p2], _, _, _, _, _, _, rfl, extN_put ex3 nL, tabs_put tab3 hL3, upd_same, ?_, by omega, sk, ?_, by rw [List.append_assoc]; exact hdr, by simp only [List.length_append, List.length_cons, List.length_nil]; omega, rfl⟩
          · refine TksIn.snoc ⟨tokR_flat tn, p2, rfl, ?_⟩ (htk3.mono (tk_put hL3))
            exact tk_put hL3 _ _ hp3
          · intro z
            rw [← List.drop_drop] at z
            exact skip_head z rfl
    · intro N hN
      have tok := tokR_cons ch (T'.drop (at_ + 1))
      rw [← hdrop] at tok
      refine ⟨_, rfl, _, rfl, ixs hch (by omega) ⟨_, rfl, ch, _, rfl, rfl, _, rfl, iteD (fun c1 => ?_) fun c1 => ?_⟩⟩
      · have c1 : ch ∈ LET := by simpa using c1
        rw [if_pos c1] at tok
        have rl := runN_le NCH (T'.drop at_)
        have rp : 0 < runN NCH (T'.drop at_) := by rw [hdrop]; exact runN_pos (let_nch ch c1)
        refine ⟨_, rfl, _, rfl, _, rfl, _, rfl, cat_s (by decide) (cat_s (m := [95]) (by decide) ⟨T', LET ++ DIG ++ [95], at_, rfl, by omega, by omega, ?_⟩)⟩
        rw [run_nch]
        have htk9 : ((T'.drop at_).take (at_ + runN NCH (T'.drop at_) - at_)) = (T'.drop at_).take (runN NCH (T'.drop at_)) := by rw [Nat.add_sub_cancel_left]
        dsimp only [gName]
        refine ⟨_, rfl, _, rfl, _, rfl, _, rfl, _, rfl, sl_s (by omega) ?_⟩
        rw [htk9]
        dsimp only [gName]
        refine ⟨_, rfl, rfl, fun p9 hp9 => ?_⟩
        have e9 := Ex.new (o := .lst (sV RES)) hp9
        refine in_l (ls := RES) (.inl (SqL.of upd_same)) ⟨_, rfl, ?_⟩
        unfold tokL at tok
        have fin : ∀ (kk : Str), (if (T'.drop at_).take (runN NCH (T'.drop at_)) ∈ RES then ("reserved" : Str) else "name") = kk → N [some (.str (tx T')), some (.str (tx LET)), some (.str (tx DIG)), some (.ref L), some (.int (at_ : Nat)), some (.int ((at_ + runN NCH (T'.drop at_) : Nat) : Int)), some (.str (tx ((T'.drop at_).take (runN NCH (T'.drop at_))))), some (.str kk), some (.bl (decide (((at_ + runN NCH (T'.drop at_) : Nat) : Int) - (at_ : Int) < 13))), v9, v10] (upd H' p9 (.lst (sV RES))) := fun kk ek => by
          refine hN _ _ ⟨_, _, _, _, _, _, rfl, .of e9, tabs.ext e9, fun g => ?_, fun g => ⟨runN NCH (T'.drop at_), ?_, rfl⟩⟩
          · rw [tok, if_pos (by have := of_decide_eq_false g; omega)]
          · rw [tok, if_neg (by have := of_decide_eq_true g; omega), ek]
        refine iteD (fun r => ?_) fun r => ?_
        · exact ⟨_, rfl, _, rfl, _, _, rfl, rfl, _, _, rfl, rfl, fin "reserved" (by rw [if_pos r])⟩
        · exact ⟨_, rfl, _, rfl, _, _, rfl, rfl, _, _, rfl, rfl, fin "name" (by rw [if_neg r])⟩
      have c1 : ch ∉ LET := by simpa using c1
      rw [if_neg c1] at tok
      refine ⟨_, rfl, _, rfl, ixs hch (by omega) ⟨_, rfl, ch, _, rfl, rfl, _, rfl, iteD (fun c2 => ?_) fun c2 => ?_⟩⟩
      · have c2 : ch ∈ DIG := by simpa using c2
        rw [if_pos c2] at tok
        have rl := runN_le DIG (T'.drop at_)
        have rp : 0 < runN DIG (T'.drop at_) := by rw [hdrop]; exact runN_pos c2
        have bad := tokD_bad (r := T'.drop (at_ + 1)) c2
        rw [← hdrop] at bad
        have e48 : decide (V.str (tx [ch]) = V.str (tx [48])) = decide (ch = 48) := by rw [tx_eq]; simp
        refine ⟨_, rfl, _, rfl, _, rfl, T', DIG, at_, rfl, by omega, by omega, ?_⟩
        dsimp only [gName]
        have hcount : ((at_ + runN DIG (T'.drop at_) : Nat) : Int) - (at_ : Int) = (runN DIG (T'.drop at_) : Nat) := by omega
        refine cut (fun σ' H2 => ∃ g : Bool, σ' = [some (.str (tx T')), some (.str (tx LET)), some (.str (tx DIG)), some (.ref L), some (.int (at_ : Nat)), some (.int ((at_ + runN DIG (T'.drop at_) : Nat) : Int)), v6, v7, some (.bl g), v9, v10] ∧ H2 = H' ∧ (g = true ↔ (runN DIG (T'.drop at_) < 7 ∧ (runN DIG (T'.drop at_) = 1 ∨ ch ≠ 48)))) ?_ ?_
        · rintro σ' H2 ⟨g, rfl, rfl, hg⟩
          refine ⟨_, rfl, _, rfl, _, rfl, _, rfl, _, rfl, .inl ⟨_, _, rfl, rfl, _, _, rfl, _, rfl, ?_⟩⟩
          have hmin : (if (at_ : Int) + 6 < ((at_ + runN DIG (T'.drop at_) : Nat) : Int) then (at_ : Int) + 6 else ((at_ + runN DIG (T'.drop at_) : Nat) : Int)) = ((at_ + min (runN DIG (T'.drop at_)) 6 : Nat) : Int) := by
            split <;> omega
          rw [hmin]
          refine sl_s (a := at_) (b := at_ + min (runN DIG (T'.drop at_)) 6) (by omega) ?_
          rw [Nat.add_sub_cancel_left]
          obtain ⟨vv, hvv, _⟩ := int_of (cs := (T'.drop at_).take (min (runN DIG (T'.drop at_)) 6)) (fun d hd => take_run d (List.mem_of_mem_take (by rw [List.take_take, Nat.min_comm]; exact hd))) (fun e => by have := congrArg List.length e; rw [List.length_take] at this; simp at this; omega) (by rw [List.length_take]; omega)
          refine ⟨_, vv, rfl, hvv, by rw [tx_len, List.length_take]; omega, _, _, rfl, ?_⟩
          refine hN _ _ ⟨_, .int vv, "integer", g, _, _, rfl, LamX.ExtN.refl _, tabs, fun z => ?_, fun z => ⟨runN DIG (T'.drop at_), ?_, rfl⟩⟩
          · rw [tok]
            refine bad.mpr ?_
            have : ¬ (runN DIG (T'.drop at_) < 7 ∧ (runN DIG (T'.drop at_) = 1 ∨ ch ≠ 48)) := fun q => by rw [hg.mpr q] at z; cases z
            by_cases h7 : runN DIG (T'.drop at_) < 7
            · refine .inr ⟨?_, Classical.byContradiction fun q => this ⟨h7, .inr q⟩⟩
              refine Classical.byContradiction fun q => this ⟨h7, .inl (by omega)⟩
            · exact .inl (by omega)
          · obtain ⟨g7, g48⟩ := hg.mp z
            rw [show min (runN DIG (T'.drop at_)) 6 = runN DIG (T'.drop at_) by omega] at hvv
            rw [tok]
            unfold tokD
            rw [if_neg (fun q => by
              rcases q with q | ⟨q1, q2⟩
              · omega
              · rw [hdrop, List.getElem?_cons_zero] at q2
                rcases g48 with g | g
                · omega
                · exact g (Option.some.inj q2)), hvv]
            rfl
        · intro M hM
          refine ⟨_, rfl, _, rfl, _, _, rfl, rfl, _, _, rfl, rfl, _, rfl, iteD (fun d7 => ?_) fun d7 => ?_⟩
          · refine ⟨_, rfl, _, rfl, _, _, rfl, rfl, .inl ⟨rfl, _, rfl, iteD (fun d1 => ?_) fun d1 => ?_⟩⟩
            · have d1 := V.int.inj d1
              exact hM _ _ ⟨_, rfl, rfl, iff_of_true rfl ⟨by omega, .inl (by omega)⟩⟩
            · have d1 : ¬ (((at_ + runN DIG (T'.drop at_) : Nat) : Int) - (at_ : Int) = 1) := fun q => d1 (congrArg V.int q)
              refine ⟨_, rfl, _, rfl, ixs hch (by omega) (.inl ⟨rfl, ?_⟩)⟩
              refine hM _ _ ⟨!decide (V.str (tx [ch]) = V.str (tx [48])), rfl, rfl, ?_⟩
              rw [e48]
              by_cases q : ch = 48
              · rw [decide_eq_true q]
                exact iff_of_false (by decide) fun ⟨_, z⟩ => z.elim (fun z => by omega) fun z => z q
              · rw [decide_eq_false q]
                exact iff_of_true rfl ⟨by omega, .inr q⟩
          · exact hM _ _ ⟨_, rfl, rfl, iff_of_false (by decide) fun z => by have := z.1; omega⟩
      have c2 : ch ∉ DIG := by simpa using c2
      rw [if_neg c2] at tok
      have et : decide (V.str (tx [ch]) = V.str (tx [34])) = decide (ch = 34) := by rw [tx_eq]; simp
      refine ⟨_, rfl, _, rfl, ixs hch (by omega) (.inl ⟨rfl, _, rfl, ?_⟩)⟩
      show if decide (V.str (tx [ch]) = V.str (tx [34])) = true then _ else _
      rw [et]
      refine iteD (fun c3 => ?_) fun c3 => ?_
      · rw [if_pos c3] at tok
        generalize hw : ((T'.drop (at_ + 1)).takeWhile fun c => !decide (c = 34)) = w
        have wle : w.length ≤ (T'.drop (at_ + 1)).length := by rw [← hw]; exact (List.takeWhile_prefix _).length_le
        have dl1 : (T'.drop (at_ + 1)).length = T'.length - (at_ + 1) := List.length_drop
        have nin : 34 ∉ w := by
          intro h
          rw [← hw] at h
          have := takeWhile_all h
          simp at this
        have wW : isW w = decide (w.length ≤ 12) := by
          unfold isW
          have : (w.all fun c => decide (32 ≤ c) && decide (c ≤ 126) && !decide (c = 34)) = true := by
            rw [List.all_eq_true]
            intro d hd
            have hd' : d ∈ T' := by
              rw [← hw] at hd
              exact List.mem_of_mem_drop ((List.takeWhile_prefix _).subset hd)
            obtain ⟨p1, p2⟩ := hp d hd'
            rw [decide_eq_true p1, decide_eq_true p2, decide_eq_false (fun z : d = 34 => nin (z ▸ hd))]
            rfl
          rw [this, Bool.and_true]
        unfold tokW at tok
        dsimp only at tok
        rw [List.drop_drop, hw, wW] at tok
        refine ⟨_, rfl, rfl, _, rfl, .inl ⟨_, _, rfl, rfl, tx T', tx [34], ((at_ + 1 : Nat) : Int), rfl, rfl, .inl ⟨_, _, rfl, rfl, ?_⟩⟩⟩
        by_cases c4 : w.length < (T'.drop (at_ + 1)).length
        · have hlt : ((T'.drop (at_ + 1)).takeWhile fun c => !decide (c = 34)).length < (T'.drop (at_ + 1)).length := by rw [hw]; exact c4
          obtain ⟨d34, t, es, hd34⟩ := takeWhile_split _ hlt
          rw [hw] at es
          have ed : d34 = 34 := by simpa using hd34
          subst ed
          have hf := find_tx (i := at_ + 1) (by omega) es nin
          have hsl : ((T'.drop (at_ + 1)).take (at_ + 1 + w.length - (at_ + 1))) = w := by
            rw [Nat.add_sub_cancel_left, es, List.take_left]
          rw [hf]
          dsimp only [gName]
          refine ⟨_, rfl, _, _, rfl, rfl, _, rfl, iteDT (by omega) ⟨_, rfl, .inl ⟨_, _, rfl, rfl, _, _, rfl, rfl, ?_⟩⟩⟩
          dsimp only [gName]
          refine ⟨_, rfl, _, rfl, .inl ⟨_, _, rfl, rfl, _, rfl, _, rfl, _, _, rfl, rfl, _, rfl, ?_⟩⟩
          have eb : ((at_ + 1 + w.length : Nat) : Int) + 1 - 1 = ((at_ + 1 + w.length : Nat) : Int) := by omega
          rw [eb]
          refine sl_s (a := at_ + 1) (b := at_ + 1 + w.length) (by omega) ?_
          rw [hsl]
          refine ⟨_, _, rfl, ?_⟩
          refine hN _ _ ⟨_, .str (tx w), "word", _, _, _, rfl, LamX.ExtN.refl _, tabs, fun z => ?_, fun z => ⟨w.length + 2, ?_, by omega⟩⟩
          · have z := of_decide_eq_false z
            rw [tok, if_neg fun q => by have := of_decide_eq_true q.2; omega]
          · have z := of_decide_eq_true z
            rw [tok, if_pos ⟨by omega, decide_eq_true (by omega)⟩]
        · have none34 : 34 ∉ T'.drop (at_ + 1) := fun h => by
            have := takeWhile_eq (p := fun c => !decide (c = 34)) (r := T'.drop (at_ + 1)) (by rw [hw]; omega) 34 h
            simp at this
          rw [find_no (i := at_ + 1) (by omega) none34]
          dsimp only [gName]
          refine ⟨_, rfl, _, _, rfl, rfl, _, rfl, iteDF (by decide) ?_⟩
          dsimp only [gName]
          refine ⟨_, rfl, _, rfl, .inl ⟨_, _, rfl, rfl, _, rfl, _, rfl, _, _, rfl, rfl, _, rfl, tx T', rfl, by rw [tx_len, sizeLine_eq]; omega, _, _, rfl, ?_⟩⟩
          refine hN _ _ ⟨_, _, "word", false, _, _, rfl, LamX.ExtN.refl _, tabs, fun _ => ?_, fun z => by cases z⟩
          rw [tok, if_neg fun q => by have := q.1; omega]
      · rw [if_neg c3] at tok
        refine ⟨rfl, fun p9 hp9 => ⟨false, p9, _, rfl, SqK.lst upd_same, fun D hD => ?_⟩⟩
        have e9 := Ex.new (o := .lst (sV symOpts)) hp9
        have h99 : upd H' p9 (.lst (sV symOpts)) p9 = some (.lst (sV symOpts)) := upd_same
        generalize upd H' p9 (.lst (sV symOpts)) = H9 at e9 h99 hD
        refine lc_pure (walk_k (K := K) (k := false) (a := p9) (xs := sV symOpts)) hD (fun i => decide ((T'.drop at_).take (symOpts.getD i []).length = symOpts.getD i [])) (fun i => V.str (tx (symOpts.getD i []))) (by decide) (fun _ e => SqK.lst (e _ _ h99)) (fun i x Hc Hy hi e y Qe Qn qe qn => ?_) (fun H3 e3 hD3 => ?_)
        · obtain ⟨rfl, hx⟩ := y
          rw [List.getElem?_map] at hx
          obtain ⟨m, hm, rfl⟩ := Option.map_eq_some_iff.mp hx
          have em : symOpts.getD i [] = m := by rw [List.getD_eq_getElem?_getD, hm]; rfl
          rw [em] at qe qn
          have ml := (sym_facts.1 m (List.mem_of_getElem? hm)).1
          refine ⟨rfl, _, rfl, _, rfl, _, rfl, _, rfl, _, rfl, _, rfl, by rw [tx_len, sizeLine_eq]; omega, .inl ⟨_, _, rfl, rfl, _, rfl, ?_⟩⟩
          have eb : ((at_ : Nat) : Int) + ((tx m).length : Nat) = ((at_ + m.length : Nat) : Int) := by rw [tx_len]; omega
          rw [eb]
          refine sl_s (a := at_) (b := at_ + m.length) (by omega) ?_
          rw [Nat.add_sub_cancel_left]
          refine ⟨_, rfl, .inl ⟨rfl, _, rfl, ?_⟩⟩
          rw [tx_eq]
          refine iteD (fun q => ?_) fun q => ?_
          · exact ⟨_, rfl, qe (decide_eq_true q) _ (Ex.refl _)⟩
          · exact qn (decide_eq_false q) _ (Ex.refl _)
        have hD3 : H3 D = some (.lst (sV (symM (T'.drop at_)))) := by rw [hD3]; exact congrArg (fun l => some (HO.lst l)) (picked_sym (T'.drop at_))
        have E3 := e9.trans e3
        dsimp only [gName]
        refine ⟨_, rfl, Nat.zero_le _, fun z hz => ⟨D, z, _, rfl, rfl, SqL.of (Ex.new hz _ _ hD3), SqL.of upd_same, ?_⟩⟩
        have ez := Ex.new (o := .lst []) hz
        have hD4 := ez _ _ hD3
        have E4 := E3.trans ez
        generalize upd H3 z (.lst []) = H4 at hD4 E4
        dsimp only [gName]
        refine ⟨_, rfl, by show 1 ≤ sizeLine; decide, fun z2 hz2 => .inr (.inl ⟨D, z2, _, _, rfl, rfl, Ex.new hz2 _ _ hD4, upd_same, ?_, fun M hM => ?_⟩)⟩
        · have : (symM (T'.drop at_)).length ≤ 13 := List.length_filter_le ..
          rw [List.length_map, sizeLine_eq]
          show _ + 1 ≤ _
          omega
        have e5 := Ex.new (o := .lst [.str ""]) hz2
        have e6 := Ex.new (o := .lst (sV (symM (T'.drop at_)) ++ [.str ""])) hM
        have hM6 : upd (upd H4 z2 (.lst [.str ""])) M (.lst (sV (symM (T'.drop at_)) ++ [.str ""])) M = some (.lst (sV (symM (T'.drop at_) ++ [[]]))) := by rw [upd_same, sV, sV, List.map_append]; rfl
        have E6 := E4.trans (e5.trans e6)
        generalize upd (upd H4 z2 (.lst [.str ""])) M (.lst (sV (symM (T'.drop at_)) ++ [.str ""])) = H6 at hM6 E6
        refine ⟨tabs.ext E6, fun f9 c9 H7 eN T7 hfn hf9 hc9 => ?_⟩
        refine ⟨M, f9, c9, symM (T'.drop at_) ++ [[]], rfl, rfl, SqL.of (eN _ _ hM6 fun ps => by simp), hf9, hc9, by simp, fun x hx => ?_, fun i m hi best => ?_⟩
        · rcases List.mem_append.mp hx with hx | hx
          · have := (sym_facts.1 x (List.mem_filter.mp hx).1).1
            omega
          · rw [List.mem_singleton.mp hx]; decide
        rw [hdrop] at hi best
        obtain ⟨m2, mx⟩ := sym_max hi best
        refine ⟨_, _, rfl, ?_⟩
        refine ⟨_, rfl, _, rfl, _, rfl, by rw [tx_len, sizeLine_eq]; omega, .inl ⟨_, _, rfl, rfl, ?_⟩⟩
        refine hN _ _ ⟨_, .str (tx m), "symbol", _, _, _, rfl, (LamX.ExtN.of E6).trans eN, T7, fun z => ?_, fun z => ⟨m.length, ?_, by rw [tx_len]; omega⟩⟩
        · rw [tok]
          rw [hdrop] at z ⊢
          refine sym_none.mp ?_
          have z : (sV (symM (ch :: T'.drop (at_ + 1)))).isEmpty = true := by simpa using z
          rw [List.isEmpty_iff] at z
          exact List.map_eq_nil_iff.mp z
        · rw [tok]
          rw [hdrop] at z ⊢
          cases hs : symR ch (ch :: T'.drop (at_ + 1)) with
          | none =>
            rw [sym_none.mpr hs] at z
            cases z
          | some q =>
            obtain ⟨k, v, n⟩ := q
            obtain ⟨a, b, d⟩ := mx _ _ _ hs
            rw [a, b, d]
  · rw [tx_len] at c0
    have e9 : T'.drop at_ = [] := List.drop_of_length_le (by omega)
    rw [e9] at hlx
    cases hlx
    rw [List.append_nil] at hdr
    subst hdr
    exact ⟨_, rfl, kq rfl H' L xs ex tabs hLl (by omega) htk⟩
end
end K49
set_option maxHeartbeats 4000000
namespace K49
open PySem PySem.Spec PyProof.Rows L2 Hg
section
variable {P : Program} {w : World} {K : PySem.W.Frag} {mg : Str → Option Value} {base : Heap}
open Tk
theorem ok_l_token {f : Addr} {fd : FuncData} (F : DefK K mg "_law_token" st_l_token ["_law_stream"] f fd) (Z : Zs mg) (CG : CGs K mg) {f_l_draw : Addr} {fd_l_draw : FuncData} (D_l_draw : DefK K mg "_law_draw" st_l_draw ["_law_stream", "_law_many"] f_l_draw fd_l_draw) (G_l_draw : FnOk P w K mg base CX0 1 f_l_draw fd_l_draw ["_law_stream", "_law_many"] (sp_l_draw K)) {f_l_reserved : Addr} {fd_l_reserved : FuncData} (D_l_reserved : DefK K mg "_law_reserved" st_l_reserved [] f_l_reserved fd_l_reserved) (G_l_reserved : FnOk P w K mg base CX0 1 f_l_reserved fd_l_reserved [] (sp_l_reserved K)) {f_l_name : Addr} {fd_l_name : FuncData} (D_l_name : DefK K mg "_law_name" st_l_name ["_law_stream"] f_l_name fd_l_name) (G_l_name : FnOk P w K mg base CX0 2 f_l_name fd_l_name ["_law_stream"] (sp_l_name K)) {f_l_symbols : Addr} {fd_l_symbols : FuncData} (D_l_symbols : DefK K mg "_law_symbols" st_l_symbols [] f_l_symbols fd_l_symbols) (G_l_symbols : FnOk P w K mg base CX0 1 f_l_symbols fd_l_symbols [] (sp_l_symbols K)) :
    FnOk P w K mg base CX0 3 f fd ["_law_stream"] (sp_l_token K) := by
  refine F.fn.ok sc_l_token (fun vs H Q E h => by first | exact listedM_len h | (obtain ⟨rfl, _⟩ := h; rfl) | (obtain ⟨_, rfl, _⟩ := h; rfl) | (obtain ⟨_, _, rfl, _⟩ := h; rfl) | (obtain ⟨_, _, _, rfl, _⟩ := h; rfl) | (obtain ⟨_, _, _, _, rfl, _⟩ := h; rfl) | (obtain ⟨_, _, _, _, _, rfl, _⟩ := h; rfl) | (obtain ⟨_, _, _, _, _, _, rfl, _⟩ := h; rfl) | (obtain ⟨_, _, _, _, _, _, _, rfl, _⟩ := h; rfl) | (obtain ⟨_, _, _, _, _, _, _, _, rfl, _⟩ := h; rfl) | (obtain ⟨_, _, _, _, _, _, _, _, _, rfl, _⟩ := h; rfl) | (obtain ⟨_, _, _, _, _, _, _, _, _, _, rfl, _⟩ := h; rfl) | (obtain ⟨_, _, _, _, _, _, _, _, _, _, _, rfl, _⟩ := h; rfl) | (obtain ⟨_, _, _, _, _, _, _, _, _, _, _, _, rfl, _⟩ := h; rfl) | (obtain ⟨_, _, _, _, _, _, _, _, _, _, _, _, _, rfl, _⟩ := h; rfl) | (obtain ⟨_, _, _, _, _, _, _, _, _, _, _, _, _, _, rfl, _⟩ := h; rfl) | (obtain ⟨_, _, _, _, _, _, _, _, _, _, _, _, _, _, _, rfl, _⟩ := h; rfl) | (obtain ⟨_, _, _, _, _, _, _, _, _, _, _, _, _, _, _, _, rfl, _⟩ := h; rfl) | (obtain ⟨_, _, _, _, _, _, _, _, _, _, _, _, _, _, _, _, _, rfl, _⟩ := h; rfl) | (obtain ⟨_, _, _, _, _, _, _, _, _, _, _, _, _, _, _, _, _, _, rfl, _⟩ := h; rfl) | (obtain ⟨_, _, _, _, _, _, _, _, _, _, _, _, _, _, _, _, _, _, _, rfl, _⟩ := h; rfl) | (obtain ⟨_, _, _, _, _, _, _, _, _, _, _, _, _, _, _, _, _, _, _, _, rfl, _⟩ := h; rfl) | (obtain ⟨_, _, _, _, _, _, _, _, _, _, _, _, _, _, _, _, _, _, _, _, _, rfl, _⟩ := h; rfl) | (obtain ⟨_, _, _, _, _, _, _, _, _, _, _, _, _, _, _, _, _, _, _, _, _, _, rfl, _⟩ := h; rfl) | (obtain ⟨_, _, _, _, _, _, _, _, _, _, _, _, _, _, _, _, _, _, _, _, _, _, _, rfl, _⟩ := h; rfl)) (fun cdv A outer s H vs Q E hr h => ?_)
  obtain ⟨s0, q, B, G, rfl, O, hB, kq⟩ := h
  refine ⟨_, (pss_cons (ps_set (i := 1) sc_l_token.nd rfl (.inl rfl) (pe_call G_l_draw (hr.mono (by decide)) rfl D_l_draw.mg D_l_draw.fn.kp D_l_draw.bd .nil pass0 (pa_cons (pv 0) (pa_cons pe_int pa_nil))))
      (pss_cons (ps_if (pt_cmpR (kEq (K := K) hr.units) (pv 1) pe_int (nomark _)) (pss_cons (ps_set (i := 2) sc_l_token.nd rfl (.inl rfl) (pe_ix (kIx (K := K)) (pe_lst (pa_cons pe_int (pa_cons pe_int (pa_cons pe_int (pa_cons pe_int (pa_cons pe_int (pa_cons pe_int pa_nil))))))) (pe_call G_l_draw (hr.mono (by decide)) rfl D_l_draw.mg D_l_draw.fn.kp D_l_draw.bd .nil pass0 (pa_cons (pv 0) (pa_cons pe_int pa_nil))) (fun _ _ => rfl)))
      (pss_one (ps_ret (pe_tup (pa_cons pe_str (pa_cons (pv 2) (pa_cons (pe_callTy call_str_int (by rfl) Z.str_ PyProof.Rows.Boot.«str» (pa_cons (pv 2) pa_nil)) pa_nil))))))) pss_nil)
      (pss_cons (ps_if (pt_cmpR (kEq (K := K) hr.units) (pv 1) pe_int (nomark _)) (pss_cons (ps_set (i := 3) sc_l_token.nd rfl (.inl rfl) (pe_lst (pa_cons pe_str (pa_cons pe_str (pa_cons pe_str (pa_cons pe_str (pa_cons pe_str (pa_cons pe_str (pa_cons pe_str (pa_cons pe_str (pa_cons pe_str (pa_cons pe_str (pa_cons pe_str (pa_cons pe_str (pa_cons pe_str (pa_cons pe_str (pa_cons pe_str (pa_cons pe_str pa_nil))))))))))))))))))
      (pss_cons (ps_set (i := 4) sc_l_token.nd rfl (.inl rfl) (pe_ix (kIx (K := K)) (pv 3) (pe_call G_l_draw (hr.mono (by decide)) rfl D_l_draw.mg D_l_draw.fn.kp D_l_draw.bd .nil pass0 (pa_cons (pv 0) (pa_cons pe_int pa_nil))) (fun _ _ => rfl)))
      (pss_one (ps_ret (pe_tup (pa_cons pe_str (pa_cons (pv 4) (pa_cons (pe_op (kAdd (K := K)) (pe_op (kAdd (K := K)) pe_str (pv 4)) pe_str) pa_nil)))))))) pss_nil)
      (pss_cons (ps_if (pt_cmpR (kEq (K := K) hr.units) (pv 1) pe_int (nomark _)) (pss_cons (ps_set (i := 5) sc_l_token.nd rfl (.inl rfl) (pe_ix (kIx (K := K)) (pe_call0 G_l_symbols (hr.mono (by decide)) rfl D_l_symbols.mg D_l_symbols.fn.kp D_l_symbols.bd .nil pass0) (pe_call G_l_draw (hr.mono (by decide)) rfl D_l_draw.mg D_l_draw.fn.kp D_l_draw.bd .nil pass0 (pa_cons (pv 0) (pa_cons pe_int pa_nil))) (fun _ _ => rfl)))
      (pss_one (ps_ret (pe_tup (pa_cons pe_str (pa_cons (pv 5) (pa_cons (pv 5) pa_nil))))))) pss_nil)
      (pss_cons (ps_if (pt_cmpR (kEq (K := K) hr.units) (pv 1) pe_int (nomark _)) (pss_cons (ps_set (i := 4) sc_l_token.nd rfl (.inl rfl) (pe_ix (kIx (K := K)) (pe_call0 G_l_reserved (hr.mono (by decide)) rfl D_l_reserved.mg D_l_reserved.fn.kp D_l_reserved.bd .nil pass0) (pe_call G_l_draw (hr.mono (by decide)) rfl D_l_draw.mg D_l_draw.fn.kp D_l_draw.bd .nil pass0 (pa_cons (pv 0) (pa_cons pe_int pa_nil))) (fun _ _ => rfl)))
      (pss_one (ps_ret (pe_tup (pa_cons pe_str (pa_cons (pv 4) (pa_cons (pv 4) pa_nil))))))) pss_nil)
      (pss_cons (ps_set (i := 6) sc_l_token.nd rfl (.inl rfl) (pe_op (kAdd (K := K)) (pe_ix (kIx (K := K)) (pe_call0 G_l_reserved (hr.mono (by decide)) rfl D_l_reserved.mg D_l_reserved.fn.kp D_l_reserved.bd .nil pass0) (pe_call G_l_draw (hr.mono (by decide)) rfl D_l_draw.mg D_l_draw.fn.kp D_l_draw.bd .nil pass0 (pa_cons (pv 0) (pa_cons pe_int pa_nil))) (fun _ _ => rfl)) (pe_ix (kIx (K := K)) (pe_lst (pa_cons pe_str (pa_cons pe_str (pa_cons pe_str (pa_cons pe_str pa_nil))))) (pe_call G_l_draw (hr.mono (by decide)) rfl D_l_draw.mg D_l_draw.fn.kp D_l_draw.bd .nil pass0 (pa_cons (pv 0) (pa_cons pe_int pa_nil))) (fun _ _ => rfl))))
      (pss_cons (ps_set (i := 7) sc_l_token.nd rfl (.inl rfl) (pe_ix (kIx (K := K)) (pe_lst (pa_cons (pe_call G_l_name (hr.mono (by decide)) rfl D_l_name.mg D_l_name.fn.kp D_l_name.bd .nil pass0 (pa_cons (pv 0) pa_nil)) (pa_cons (pv 6) pa_nil))) (pe_call G_l_draw (hr.mono (by decide)) rfl D_l_draw.mg D_l_draw.fn.kp D_l_draw.bd .nil pass0 (pa_cons (pv 0) (pa_cons pe_int pa_nil))) (fun _ _ => rfl)))
      (pss_one (ps_ret (pe_tup (pa_cons pe_str (pa_cons (pv 7) (pa_cons (pv 7) pa_nil))))))))))))), ?_⟩
  refine ⟨_, rfl, s0, q, _, _, 5, rfl, O, by omega, by decide, by decide, fun way H1 w0 w1 O1 => ?_⟩
  refine ⟨_, rfl, .inl ⟨rfl, _, rfl, iteV (fun c => ?_) fun c0 => ?_⟩⟩
  · refine ⟨by show 6 ≤ sizeLine; decide, fun l hl => ⟨_, rfl, s0, q, _, _, 6, rfl, O1.new hl, by omega, by decide, by decide, fun r H2 r0 r1 O2 => ?_⟩⟩
    obtain ⟨v, hv, hm⟩ := menu (n := 6) r0 r1 (vs := [.int 0, .int 1, .int 7, .int 10, .int 999999, .int 100000]) rfl
    have hvz : ∃ (z : Int) (d : List Nat), v = .int z ∧ (z, d) ∈ intOpts ∧ (toString z : Str) = tx d ∧ z.natAbs.log2 < 1920 := by
      simp only [List.mem_cons, List.not_mem_nil, or_false] at hm
      rcases hm with h | h | h | h | h | h
      · exact ⟨0, [48], h, by decide, by decide +kernel, by decide⟩
      · exact ⟨1, [49], h, by decide, by decide +kernel, by decide⟩
      · exact ⟨7, [55], h, by decide, by decide +kernel, by decide⟩
      · exact ⟨10, [49, 48], h, by decide, by decide +kernel, by decide⟩
      · exact ⟨999999, [57, 57, 57, 57, 57, 57], h, by decide, by decide +kernel, by decide⟩
      · exact ⟨100000, [49, 48, 48, 48, 48, 48], h, by decide, by decide +kernel, by decide⟩
    obtain ⟨z, d, rfl, hz, hs, hlog⟩ := hvz
    refine ixl (O2.sub _ _ upd_same) hv ?_
    have O2 := O2.weak (Ex.new (O1.sub.free hl))
    refine ⟨_, rfl, _, rfl, z, rfl, hlog, ?_⟩
    rw [hs]
    refine ⟨by show 3 ≤ sizeLine; decide, fun p hp => ?_⟩
    exact kq ("integer", .int z, d) p _ _ (.int hz) (Ex.new (O2.sub.free hp)) ((O2.new hp).more (by omega)) upd_same
  refine ⟨_, rfl, .inl ⟨rfl, _, rfl, iteV (fun c => ?_) fun c1 => ?_⟩⟩
  · refine ⟨by show 16 ≤ sizeLine; decide, fun l hl => ?_⟩
    have O2 : Ov s0 q (B + 1) (upd G l (.lst (sV wordOpts))) (upd H1 l (.lst (sV wordOpts))) := O1.new hl
    refine ⟨_, rfl, _, rfl, s0, q, _, _, 16, rfl, O2, by omega, by decide, by decide, fun r H2 r0 r1 O2 => ?_⟩
    obtain ⟨v, hv, hm⟩ := menu (n := 16) r0 r1 (vs := sV wordOpts) rfl
    obtain ⟨m, hmm, rfl⟩ := List.mem_map.mp hm
    refine ixl (O2.sub _ _ upd_same) hv ?_
    have O2 := O2.weak (Ex.new (O1.sub.free hl))
    have hml : m.length ≤ 12 := by
      have f : (wordOpts.all fun m => decide (m.length ≤ 12)) = true := by decide +kernel
      exact of_decide_eq_true (List.all_eq_true.mp f m hmm)
    refine ⟨_, rfl, _, rfl, cat_s (l := [34]) (by simp; omega) (cat_s (l := [34] ++ m) (m := [34]) (by simp; omega) ⟨by show 3 ≤ sizeLine; decide, fun p hp => ?_⟩)⟩
    exact kq ("word", .str (tx m), 34 :: (m ++ [34])) p _ _ (.word hmm) (Ex.new (O2.sub.free hp)) ((O2.new hp).more (by omega)) upd_same
  refine ⟨_, rfl, .inl ⟨rfl, _, rfl, iteV (fun c => ?_) fun c2 => ?_⟩⟩
  · refine ⟨rfl, fun l hl => ?_⟩
    refine ⟨_, rfl, s0, q, _, _, 13, rfl, O1.new hl, by omega, by decide, by decide, fun r H2 r0 r1 O2 => ?_⟩
    obtain ⟨v, hv, hm⟩ := menu (n := 13) r0 r1 (vs := sV symOpts) rfl
    obtain ⟨m, hmm, rfl⟩ := List.mem_map.mp hm
    refine ixl (O2.sub _ _ upd_same) hv ?_
    have O2 := O2.weak (Ex.new (O1.sub.free hl))
    refine ⟨_, rfl, _, rfl, by show 3 ≤ sizeLine; decide, fun p hp => ?_⟩
    exact kq ("symbol", .str (tx m), m) p _ _ (.sym hmm) (Ex.new (O2.sub.free hp)) ((O2.new hp).more (by omega)) upd_same
  refine ⟨_, rfl, .inl ⟨rfl, _, rfl, iteV (fun c => ?_) fun c3 => ?_⟩⟩
  · refine ⟨rfl, fun l hl => ?_⟩
    refine ⟨_, rfl, s0, q, _, _, 13, rfl, O1.new hl, by omega, by decide, by decide, fun r H2 r0 r1 O2 => ?_⟩
    obtain ⟨v, hv, hm⟩ := menu (n := 13) r0 r1 (vs := sV RES) rfl
    obtain ⟨m, hmm, rfl⟩ := List.mem_map.mp hm
    refine ixl (O2.sub _ _ upd_same) hv ?_
    have O2 := O2.weak (Ex.new (O1.sub.free hl))
    refine ⟨_, rfl, _, rfl, by show 3 ≤ sizeLine; decide, fun p hp => ?_⟩
    exact kq ("reserved", .str (tx m), m) p _ _ (.res hmm) (Ex.new (O2.sub.free hp)) ((O2.new hp).more (by omega)) upd_same
  -- near
  refine ⟨rfl, fun l hl => ?_⟩
  refine ⟨_, rfl, s0, q, _, _, 13, rfl, O1.new hl, by omega, by decide, by decide, fun r H2 r0 r1 O2 => ?_⟩
  obtain ⟨v, hv, hm⟩ := menu (n := 13) r0 r1 (vs := sV RES) rfl
  obtain ⟨m, hmm, rfl⟩ := List.mem_map.mp hm
  refine ixl (O2.sub _ _ upd_same) hv ?_
  have O2 := O2.weak (Ex.new (O1.sub.free hl))
  refine ⟨by show 4 ≤ sizeLine; decide, fun l3 hl3 => ?_⟩
  have O3 : Ov s0 q (B + 2) (upd G l3 (.lst (sV [[115], [95], [49], [99, 111, 117, 110, 116]]))) (upd H2 l3 (.lst (sV [[115], [95], [49], [99, 111, 117, 110, 116]]))) := O2.new hl3
  refine ⟨_, rfl, s0, q, _, _, 4, rfl, O3, by omega, by decide, by decide, fun r2 H3 r20 r21 O3 => ?_⟩
  obtain ⟨v2, hv2, hm2⟩ := menu (n := 4) r20 r21 (vs := sV [[115], [95], [49], [99, 111, 117, 110, 116]]) rfl
  obtain ⟨m2, hmm2, rfl⟩ := List.mem_map.mp hm2
  refine ixl (O3.sub _ _ upd_same) hv2 ?_
  have O3 := O3.weak (Ex.new (O2.sub.free hl3))
  have near : NameOk (m ++ m2) ∧ m ++ m2 ∉ RES := by
    have f : (RES.all fun a => ([[115], [95], [49], [99, 111, 117, 110, 116]] : List (List Nat)).all fun b => ((a ++ b).head?.any fun c => decide (c ∈ LET)) && ((a ++ b).all fun c => decide (c ∈ NCH)) && decide ((a ++ b).length ≤ 12) && !decide (a ++ b ∈ RES)) = true := by decide +kernel
    have f := List.all_eq_true.mp (List.all_eq_true.mp f m hmm) m2 hmm2
    simp only [Bool.and_eq_true, Bool.not_eq_true', decide_eq_true_eq, decide_eq_false_iff_not, List.all_eq_true] at f
    obtain ⟨⟨⟨f1, f2⟩, f3⟩, f4⟩ := f
    refine ⟨⟨?_, f2, f3⟩, f4⟩
    cases hh : m ++ m2 with
    | nil => rw [hh] at f1; simp at f1
    | cons c t => rw [hh] at f1; exact ⟨c, t, rfl, by simpa using f1⟩
  refine cat_s (by have := near.1.2.2; rw [List.length_append] at this; omega) ?_
  refine ⟨_, rfl, s0, q, _, _, rfl, O3, by omega, fun m4 H4 ok4 nr4 O4 => ?_⟩
  refine ⟨_, rfl, by show 2 ≤ sizeLine; decide, fun l5 hl5 => ?_⟩
  have O5 : Ov s0 q (B + 3 + 13) (upd G l5 (.lst (sV [m4, m ++ m2]))) (upd H4 l5 (.lst (sV [m4, m ++ m2]))) := O4.new hl5
  refine ⟨_, rfl, s0, q, _, _, 2, rfl, O5, by omega, by decide, by decide, fun r6 H6 r60 r61 O6 => ?_⟩
  obtain ⟨v6, hv6, hm6⟩ := menu (n := 2) r60 r61 (vs := sV [m4, m ++ m2]) rfl
  obtain ⟨m6, hmm6, rfl⟩ := List.mem_map.mp hm6
  refine ixl (O6.sub _ _ upd_same) hv6 ?_
  have O6 := O6.weak (Ex.new (O4.sub.free hl5))
  refine ⟨_, rfl, _, rfl, by show 3 ≤ sizeLine; decide, fun p hp => ?_⟩
  refine kq ("name", .str (tx m6), m6) p _ _ ?_ (Ex.new (O6.sub.free hp)) ((O6.new hp).more (by omega)) upd_same
  simp only [List.mem_cons, List.not_mem_nil, or_false] at hmm6
  rcases hmm6 with h | h <;> subst h
  · exact .name ok4 nr4
  · exact .name near.1 near.2
end
end K49
set_option maxHeartbeats 4000000
namespace K49
open PySem PySem.Spec PyProof.Rows L2 Hg
section
variable {P : Program} {w : World} {K : PySem.W.Frag} {mg : Str → Option Value} {base : Heap}
open Tk
theorem ok_l_piece {f : Addr} {fd : FuncData} (F : DefK K mg "_law_piece" st_l_piece ["_law_stream"] f fd) (Z : Zs mg) (CG : CGs K mg) {f_l_draw : Addr} {fd_l_draw : FuncData} (D_l_draw : DefK K mg "_law_draw" st_l_draw ["_law_stream", "_law_many"] f_l_draw fd_l_draw) (G_l_draw : FnOk P w K mg base CX0 1 f_l_draw fd_l_draw ["_law_stream", "_law_many"] (sp_l_draw K)) {f_l_token : Addr} {fd_l_token : FuncData} (D_l_token : DefK K mg "_law_token" st_l_token ["_law_stream"] f_l_token fd_l_token) (G_l_token : FnOk P w K mg base CX0 3 f_l_token fd_l_token ["_law_stream"] (sp_l_token K)) :
    FnOk P w K mg base CX0 4 f fd ["_law_stream"] (sp_l_piece K) := by
  refine F.fn.ok sc_l_piece (fun vs H Q E h => by first | exact listedM_len h | (obtain ⟨rfl, _⟩ := h; rfl) | (obtain ⟨_, rfl, _⟩ := h; rfl) | (obtain ⟨_, _, rfl, _⟩ := h; rfl) | (obtain ⟨_, _, _, rfl, _⟩ := h; rfl) | (obtain ⟨_, _, _, _, rfl, _⟩ := h; rfl) | (obtain ⟨_, _, _, _, _, rfl, _⟩ := h; rfl) | (obtain ⟨_, _, _, _, _, _, rfl, _⟩ := h; rfl) | (obtain ⟨_, _, _, _, _, _, _, rfl, _⟩ := h; rfl) | (obtain ⟨_, _, _, _, _, _, _, _, rfl, _⟩ := h; rfl) | (obtain ⟨_, _, _, _, _, _, _, _, _, rfl, _⟩ := h; rfl) | (obtain ⟨_, _, _, _, _, _, _, _, _, _, rfl, _⟩ := h; rfl) | (obtain ⟨_, _, _, _, _, _, _, _, _, _, _, rfl, _⟩ := h; rfl) | (obtain ⟨_, _, _, _, _, _, _, _, _, _, _, _, rfl, _⟩ := h; rfl) | (obtain ⟨_, _, _, _, _, _, _, _, _, _, _, _, _, rfl, _⟩ := h; rfl) | (obtain ⟨_, _, _, _, _, _, _, _, _, _, _, _, _, _, rfl, _⟩ := h; rfl) | (obtain ⟨_, _, _, _, _, _, _, _, _, _, _, _, _, _, _, rfl, _⟩ := h; rfl) | (obtain ⟨_, _, _, _, _, _, _, _, _, _, _, _, _, _, _, _, rfl, _⟩ := h; rfl) | (obtain ⟨_, _, _, _, _, _, _, _, _, _, _, _, _, _, _, _, _, rfl, _⟩ := h; rfl) | (obtain ⟨_, _, _, _, _, _, _, _, _, _, _, _, _, _, _, _, _, _, rfl, _⟩ := h; rfl) | (obtain ⟨_, _, _, _, _, _, _, _, _, _, _, _, _, _, _, _, _, _, _, rfl, _⟩ := h; rfl) | (obtain ⟨_, _, _, _, _, _, _, _, _, _, _, _, _, _, _, _, _, _, _, _, rfl, _⟩ := h; rfl) | (obtain ⟨_, _, _, _, _, _, _, _, _, _, _, _, _, _, _, _, _, _, _, _, _, rfl, _⟩ := h; rfl) | (obtain ⟨_, _, _, _, _, _, _, _, _, _, _, _, _, _, _, _, _, _, _, _, _, _, rfl, _⟩ := h; rfl) | (obtain ⟨_, _, _, _, _, _, _, _, _, _, _, _, _, _, _, _, _, _, _, _, _, _, _, rfl, _⟩ := h; rfl)) (fun cdv A outer s H vs Q E hr h => ?_)
  obtain ⟨s0, q, B, G, rfl, O, hB, kq⟩ := h
  refine ⟨_, (pss_cons (ps_set (i := 1) sc_l_piece.nd rfl (.inl rfl) (pe_lst (pa_cons pe_str (pa_cons pe_str (pa_cons pe_str (pa_cons pe_str (pa_cons pe_str (pa_cons pe_str (pa_cons (pe_op op_mulS pe_str pe_int) (pa_cons pe_str (pa_cons (pe_op (kAdd (K := K)) (pe_op (kAdd (K := K)) pe_str (pe_op op_mulS pe_str pe_int)) pe_str) (pa_cons pe_str (pa_cons pe_str (pa_cons pe_str (pa_cons pe_str pa_nil)))))))))))))))
      (pss_cons (ps_set (i := 1) sc_l_piece.nd rfl (.inl rfl) (pe_op (kAdd (K := K)) (pv 1) (pe_lst (pa_cons pe_str (pa_cons pe_str (pa_cons pe_str pa_nil))))))
      (pss_cons (ps_if (pt_cmpR op_gt (pe_call G_l_draw (hr.mono (by decide)) rfl D_l_draw.mg D_l_draw.fn.kp D_l_draw.bd .nil pass0 (pa_cons (pv 0) (pa_cons pe_int pa_nil))) pe_int (nomark _)) (pss_one (ps_ret (pe_ix (kIx (K := K)) (pe_call G_l_token (hr.mono (by decide)) rfl D_l_token.mg D_l_token.fn.kp D_l_token.bd .nil pass0 (pa_cons (pv 0) pa_nil)) pe_int (fun _ _ => rfl)))) pss_nil)
      (pss_one (ps_ret (pe_ix (kIx (K := K)) (pv 1) (pe_call G_l_draw (hr.mono (by decide)) rfl D_l_draw.mg D_l_draw.fn.kp D_l_draw.bd .nil pass0 (pa_cons (pv 0) (pa_cons pe_int pa_nil))) (fun _ _ => rfl))))))), ?_⟩
  refine ⟨[97], 13, rfl, rfl, by decide, by decide, ?_⟩
  refine ⟨[119], 13, rfl, rfl, by decide, by decide, ?_⟩
  refine cat_s (l := [34]) (by decide) (cat_s (m := [34]) (by decide) ?_)
  refine ⟨by show 13 ≤ sizeLine; decide, fun l hl => ?_⟩
  have O1 := O.drop (o := .lst (sV (oddOpts.take 13))) hl
  have hl1 : upd H l (.lst (sV (oddOpts.take 13))) l = some (.lst (sV (oddOpts.take 13))) := upd_same
  generalize hH1 : upd H l (.lst (sV (oddOpts.take 13))) = H1 at O1 hl1
  refine (show gName 1 _ _ (upd H l (.lst (sV (oddOpts.take 13)))) _ from ?_)
  rw [hH1]
  dsimp only [gName]
  refine ⟨_, rfl, by show 3 ≤ sizeLine; decide, fun l2 hl2 => ?_⟩
  refine .inr (.inl ⟨l, l2, _, _, rfl, rfl, Ex.new hl2 _ _ hl1, upd_same, by show 13 + 3 ≤ sizeLine; decide, fun l3 hl3 => ?_⟩)
  have O2 := O1.drop (o := .lst (sV (oddOpts.drop 13))) hl2
  have O3 := O2.new (o := .lst (sV oddOpts)) hl3
  have wk := Ex.new (o := .lst (sV oddOpts)) (O2.sub.free hl3)
  have hg3 : upd G l3 (.lst (sV oddOpts)) l3 = some (.lst (sV oddOpts)) := upd_same
  generalize upd G l3 (.lst (sV oddOpts)) = G3' at O3 wk hg3
  have hl33 : upd (upd H1 l2 (.lst (sV (oddOpts.drop 13)))) l3 (.lst (sV oddOpts)) l3 = some (.lst (sV oddOpts)) := upd_same
  generalize hH3 : upd (upd H1 l2 (.lst (sV (oddOpts.drop 13)))) l3 (.lst (sV oddOpts)) = H3 at O3 hl33
  refine (show gName 1 _ _ (upd (upd H1 l2 (.lst (sV (oddOpts.drop 13)))) l3 (.lst (sV oddOpts))) _ from ?_)
  rw [hH3]
  dsimp only [gName]
  refine ⟨_, rfl, s0, q, _, _, 5, rfl, O3, by omega, by decide, by decide, fun r H4 r0 r1 O4 => ⟨_, _, rfl, rfl, _, rfl, iteD (fun c => ?_) fun c => ?_⟩⟩
  · refine ⟨_, rfl, s0, q, _, _, rfl, O4, by omega, fun t p G2 H5 gt ex2 O5 hp => ?_⟩
    obtain ⟨g1, g2⟩ := gt_prn gt
    exact ixt (O5.sub _ _ hp) (atI_nat (j := 2) rfl) (kq _ _ (by omega) g2 ((O5.weak (wk.trans ex2)).more (by omega)))
  · refine ⟨_, rfl, _, rfl, s0, q, _, _, 16, rfl, O4, by omega, by decide, by decide, fun r2 H5 q0 q1 O5 => ?_⟩
    obtain ⟨v, hv, hm⟩ := menu (n := 16) q0 q1 (vs := sV oddOpts) rfl
    obtain ⟨m, hm2, rfl⟩ := List.mem_map.mp hm
    obtain ⟨p1, p2⟩ := odd_prn hm2
    exact ixl (O5.sub _ _ hg3) hv (kq _ _ p1 p2 ((O5.weak wk).more (by omega)))
end
end K49
namespace Hg
open PySem PySem.Spec PyProof.Rows L2
/-! ### len of an object of a class with its own __len__ -/
end Hg
set_option maxHeartbeats 4000000
namespace Hn
/-! ### rows with bounds of their own: sums of bits -/
def pre : List Nat → Nat → Nat
  | _, 0 => 0
  | [], _ + 1 => 0
  | x :: xs, k + 1 => x + 13 + pre xs k
/-- two rows on the way of Euclid on the form's values, with numbers of both -/
structure EuT (n V C : Nat) (f : Vc) (l r : List Int) : Prop where
  ll : l.length = n
  rl : r.length = n
  nz : dv n f (fv l) ≠ 0
  lv : (dv n f (fv l)).natAbs ≤ V
  rv : (dv n f (fv r)).natAbs ≤ V
  ab : ∃ a b : Nat, bnd a (fv l) ∧ bnd b (fv r) ∧ a ≤ C ∧ b ≤ C ∧ ((0 ≤ dv n f (fv l) * dv n f (fv r) ∧ a * (dv n f (fv r)).natAbs + b * (dv n f (fv l)).natAbs ≤ C) ∨ a * (dv n f (fv r)).natAbs + b * ((dv n f (fv l)).natAbs + 1) ≤ C ∨
    (0 ≤ dv n f (fv l) * dv n f (fv r) ∧ (dv n f (fv r)).natAbs < (dv n f (fv l)).natAbs ∧ ∃ (A Q : Nat) (g : Vc), bnd A g ∧ b = A + Q * a ∧ (∃ s : Int, s.natAbs = Q ∧ ∀ j, fv r j = g j + s * fv l j ∧ 0 ≤ s) ∧ A * (dv n f (fv l)).natAbs + a * ((dv n f g).natAbs + 1) ≤ C ∧ (dv n f g).natAbs + (dv n f (fv r)).natAbs = Q * (dv n f (fv l)).natAbs))
theorem EuT.bl {n V C : Nat} {f : Vc} {l r : List Int} (h : EuT n V C f l r) : bnd C (fv l) ∧ bnd C (fv r) := by
  obtain ⟨a, b, ha, hb, aC, bC, _⟩ := h.ab
  exact ⟨bnd_mono aC ha, bnd_mono bC hb⟩
theorem EuT.step {n V C : Nat} {f : Vc} {l r : List Int} (h : EuT n V C f l r) (hr : dv n f (fv r) ≠ 0) :
    EuT n V C f r (plusL (0 - (dv n f (fv l)).fdiv (dv n f (fv r))) r l) ∧ (dv n f (fv (plusL (0 - (dv n f (fv l)).fdiv (dv n f (fv r))) r l))).natAbs < (dv n f (fv r)).natAbs := by
  have hl : r.length = l.length := by rw [h.ll, h.rl]
  have e : dv n f (fv (plusL (0 - (dv n f (fv l)).fdiv (dv n f (fv r))) r l)) = (dv n f (fv l)).fmod (dv n f (fv r)) := by
    rw [dv_plus hl]
    have := Int.mul_fdiv_add_fmod (dv n f (fv l)) (dv n f (fv r))
    rw [Int.mul_comm] at this
    rw [Int.sub_mul]
    omega
  obtain ⟨s1, s2⟩ := fmod_sign (c := dv n f (fv l)) hr
  obtain ⟨a, b, ha, hb, aC, bC, hab⟩ := h.ab
  have q1 : 1 ≤ (dv n f (fv r)).natAbs := by omega
  have nw : ∀ j, fv (plusL (0 - (dv n f (fv l)).fdiv (dv n f (fv r))) r l) j = fv l j + (0 - (dv n f (fv l)).fdiv (dv n f (fv r))) * fv r j := fun j => by rw [fv_plus hl]; omega
  rw [e]
  -- the values on the same side: the product stays
  have same : 0 ≤ dv n f (fv l) * dv n f (fv r) → a * (dv n f (fv r)).natAbs + b * (dv n f (fv l)).natAbs ≤ C → EuT n V C f r (plusL (0 - (dv n f (fv l)).fdiv (dv n f (fv r))) r l) := fun hs hC => by
    have key : b * ((dv n f (fv l)).fmod (dv n f (fv r))).natAbs + (a + ((dv n f (fv l)).fdiv (dv n f (fv r))).natAbs * b) * (dv n f (fv r)).natAbs ≤ C := by
      have ex : b * ((dv n f (fv l)).fmod (dv n f (fv r))).natAbs + (a + ((dv n f (fv l)).fdiv (dv n f (fv r))).natAbs * b) * (dv n f (fv r)).natAbs = a * (dv n f (fv r)).natAbs + b * (((dv n f (fv l)).fmod (dv n f (fv r))).natAbs + ((dv n f (fv l)).fdiv (dv n f (fv r))).natAbs * (dv n f (fv r)).natAbs) := by
        rw [Nat.add_mul, Nat.mul_add, Nat.mul_right_comm, Nat.mul_comm _ b]; omega
      rw [ex]
      have := Nat.mul_le_mul_left b (eu_same hr hs)
      omega
    refine ⟨h.rl, by rw [len_plus hl, h.ll], hr, h.rv, by rw [e]; have := h.rv; omega, b, a + ((dv n f (fv l)).fdiv (dv n f (fv r))).natAbs * b, hb, ?_, bC, ?_, .inl ⟨by rw [e]; exact s1, by rw [e]; exact key⟩⟩
    · refine bnd_mono ?_ (bnd_plus (F := ((dv n f (fv l)).fdiv (dv n f (fv r))).natAbs) hl (by omega) hb ha)
      omega
    · have := Nat.le_mul_of_pos_right (a + ((dv n f (fv l)).fdiv (dv n f (fv r))).natAbs * b) q1
      omega
  refine ⟨?_, s2⟩
  rcases hab with ⟨hs, hC⟩ | hC | ⟨hs, hlt, A, Q, g, hg, rfl, ⟨s, hsQ, hsg⟩, hC, hQ⟩
  · exact same hs hC
  · by_cases hs : 0 ≤ dv n f (fv l) * dv n f (fv r)
    · exact same hs (by rw [Nat.mul_add, Nat.mul_one] at hC; omega)
    · -- the other sides
      have opp : dv n f (fv l) * dv n f (fv r) < 0 := by omega
      have e1 := Int.mul_fdiv_add_fmod (dv n f (fv l)) (dv n f (fv r))
      have hq0 : (dv n f (fv l)).fdiv (dv n f (fv r)) ≤ 0 ∧ (dv n f (fv l)).natAbs + ((dv n f (fv l)).fmod (dv n f (fv r))).natAbs = ((dv n f (fv l)).fdiv (dv n f (fv r))).natAbs * (dv n f (fv r)).natAbs := by
        rw [← Int.natAbs_mul, Int.mul_comm ((dv n f (fv l)).fdiv (dv n f (fv r)))]
        generalize dv n f (fv l) = p at opp e1 s1 s2
        generalize dv n f (fv r) = q at opp e1 s1 s2 hr q1
        rcases Int.lt_or_gt_of_ne hr with hn | hp
        · have p0 : 0 < p := Classical.byContradiction fun c => by
            have := Int.mul_nonneg_of_nonpos_of_nonpos (show p ≤ 0 by omega) (show q ≤ 0 by omega)
            omega
          have u0 : p.fmod q ≤ 0 := fmod_neg_le p hn
          have t0 : p.fdiv q ≤ 0 := Classical.byContradiction fun c => by
            have : q * p.fdiv q ≤ q * 1 := Int.mul_le_mul_of_nonpos_left (by omega) (by omega)
            omega
          refine ⟨t0, ?_⟩
          have : 0 ≤ q * p.fdiv q := Int.mul_nonneg_of_nonpos_of_nonpos (Int.le_of_lt hn) t0
          generalize q * p.fdiv q = t at e1 this
          omega
        · have p0 : p < 0 := Classical.byContradiction fun c => by
            have := Int.mul_nonneg (show 0 ≤ p by omega) (show 0 ≤ q by omega)
            omega
          have u0 : 0 ≤ p.fmod q := Int.fmod_nonneg_of_pos p hp
          have t0 : p.fdiv q ≤ 0 := Classical.byContradiction fun c => by
            have : q * 1 ≤ q * p.fdiv q := Int.mul_le_mul_of_nonneg_left (by omega) (by omega)
            omega
          refine ⟨t0, ?_⟩
          have : q * p.fdiv q ≤ 0 := Int.mul_nonpos_of_nonneg_of_nonpos (Int.le_of_lt hp) t0
          generalize q * p.fdiv q = t at e1 this
          omega
      obtain ⟨t0, tv⟩ := hq0
      have Qb : ((dv n f (fv l)).fdiv (dv n f (fv r))).natAbs ≤ (dv n f (fv l)).natAbs + 1 := by
        apply Classical.byContradiction
        intro c
        have := Nat.mul_le_mul_right (dv n f (fv r)).natAbs (show (dv n f (fv l)).natAbs + 2 ≤ ((dv n f (fv l)).fdiv (dv n f (fv r))).natAbs by omega)
        rw [Nat.add_mul] at this
        have := Nat.le_mul_of_pos_right (dv n f (fv l)).natAbs q1
        omega
      have aT : a + ((dv n f (fv l)).fdiv (dv n f (fv r))).natAbs * b ≤ C := by
        have h1 := Nat.mul_le_mul_right b Qb
        have h2 := Nat.le_mul_of_pos_right a q1
        rw [Nat.mul_comm _ b] at h1
        rw [Nat.mul_comm _ b]
        rw [Nat.mul_comm _ b] at h1
        omega
      refine ⟨h.rl, by rw [len_plus hl, h.ll], hr, h.rv, by rw [e]; have := h.rv; omega, b, a + ((dv n f (fv l)).fdiv (dv n f (fv r))).natAbs * b, hb, ?_, bC, aT, .inr (.inr ⟨by rw [e]; exact s1, by rw [e]; exact s2, a, ((dv n f (fv l)).fdiv (dv n f (fv r))).natAbs, fv l, ha, rfl, ⟨0 - (dv n f (fv l)).fdiv (dv n f (fv r)), by omega, fun j => ⟨nw j, by omega⟩⟩, hC, by rw [e]; exact tv⟩)⟩
      refine bnd_mono ?_ (bnd_plus (F := ((dv n f (fv l)).fdiv (dv n f (fv r))).natAbs) hl (by omega) hb ha)
      omega
  · -- the second step
    have e1 := Int.mul_fdiv_add_fmod (dv n f (fv l)) (dv n f (fv r))
    have hq0 : 0 ≤ (dv n f (fv l)).fdiv (dv n f (fv r)) ∧ ((dv n f (fv l)).fdiv (dv n f (fv r))).natAbs * (dv n f (fv r)).natAbs + ((dv n f (fv l)).fmod (dv n f (fv r))).natAbs = (dv n f (fv l)).natAbs ∧ 1 ≤ ((dv n f (fv l)).fdiv (dv n f (fv r))).natAbs := by
      have es := eu_same hr hs
      have lz := h.nz
      rw [← Int.natAbs_mul, Int.mul_comm ((dv n f (fv l)).fdiv (dv n f (fv r)))] at es ⊢
      generalize dv n f (fv l) = p at hs e1 s1 s2 hlt lz es
      generalize dv n f (fv r) = q at hs e1 s1 s2 hr q1 hlt es
      have t0 : p.fdiv q ≠ 0 := fun h0 => by rw [h0, Int.mul_zero] at e1; omega
      rcases Int.lt_or_gt_of_ne hr with hn | hp
      · have p0 : p ≤ 0 := Classical.byContradiction fun c => by
          have := Int.mul_neg_of_pos_of_neg (show 0 < p by omega) hn
          omega
        have t1 : 0 ≤ p.fdiv q := Classical.byContradiction fun c => by
          have : q * -1 ≤ q * p.fdiv q := Int.mul_le_mul_of_nonpos_left (by omega) (by omega)
          have := fmod_neg_gt p hn
          omega
        refine ⟨t1, ?_, by omega⟩
        have : q * p.fdiv q ≤ 0 := Int.mul_nonpos_of_nonpos_of_nonneg (Int.le_of_lt hn) t1
        have u0 : p.fmod q ≤ 0 := fmod_neg_le p hn
        generalize q * p.fdiv q = t at e1 this es
        omega
      · have p0 : 0 ≤ p := Classical.byContradiction fun c => by
          have := Int.mul_neg_of_neg_of_pos (show p < 0 by omega) hp
          omega
        have t1 : 0 ≤ p.fdiv q := Classical.byContradiction fun c => by
          have : q * p.fdiv q ≤ q * -1 := Int.mul_le_mul_of_nonneg_left (by omega) (by omega)
          have := Int.fmod_lt_of_pos p hp
          omega
        refine ⟨t1, ?_, by omega⟩
        have : 0 ≤ q * p.fdiv q := Int.mul_nonneg (Int.le_of_lt hp) t1
        have u0 : 0 ≤ p.fmod q := Int.fmod_nonneg_of_pos p hp
        generalize q * p.fdiv q = t at e1 this es
        omega
    obtain ⟨t0, tv, t1⟩ := hq0
    have s0 : 0 ≤ s := (hsg 0).2
    have Q1 : 1 ≤ Q := Nat.pos_of_ne_zero fun h0 => by rw [h0, Nat.zero_mul] at hQ; omega
    -- the new row, of the old ones
    have nb : bnd (((dv n f (fv l)).fdiv (dv n f (fv r))).natAbs * A + (((dv n f (fv l)).fdiv (dv n f (fv r))).natAbs * Q - 1) * a) (fv (plusL (0 - (dv n f (fv l)).fdiv (dv n f (fv r))) r l)) := fun j => by
      rw [nw, (hsg j).1]
      have e2 : fv l j + (0 - (dv n f (fv l)).fdiv (dv n f (fv r))) * (g j + s * fv l j) = (0 - (dv n f (fv l)).fdiv (dv n f (fv r))) * g j + (1 - (dv n f (fv l)).fdiv (dv n f (fv r)) * s) * fv l j := by grind
      rw [e2]
      have c1 : (0 - (dv n f (fv l)).fdiv (dv n f (fv r))).natAbs = ((dv n f (fv l)).fdiv (dv n f (fv r))).natAbs := by omega
      have c2 : (1 - (dv n f (fv l)).fdiv (dv n f (fv r)) * s).natAbs = ((dv n f (fv l)).fdiv (dv n f (fv r))).natAbs * Q - 1 := by
        have : ((dv n f (fv l)).fdiv (dv n f (fv r)) * s).natAbs = ((dv n f (fv l)).fdiv (dv n f (fv r))).natAbs * Q := by rw [Int.natAbs_mul, hsQ]
        have p0 := Int.mul_nonneg t0 s0
        have := Nat.mul_le_mul t1 Q1
        omega
      refine Nat.le_trans (Int.natAbs_add_le _ _) (Nat.add_le_add ?_ ?_)
      · rw [Int.natAbs_mul, c1]; exact Nat.mul_le_mul_left _ (hg j)
      · rw [Int.natAbs_mul, c2]; exact Nat.mul_le_mul_left _ (ha j)
    generalize ((dv n f (fv l)).fdiv (dv n f (fv r))).natAbs = T at nb tv t1
    have key : (A + Q * a) * ((dv n f (fv l)).fmod (dv n f (fv r))).natAbs + (T * A + (T * Q - 1) * a) * (dv n f (fv r)).natAbs ≤ C := by
      generalize ((dv n f (fv l)).fmod (dv n f (fv r))).natAbs = m at tv s2
      generalize (dv n f (fv l)).natAbs = L at hlt hC hQ tv
      generalize (dv n f (fv r)).natAbs = R at hlt hQ tv s2 q1
      generalize (dv n f g).natAbs = G at hC hQ
      have TQ := Nat.mul_le_mul t1 Q1
      obtain ⟨k, hk⟩ : ∃ k, T * Q = k + 1 := ⟨T * Q - 1, by omega⟩
      rw [hk, Nat.add_sub_cancel]
      have x1 : (A + Q * a) * m + (T * A + k * a) * R = A * (T * R + m) + a * (Q * m + k * R) := by grind
      have x2 : Q * m + k * R = G := by
        have y1 : Q * L = Q * (T * R + m) := by rw [tv]
        have y2 : Q * (T * R + m) = (T * Q) * R + Q * m := by grind
        rw [hk, Nat.add_mul] at y2
        omega
      rw [x1, x2, tv]
      rw [Nat.mul_add] at hC
      omega
    have nC : T * A + (T * Q - 1) * a ≤ C := by
      have := Nat.le_mul_of_pos_right (T * A + (T * Q - 1) * a) q1
      omega
    exact ⟨h.rl, by rw [len_plus hl, h.ll], hr, h.rv, by rw [e]; have := h.rv; omega, A + Q * a, _, hb, nb, bC, nC, .inl ⟨by rw [e]; exact s1, by rw [e]; exact key⟩⟩
end Hn
set_option maxHeartbeats 4000000
namespace Hn
/-! ### the laws' own way to the basis: columns first, then upwards -/
def eL (n c : Nat) : List Int := (List.range n).map fun j => if j = c then 1 else 0
theorem fv_eL {n c : Nat} (hc : c < n) : fv (eL n c) = fun j => if j = c then 1 else 0 := funext fun j => fv_unitB (b := 1) j hc
theorem dv_eL {n c : Nat} {v : Vc} (hc : c < n) : dv n (fv (eL n c)) v = v c := by rw [dv_comm, fv_eL hc, dv_unit hc]
theorem sp_appL {A B F : List (List Int)} (h : ∀ v, Sp (RL A) v ↔ Sp (RL B) v) (v : Vc) : Sp (RL (F ++ A)) v ↔ Sp (RL (F ++ B)) v := by
  have one : ∀ {S T : List (List Int)}, (∀ v, Sp (RL S) v → Sp (RL T) v) → Sp (RL (F ++ S)) v → Sp (RL (F ++ T)) v := fun {S T} hs => Sp.trans fun u ⟨x, hx, e⟩ => by
    rcases List.mem_append.mp hx with hx | hx
    · exact .of ⟨x, List.mem_append_left _ hx, e⟩
    · exact (hs u (.of ⟨x, hx, e⟩)).mono fun w ⟨y, hy, e⟩ => ⟨y, List.mem_append_right _ hy, e⟩
  exact ⟨one fun v => (h v).mp, one fun v => (h v).mpr⟩
structure RZ (n c : Nat) (R : List (List Int)) (cs : List Nat) (F L : List (List Int)) : Prop where
  e : EchR n cs F
  lt : ∀ k ∈ cs, k < c
  sp : ∀ v, Sp (RL (F ++ L)) v ↔ Sp (RL R) v
  z : ∀ r ∈ L, r.length = n ∧ ∀ j, j < c → fv r j = 0
theorem RZ.zeros {n c : Nat} {R : List (List Int)} {cs : List Nat} {F L L' M : List (List Int)} (h : RZ n c R cs F L) (sp : ∀ v, Sp (RL (L' ++ M)) v ↔ Sp (RL L) v) {r : List Int} (hr : r ∈ L' ++ M) {j : Nat} (hj : j < c) : fv r j = 0 :=
  Sp.at0 ((sp (fv r)).mp (.of ⟨r, hr, rfl⟩)) fun u ⟨x, hx, e⟩ => by rw [e]; exact (h.z x hx).2 j hj
theorem RZ.none {n c : Nat} {R : List (List Int)} {cs : List Nat} {F L L' : List (List Int)} (h : RZ n c R cs F L) (hc : c < n) (sp : ∀ v, Sp (RL (L' ++ [])) v ↔ Sp (RL L) v) (h0 : ∀ r ∈ L', dv n (fv (eL n c)) (fv r) = 0) (hl : ∀ r ∈ L', r.length = n) : RZ n (c + 1) R cs F L' := by
  refine ⟨h.e, fun k hk => by have := h.lt k hk; omega, fun v => ?_, fun r hr => ⟨hl r hr, fun j hj => ?_⟩⟩
  · rw [← h.sp v]
    exact sp_appL (fun v => by rw [← sp v, List.append_nil]) v
  · by_cases e : j = c
    · have := h0 r hr
      rw [dv_eL hc] at this
      rw [e]; exact this
    · exact h.zeros sp (List.mem_append_left _ hr) (by omega)
theorem RZ.some {n c : Nat} {R : List (List Int)} {cs : List Nat} {F L L' : List (List Int)} {r r' : List Int} (h : RZ n c R cs F L) (hc : c < n) (sp : ∀ v, Sp (RL (L' ++ [r])) v ↔ Sp (RL L) v) (h0 : ∀ r ∈ L', dv n (fv (eL n c)) (fv r) = 0) (hl : ∀ r ∈ L', r.length = n) (hr : dv n (fv (eL n c)) (fv r) ≠ 0) (hl' : r'.length = n) (hs : ∀ j, fv r' j = (if 0 < fv r c then 1 else 0 - 1) * fv r j) : RZ n (c + 1) R (cs ++ [c]) (F ++ [r']) L' := by
  rw [dv_eL hc] at hr
  refine ⟨⟨by rw [List.length_append, List.length_append, h.e.len]; rfl, List.pairwise_append.mpr ⟨h.e.asc, by simp, fun a ha b hb => by rw [List.mem_singleton.mp hb]; exact h.lt a ha⟩, fun k hk => ?_, fun i k x g1 g2 => ?_⟩, fun k hk => ?_, fun v => ?_, fun x hx => ⟨hl x hx, fun j hj => ?_⟩⟩
  · rcases List.mem_append.mp hk with hk | hk
    · exact h.e.lt k hk
    · rw [List.mem_singleton.mp hk]; exact hc
  · by_cases hi : i < cs.length
    · rw [List.getElem?_append_left hi] at g1
      rw [List.getElem?_append_left (by rw [← h.e.len]; exact hi)] at g2
      exact h.e.row i k x g1 g2
    · rw [List.getElem?_append_right (by omega)] at g1
      rw [List.getElem?_append_right (by rw [← h.e.len]; omega), ← h.e.len] at g2
      have i0 : i - cs.length = 0 := Classical.byContradiction fun hne => by
        rw [List.getElem?_eq_none (by show 1 ≤ _; omega)] at g1
        cases g1
      rw [i0] at g1 g2
      cases g1
      cases g2
      refine ⟨hl', fun j hj => ?_, ?_⟩
      · rw [hs, h.zeros sp (List.mem_append_right _ (List.mem_singleton.mpr rfl)) hj, Int.mul_zero]
      · rw [hs]
        split <;> omega
  · rcases List.mem_append.mp hk with hk | hk
    · have := h.lt k hk; omega
    · rw [List.mem_singleton.mp hk]; omega
  · rw [← h.sp v, List.append_assoc]
    refine sp_appL (fun v => ?_) v
    rw [← sp v]
    have pm : ∀ {x y : List Int} {s : Int}, (∀ j, fv x j = s * fv y j) → Sp (RL ([x] ++ L')) v → Sp (RL (L' ++ [y])) v := fun {x y s} hxy => Sp.trans fun u ⟨w, hw, e⟩ => by
      rcases List.mem_append.mp hw with hw | hw
      · rw [e, List.mem_singleton.mp hw]
        exact (Sp.mul s (.of ⟨y, List.mem_append_right _ (List.mem_singleton.mpr rfl), rfl⟩)).cast fun j => (hxy j).symm
      · exact .of ⟨w, List.mem_append_left _ hw, e⟩
    have sw : ∀ {x : List Int}, Sp (RL (L' ++ [x])) v ↔ Sp (RL ([x] ++ L')) v := fun {x} =>
      ⟨Sp.mono fun u ⟨w, hw, e⟩ => ⟨w, by simpa [or_comm] using hw, e⟩, Sp.mono fun u ⟨w, hw, e⟩ => ⟨w, by simpa [or_comm] using hw, e⟩⟩
    constructor
    · exact pm hs
    · intro hv
      refine sw.mp (pm (s := if 0 < fv r c then 1 else 0 - 1) (x := r) (fun j => ?_) (sw.mp hv))
      rw [hs]
      split <;> omega
  · by_cases e : j = c
    · have := h0 x hx
      rw [dv_eL hc] at this
      rw [e]; exact this
    · exact h.zeros sp (List.mem_append_left _ hx) (by omega)
theorem RZ.fin {n : Nat} {R : List (List Int)} {cs : List Nat} {F L : List (List Int)} (h : RZ n n R cs F L) (v : Vc) : Sp (RL F) v ↔ Sp (RL R) v := by
  rw [← h.sp v]
  refine ⟨Sp.mono fun u ⟨x, hx, e⟩ => ⟨x, List.mem_append_left _ hx, e⟩, Sp.trans fun u ⟨x, hx, e⟩ => ?_⟩
  rcases List.mem_append.mp hx with hx | hx
  · exact .of ⟨x, hx, e⟩
  · refine Sp.zero.cast fun j => ?_
    rw [e]
    by_cases hj : j < n
    · exact ((h.z x hx).2 j hj).symm
    · exact (fv_out (by rw [(h.z x hx).1]; omega)).symm
/-- the way upwards, with bounds of its own for every row: Z of a row as it was, T as many as have had their turn -/
structure BJ (n : Nat) (cs : List Nat) (Z T : Nat → Nat) (R : List (List Int)) (i k : Nat) : Prop where
  e : EchR n cs R
  red : ∀ (h j c : Nat) (r r' : List Int), h < j → (j < i ∨ (j = i ∧ h < k)) → cs[j]? = some c → R[h]? = some r → R[j]? = some r' → 0 ≤ fv r c ∧ fv r c < fv r' c
  raw : ∀ (j : Nat) (r : List Int), i ≤ j → R[j]? = some r → bnd (Z j) (fv r)
  low : ∀ (j : Nat) (r : List Int), k ≤ j → j < i → R[j]? = some r → bnd (T i) (fv r)
  all : ∀ (j : Nat) (r : List Int), j < k → R[j]? = some r → bnd (T (i + 1)) (fv r)
  ki : k ≤ i
theorem BJ.next {n : Nat} {cs : List Nat} {Z T : Nat → Nat} {R : List (List Int)} {i : Nat} (hT : ∀ i, T i * Z i + T i ≤ T (i + 1) ∧ Z i ≤ T (i + 1)) (b : BJ n cs Z T R i i) : BJ n cs Z T R (i + 1) 0 :=
  ⟨b.e, fun h j c r r' h1 h2 h3 h4 h5 => b.red h j c r r' h1 (by omega) h3 h4 h5, fun j r h1 h2 => b.raw j r (by omega) h2, fun j r _ h h2 => by
    by_cases hj : j < i
    · exact b.all j r hj h2
    · exact bnd_mono (by rw [show j = i by omega]; exact (hT i).2) (b.raw j r (by omega) h2), fun j r h1 => by omega, Nat.zero_le _⟩
theorem BJ.hnf {n : Nat} {cs : List Nat} {Z T : Nat → Nat} {R : List (List Int)} {i : Nat} (b : BJ n cs Z T R i 0) (h : R.length ≤ i) : Hnf n (Sp (RL R)) R :=
  b.e.hnf fun h' j c r r' h1 h2 h3 h4 => b.red h' j c r r' h1 (.inl (by have := (List.getElem?_eq_some_iff.mp h4).1; omega)) h2 h3 h4
theorem BJ.step {n : Nat} {cs : List Nat} {Z T : Nat → Nat} {R : List (List Int)} {i k c : Nat} {rh rl : List Int} (hT : ∀ i, T i * Z i + T i ≤ T (i + 1) ∧ Z i ≤ T (i + 1)) (b : BJ n cs Z T R i k) (hk : k < i) (hc : cs[i]? = some c) (hh : R[k]? = some rh) (hl : R[i]? = some rl) :
    BJ n cs Z T (R.set k (plusL (0 - fv rh c / fv rl c) rl rh)) i (k + 1) ∧ (∀ v, Sp (RL (R.set k (plusL (0 - fv rh c / fv rl c) rl rh))) v ↔ Sp (RL R) v) ∧ (0 - fv rh c / fv rl c).natAbs ≤ T i ∧ rl.length = rh.length ∧ rl.length = n ∧ 0 < fv rl c ∧ bnd (T i) (fv rh) ∧ bnd (Z i) (fv rl) := by
  obtain ⟨l1, l2, l3⟩ := b.e.row i c rl hc hl
  have kl := (List.getElem?_eq_some_iff.mp hh).1
  have kcl : k < cs.length := by rw [b.e.len]; exact kl
  have hck : cs[k]? = some cs[k] := List.getElem?_eq_getElem kcl
  generalize cs[k] = ck at hck
  obtain ⟨h1, h2, h3⟩ := b.e.row k ck rh hck hh
  have ckc : ck < c := asc_lt b.e.asc hk hck hc
  have hll : rl.length = rh.length := by rw [l1, h1]
  have lz := b.raw i rl (Nat.le_refl i) hl
  have hz := b.low k rh (Nat.le_refl k) hk hh
  have fb0 : (0 - fv rh c / fv rl c).natAbs ≤ T i := by
    have a := hz c
    have := Int.natAbs_ediv_le_natAbs (fv rh c) (fv rl c)
    omega
  refine ⟨?_, span_plus (0 - fv rh c / fv rl c) hh hl (by omega) hll, fb0, hll, l1, l3, hz, lz⟩
  generalize hf : (0 - fv rh c / fv rl c) = f at fb0
  have newb : bnd (T (i + 1)) (fv (plusL f rl rh)) := bnd_mono (hT i).1 (bnd_plus hll fb0 lz hz)
  have newr : ∀ j, fv (plusL f rl rh) j = f * fv rl j + fv rh j := fv_plus hll
  have at_ : ∀ (j : Nat) (r : List Int), (R.set k (plusL f rl rh))[j]? = some r → (j = k ∧ r = plusL f rl rh) ∨ (j ≠ k ∧ R[j]? = some r) := fun j r h => by
    rw [List.getElem?_set] at h
    by_cases e : k = j
    · rw [if_pos e, if_pos kl] at h; cases h; exact .inl ⟨e.symm, rfl⟩
    · rw [if_neg e] at h; exact .inr ⟨Ne.symm e, h⟩
  have piv : ∀ (j c' : Nat) (r r0 : List Int), cs[j]? = some c' → (R.set k (plusL f rl rh))[j]? = some r → R[j]? = some r0 → fv r c' = fv r0 c' := fun j c' r r0 g1 g2 g3 => by
    rcases at_ j r g2 with ⟨rfl, rfl⟩ | ⟨_, g⟩
    · rw [hh] at g3
      cases g3
      rw [hck] at g1
      cases g1
      rw [newr, l2 _ ckc]; omega
    · rw [g] at g3; cases g3; rfl
  refine ⟨⟨by rw [List.length_set]; exact b.e.len, b.e.asc, b.e.lt, fun j c' r g1 g2 => ?_⟩, fun h j c' r r' g1 g2 g3 g4 g5 => ?_, fun j r g1 g2 => ?_, fun j r g1 g3 g2 => ?_, fun j r g1 g2 => ?_, by omega⟩
  · rcases at_ j r g2 with ⟨rfl, rfl⟩ | ⟨_, g⟩
    · rw [hck] at g1
      cases g1
      refine ⟨by rw [len_plus hll, h1], fun x hx => ?_, ?_⟩
      · rw [newr, h2 x hx, l2 x (by omega)]; simp
      · rw [newr, l2 _ ckc]; omega
    · exact b.e.row j c' r g1 g
  · have hr' : ∃ r0, R[j]? = some r0 := ⟨_, List.getElem?_eq_getElem (by have := (List.getElem?_eq_some_iff.mp g5).1; rwa [List.length_set] at this)⟩
    obtain ⟨r0, hr0⟩ := hr'
    have ep := piv j c' r' r0 g3 g5 hr0
    rw [ep]
    rcases at_ h r g4 with ⟨rfl, rfl⟩ | ⟨ne, g⟩
    · rcases g2 with g2 | ⟨rfl, _⟩
      · have old := b.red h j c' rh r0 g1 (.inl g2) g3 hh hr0
        have : c' < c := asc_lt b.e.asc g2 g3 hc
        rw [newr, l2 c' this]
        omega
      · rw [hc] at g3
        cases g3
        rw [hl] at hr0
        cases hr0
        rw [newr, ← hf]
        have a1 := Int.emod_nonneg (fv rh c) (b := fv rl c) (by omega)
        have a2 := Int.emod_lt_of_pos (fv rh c) l3
        have a3 : (0 - fv rh c / fv rl c) * fv rl c + fv rh c = fv rh c % fv rl c := by
          have := Int.mul_ediv_add_emod (fv rh c) (fv rl c)
          grind
        omega
    · exact b.red h j c' r r0 g1 (by omega) g3 g hr0
  · rcases at_ j r g2 with ⟨rfl, rfl⟩ | ⟨_, g⟩
    · omega
    · exact b.raw j r g1 g
  · rcases at_ j r g2 with ⟨rfl, rfl⟩ | ⟨_, g⟩
    · omega
    · exact b.low j r (by omega) g3 g
  · rcases at_ j r g2 with ⟨rfl, rfl⟩ | ⟨_, g⟩
    · exact newb
    · exact b.all j r (by omega) g
end Hn
set_option maxHeartbeats 4000000
namespace Hg
open PySem PySem.Spec PyProof.Rows L2
/-! ### the laws' own elimination and reduction, with bounds of its own for every row -/
theorem LeadAt.len {n : Nat} {f : List Int} {H : Hp} {ld : V} {M : List (List Int)} (h : LeadAt n f H ld M) : M.length ≤ 1 := by
  rcases h with ⟨_, rfl⟩ | ⟨_, _, _, _, rfl, _⟩
  · exact Nat.zero_le _
  · exact Nat.le_refl _
/-- bounds of bits, one for each row -/
def Bits (n : Nat) (xs : List Nat) (R : List (List Int)) : Prop := R.length = xs.length ∧ ∀ (j : Nat) (r : List Int) (x : Nat), R[j]? = some r → xs[j]? = some x → r.length = n ∧ Hn.bnd (2 ^ x) (Hn.fv r)
theorem Bits.len {n : Nat} {xs : List Nat} {R : List (List Int)} (h : Bits n xs R) {r : List Int} (hr : r ∈ R) : r.length = n := by
  obtain ⟨j, hj⟩ := List.mem_iff_getElem?.mp hr
  have hl := (List.getElem?_eq_some_iff.mp hj).1
  exact (h.2 j r _ hj (List.getElem?_eq_getElem (by rw [← h.1]; exact hl))).1
theorem Bits.snoc {n : Nat} {xs : List Nat} {R : List (List Int)} {r : List Int} {x : Nat} (h : Bits n xs R) (hl : r.length = n) (hb : Hn.bnd (2 ^ x) (Hn.fv r)) : Bits n (xs ++ [x]) (R ++ [r]) := by
  refine ⟨by rw [List.length_append, List.length_append, h.1]; rfl, fun j q y hq hy => ?_⟩
  by_cases hj : j < R.length
  · rw [List.getElem?_append_left hj] at hq
    rw [List.getElem?_append_left (by rw [← h.1]; exact hj)] at hy
    exact h.2 j q y hq hy
  · have hjl : j = R.length := Classical.byContradiction fun hne => by
      rw [List.getElem?_eq_none (by rw [List.length_append]; show R.length + 1 ≤ j; omega)] at hq
      cases hq
    subst hjl
    rw [List.getElem?_concat_length] at hq
    rw [h.1, List.getElem?_concat_length] at hy
    cases hq
    cases hy
    exact ⟨hl, hb⟩
end Hg
set_option maxHeartbeats 4000000
namespace Hg
open PySem PySem.Spec PyProof.Rows L2
/-- whether the observation follows from those ahead of it -/
def Idle (n : Nat) (S : List (List Int × Nat)) (i : Nat) : Prop := ∀ v, Hn.LatS n (S.take i) v ↔ Hn.LatS n (S.take (i + 1)) v
/-- the numbers of the observations that follow -/
def SpareL (n : Nat) (S : List (List Int × Nat)) (zs : List Int) : Prop := ∃ b : Nat → Bool, (∀ i, i < S.length → (b i = true ↔ Idle n S i)) ∧ zs = ((List.range S.length).filter b).map fun i : Nat => (i : Int)
theorem SpareL.uniq {n : Nat} {S : List (List Int × Nat)} {zs ys : List Int} (h : SpareL n S zs) (k : SpareL n S ys) : zs = ys := by
  obtain ⟨b, hb, rfl⟩ := h
  obtain ⟨c, hc, rfl⟩ := k
  refine congrArg (List.map fun i : Nat => (i : Int)) ?_
  refine List.filter_congr fun i hi => ?_
  have hl := List.mem_range.mp hi
  have h1 := hb i hl
  have h2 := hc i hl
  cases hx : b i <;> cases hy : c i <;> simp_all
end Hg
set_option maxHeartbeats 4000000
namespace Hg
open PySem PySem.Spec PyProof.Rows L2
end Hg
set_option maxHeartbeats 4000000
namespace Hg
open PySem PySem.Spec PyProof.Rows L2
/-! ### the top of a law whose numbers divide by any size -/
def TopOkS (P : Program) (w : World) (K : PySem.W.Frag) (mg : Str → Option Value) (k : Nat) (N : List Str) (x : Str) (st : Stmt) (fa : Addr) (ok : Addr → List Int → Hp → Prop) : Prop :=
  ∀ (cd : Value) (base : Heap) (s : Shared) (H : Hp) (a : Addr) (ns : List Int), K.In base → base.Ns mainGlobals mg → base.NoSeer → Room k (callerA.deeper (topEnv st x s fa cd)) → ok a ns H →
    ∃ t, PSs (topCx P w K mg base N x st fa cd s H).nox (defBody st) t ∧ t { nx := fun _ _ => False, rt := fun v _ => v = .bl true } (start N [.ref a]) H
/-- one run of it -/
theorem TopOkS.run {P : Program} {w : World} {K : PySem.W.Frag} {mg : Str → Option Value} {k : Nat} {N : List Str} {x p : Str} {st : Stmt} {fa : Addr} {ok : Addr → List Int → Hp → Prop} (T : TopOkS P w K mg k N x st fa ok)
    {fd : FuncData} (F : Fun K x x st fa fd) (S : FnScope N [p] (defScope st)) (R : Room (k + 1) callerA) {base : Heap} {s : Shared} {H : Hp} {a : Addr} {ns : List Int} (e0 : Env0 P w K mg base callerA [] s H)
    (hb : BindsTo s fd ⟨[.ref a], []⟩ [(p, .ref a)]) (seer : base.NoSeer) (q : ok a ns H) :
    codeAny (model P w) callerA (.call (.ref fa) ⟨[.ref a], []⟩) (fun r s' => ∃ H', r = .ok (.ret (.bool true)) ∧ s'.os = s.os ∧ AllBare s'.gens ∧ Un [] [] H H' s.heap s'.heap ∧ HOk P w H' s'.heap) s := by
  obtain ⟨oc, od, kV, doc, pm, an, cd, ct, osl, efd, look, code⟩ := F.ex
  subst efd
  have stays : ∀ b o, base.get? b = some o → s.heap.get? b = some o := fun b o e => (e0.bs b o e).1
  have inS : K.In s.heap := e0.mod.kin.keeps stays
  have kinds : ∀ y ∈ [p].zip [Value.ref a], (defScope st).names.lookup y.1 = some .local ∨ ((defScope st).names.lookup y.1 = some .cell ∧ ((cellsFrom (s.heap.objs.size + 1) (defScope st).names []).lookup y.1).isSome = true) := by
    intro y hy
    have ey : y = (p, Value.ref a) := by simpa using hy
    subst ey
    exact (S.par p (by simp)).imp id fun c => ⟨c, PySem.W.cellsFrom_some _ _ _ (.inl c)⟩
  refine codeAny_call_function R.depth (inS _ _ look) rfl S.co S.gen rfl (PySem.W.codeRec_of inS code) (hb _ _ _ _ (wpAny_newFunctionEnv_cells S.kind kinds ?_))
  rintro _ rfl s2 entered
  refine ⟨(e0.mod.nolimit.keeps stays).keeps entered.toInCall.keep, codeAny_func ?_⟩
  obtain ⟨t, ht, hq⟩ := T cd base s H a ns e0.mod.kin e0.mod.glob seer (R.deeper _) q
  have start1 := inv_start (CX := CX0) (E := E0) (us := [.ref a]) (vs := [.ref a]) S R.hd e0 rfl (.cons rfl .nil) entered
  refine wpAny_mono (ht.nox.run [] s2 _ H _ start1 hq) (fun fl s' z => ?_) fun e s' z => ?_
  · rcases fl with _ | _ | _ | u
    · obtain ⟨_, _, _, z⟩ := z
      exact z.elim
    · obtain ⟨_, _, _, z⟩ := z
      exact z.elim
    · obtain ⟨_, _, _, z⟩ := z
      exact z.elim
    · obtain ⟨v, σ', H', J, rv, ev⟩ := z
      subst ev
      cases (show u = Value.bool true from rv)
      exact ⟨H', rfl, J.os, J.bare, J.base, J.hok⟩
  · exact wpAny_mono z (fun _ _ n => (n : False).elim) fun _ _ n => (n : False).elim
/-- at the heap behind the top -/
theorem TopOkS.call {P : Program} {w : World} {K : PySem.W.Frag} {mg mb : Str → Option Value} {k : Nat} {N : List Str} {x p : Str} {st : Stmt} {fa a : Addr} {fd : FuncData} {s : Shared} {vs : List Value} {ns : List Int} {ok : Addr → List Int → Hp → Prop}
    (T : TopOkS P w K mg k N x st fa ok) (F : Fun K x x st fa fd) (S : FnScope N [p] (defScope st)) (R : Room (k + 1) callerA)
    (inS : K.In s.heap) (gl : s.heap.Ns mainGlobals mg) (bl : s.heap.Ns builtinsNs mb) (boot : ∀ y : Str, y ≠ "__name__" → mb y = bootBuiltins y) (nl : s.heap.NoLimit) (seer : s.heap.NoSeer) (gens : s.gens = #[])
    (ha : s.heap.get? a = some { cls := .type "list", data := .seq vs.toArray }) (iv : IntsAre vs ns) (len : ns.length ≤ sizeLine) (bind : ∀ (s : Shared) (u : Value), BindsTo s fd ⟨[u], []⟩ [(p, u)])
    (good : ∀ H : Hp, SqL K H a (ns.map V.int) → ok a ns H) :
    codeAny (model P w) callerA (.call (.ref fa) ⟨[.ref a], []⟩) (fun r s' => r = .ok (.ret (.bool true)) ∧ OldK s.heap s'.heap ∧ s'.os = s.os ∧ AllBare s'.gens) s := by
  have rel := vals_ints iv
  have go : ∀ H : Hp, (∀ b u, H b = some u → b = a ∧ u = .frz { cls := .type "list", data := .seq vs.toArray } (.lst (ns.map V.int)) ∧ K.lookup a = none) → SqL K H a (ns.map V.int) →
      codeAny (model P w) callerA (.call (.ref fa) ⟨[.ref a], []⟩) (fun r s' => r = .ok (.ret (.bool true)) ∧ OldK s.heap s'.heap ∧ s'.os = s.os ∧ AllBare s'.gens) s := by
    intro H only seq
    have hok : HOk P w H s.heap := by
      intro b u z
      obtain ⟨rfl, rfl, _⟩ := only b u z
      exact ⟨ha, by rw [List.length_map]; exact len, vs, _, rel, ha⟩
    have noDict : ∀ {b : Addr} {o : Obj} {es : Array DictEntry} {n : Nat}, s.heap.get? b = some o → o.data = .dict es n → H b = none := by
      intro b o es n e d
      cases z : H b with
      | none => rfl
      | some u =>
        obtain ⟨rfl, _, _⟩ := only b u z
        rw [ha] at e
        cases e
        cases d
    have names : ∀ {b : Addr} {m : Str → Option Value}, s.heap.Ns b m → (hidT s.heap H).Ns b m := by
      rintro b m ⟨o, es, n, e, d, rest⟩
      exact ⟨o, es, n, hidT_get e (noDict e d), d, rest⟩
    have inB : K.In (hidT s.heap H) := by
      intro b o e
      refine hidT_get (inS b o e) ?_
      cases z : H b with
      | none => rfl
      | some u =>
        obtain ⟨rfl, _, z'⟩ := only b u z
        rw [z'] at e
        cases e
    obtain ⟨ml, l1, l2⟩ := nl
    have seerB : (hidT s.heap H).NoSeer := by
      refine ⟨(let ⟨mc, a, b⟩ := seer.statics; ⟨mc, names a, b⟩), (let ⟨mc, a, b⟩ := seer.mods; ⟨mc, names a, b⟩), (let ⟨mc, a, b⟩ := seer.imp; ⟨mc, names a, b⟩), ?_⟩
      obtain ⟨mg', bm, ob, x1, x2, x3, x4, x5⟩ := seer.main
      refine ⟨mg', bm, ob, names x1, x2, hidT_get x3 ?_, x4, x5⟩
      cases z : H bm with
      | none => rfl
      | some u =>
        obtain ⟨rfl, _, _⟩ := only bm u z
        rw [ha] at x3
        cases x3
        simp at x4
    have e0 : Env0 P w K mg (hidT s.heap H) callerA [] s H :=
      { frames := rfl, mod := ⟨inB, names gl, ⟨mb, names bl, boot⟩, ml, names l1, l2⟩, bs := fun b o e => of_hidT e, bsz := by rw [hidT_size]; exact Nat.le_refl _, funs := trivial,
        frf := fun b z => absurd (show b ∈ ([] : List Addr) from z) (by simp), hok := hok, bare := .of_eq gens }
    refine codeAny_mono (T.run F S R e0 (bind s (.ref a)) seerB (good H seq)) ?_
    rintro r s' ⟨H', rfl, eos, bare, un, hok'⟩
    refine ⟨rfl, OldK.of_keep ?_, eos, bare⟩
    intro b o e
    cases z : H b with
    | none => exact un.keep b o e z (by simp) (by simp)
    | some u =>
      obtain ⟨rfl, rfl, _⟩ := only b u z
      obtain ⟨g, _⟩ := hok' b _ (un.frzs b _ _ z)
      rw [ha] at e
      cases e
      exact g
  cases look : K.lookup a with
  | some o =>
    have e := inS a o look
    rw [ha] at e
    cases e
    exact go (fun _ => none) (fun b u z => by cases z) (.inr ⟨_, vs.toArray, _, look, rfl, rfl, rfl, by rw [List.size_toArray, iv.length]; exact len, by simpa using rel⟩)
  | none =>
    refine go (fun b => if b = a then some (.frz { cls := .type "list", data := .seq vs.toArray } (.lst (ns.map V.int))) else none) (fun b u z => ?_) (.inl (.inr ⟨_, if_pos rfl⟩))
    by_cases e : b = a
    · rw [if_pos e] at z
      cases z
      exact ⟨e, rfl, look⟩
    · rw [if_neg e] at z
      cases z
end Hg
set_option maxHeartbeats 4000000
namespace Hg
open PySem PySem.Spec PyProof.Rows L2
/-! ### defs that show data: nothing is being shown around them -/
end Hg
set_option maxHeartbeats 4000000
namespace Hg
open PySem PySem.Spec PyProof.Rows L2
/-! ### what knowledge tells about itself, shown -/
noncomputable def basisOf (n : Nat) (S : List (List Int × Nat)) : List (List Int) := @dite _ (∃ R, Hn.Hnf n (Hn.LatS n S) R) (Classical.propDecidable _) (fun h => Classical.choose h) fun _ => []
theorem basisOf_eq {n : Nat} {S : List (List Int × Nat)} {R : List (List Int)} (h : Hn.Hnf n (Hn.LatS n S) R) : basisOf n S = R := by
  unfold basisOf
  rw [dif_pos ⟨R, h⟩]
  exact (Classical.choose_spec (⟨R, h⟩ : ∃ R, Hn.Hnf n (Hn.LatS n S) R)).uniq h
noncomputable def grainOf (n : Nat) (S : List (List Int × Nat)) (f : List Int) : Int := @dite _ (∃ g, Hn.Grn n (Hn.fv f) (basisOf n S) g) (Classical.propDecidable _) (fun h => Classical.choose h) fun _ => 0
theorem grainOf_eq {n : Nat} {S : List (List Int × Nat)} {f : List Int} {R : List (List Int)} {g : Int} (h : Hn.Hnf n (Hn.LatS n S) R) (hg : Hn.Grn n (Hn.fv f) R g) : grainOf n S f = g := by
  have hg' : Hn.Grn n (Hn.fv f) (basisOf n S) g := by rw [basisOf_eq h]; exact hg
  unfold grainOf
  rw [dif_pos ⟨g, hg'⟩]
  exact Hn.Grn.eq (Classical.choose_spec (⟨g, hg'⟩ : ∃ g, Hn.Grn n (Hn.fv f) (basisOf n S) g)) hg'
def rowsT (R : List (List Int)) : PyData := .tuple (R.map fun r => PyData.tuple (r.map PyData.int))
noncomputable def toldD (n : Nat) (g : Gd) : PyData := .tuple [.tuple (g.1.map dPair), rowsT (basisOf n g.1), .int (grainOf n g.1 g.2.1)]
/-- one of the told things in the heap -/
def ToldAt (H : Hp) (n : Nat) (a : Addr) (g : Gd) : Prop := ∃ (o t : Addr) (os us : List Addr) (R : List (List Int)) (z : Int), H a = some (.tup [.ref o, .ref t, .int z]) ∧ H o = some (.tup (os.map V.ref)) ∧ PairsIn H os g.1 ∧ H t = some (.tup (us.map V.ref)) ∧ RowsIn H us R ∧ Hn.Hnf n (Hn.LatS n g.1) R ∧ Hn.Grn n (Hn.fv g.2.1) R z
theorem ToldAt.ex {H H' : Hp} {n : Nat} {a : Addr} {g : Gd} (e : Ex H H') (h : ToldAt H n a g) : ToldAt H' n a g := by
  obtain ⟨o, t, os, us, R, z, h1, h2, h3, h4, h5, h6⟩ := h
  exact ⟨o, t, os, us, R, z, e _ _ h1, e _ _ h2, h3.mono (fun _ _ w => e _ _ w), e _ _ h4, h5.mono (fun _ _ w => e _ _ w), h6⟩
theorem ToldAt.dp {K : PySem.W.Frag} {H : Hp} {n : Nat} {a : Addr} {g : Gd} (h : ToldAt H n a g) : Dp K H (.ref a) (toldD n g) := by
  obtain ⟨o, t, os, us, R, z, h1, h2, h3, h4, h5, h6, h7⟩ := h
  unfold toldD
  rw [basisOf_eq h6, grainOf_eq h6 h7]
  exact .tup (SqT.of h1) (.cons (.tup (SqT.of h2) (dp_pairs os g.1 h3)) (.cons (dp_rowsT (SqT.of h4) h5) (.cons (.int z) .nil)))
theorem ToldAt.mono {H H' : Hp} {n : Nat} {a : Addr} {g : Gd} (k : ∀ a xs, H a = some (.tup xs) → H' a = some (.tup xs)) (h : ToldAt H n a g) : ToldAt H' n a g := by
  obtain ⟨o, t, os, us, R, z, h1, h2, h3, h4, h5, h6⟩ := h
  exact ⟨o, t, os, us, R, z, k _ _ h1, k _ _ h2, h3.mono k, k _ _ h4, h5.mono k, h6⟩
def ToldIn (H : Hp) (n : Nat) (as : List Addr) (M : List Gd) : Prop := as.length = M.length ∧ ∀ (i : Nat) (a : Addr) (g : Gd), as[i]? = some a → M[i]? = some g → ToldAt H n a g
theorem ToldIn.snoc {n : Nat} {H : Hp} {us : List Addr} {L : List Gd} (h : ToldIn H n us L) {u : Addr} {g : Gd} (hu : ToldAt H n u g) : ToldIn H n (us ++ [u]) (L ++ [g]) := by
  refine ⟨by simp [h.1], fun i b y h3 h4 => ?_⟩
  by_cases hi : i < us.length
  · rw [List.getElem?_append_left hi] at h3
    rw [List.getElem?_append_left (by rw [← h.1]; exact hi)] at h4
    exact h.2 i b y h3 h4
  · rw [List.getElem?_append_right (by omega)] at h3
    rw [List.getElem?_append_right (by rw [← h.1]; omega), ← h.1] at h4
    have : i - us.length = 0 := by have := (List.getElem?_eq_some_iff.mp h3).1; simp at this; omega
    rw [this] at h3 h4
    cases h3; cases h4
    exact hu
theorem ToldIn.dp {K : PySem.W.Frag} {H : Hp} {n : Nat} : ∀ {as : List Addr} {M : List Gd}, ToldIn H n as M → DpAll K H (as.map V.ref) (M.map (toldD n))
  | [], [], _ => .nil
  | [], _ :: _, h => by have := h.1; simp at this
  | _ :: _, [], h => by have := h.1; simp at this
  | a :: as, g :: M, h => .cons (h.2 0 a g rfl rfl).dp (ToldIn.dp ⟨by have := h.1; simpa using this, fun i b y h1 h2 => h.2 (i + 1) b y h1 h2⟩)
end Hg
set_option maxHeartbeats 4000000
namespace Hg
open PySem PySem.Spec PyProof.Rows L2
/-! ### shown texts can be kept: all their signs are characters -/
def OkS (x : Str) : Prop := ∀ c ∈ x.cps.toList, c < 0x110000
theorem OkS.ok {x : Str} (h : OkS x) : PyData.strOk x = true := by
  unfold PyData.strOk
  rw [Array.all_eq_true_iff_forall_mem]
  intro c hc
  exact decide_eq_true (h c (by simpa using hc))
end Hg
set_option maxHeartbeats 4000000
namespace Hg
open PySem PySem.Spec PyProof.Rows L2
end Hg
set_option maxHeartbeats 4000000
namespace Hg
open PySem PySem.Spec PyProof.Rows L2
/-! ### guards as they were passed -/
structure PasD (K : PySem.W.Frag) (H : Hp) (us as : List Addr) (ks : List (Bool × Bool)) (M : List Gd) : Prop where
  ul : us.length = M.length
  al : as.length = M.length
  kl : ks.length = M.length
  at_ : ∀ (i : Nat) (u a : Addr) (k : Bool × Bool) (g : Gd), us[i]? = some u → as[i]? = some a → ks[i]? = some k → M[i]? = some g → (∃ p : Addr, SqK K k.1 H u [.ref p, .ref a, .int (g.2.2 : Nat)]) ∧ SqK K k.2 H a (iV g.2.1)
theorem PasD.ex {K : PySem.W.Frag} {H H' : Hp} {us as : List Addr} {ks : List (Bool × Bool)} {M : List Gd} (e : Ex H H') (h : PasD K H us as ks M) : PasD K H' us as ks M :=
  ⟨h.ul, h.al, h.kl, fun i u a k g h1 h2 h3 h4 => let ⟨⟨p, h5⟩, h6⟩ := h.at_ i u a k g h1 h2 h3 h4; ⟨⟨p, e.seq h5⟩, e.seq h6⟩⟩
/-- their slices -/
def SlIn (D : Addr) (H : Hp) (ys as : List Addr) (ks : List (Bool × Bool)) (M : List Gd) : Prop := ∀ (i : Nat) (y a : Addr) (k : Bool × Bool) (g : Gd), ys[i]? = some y → as[i]? = some a → ks[i]? = some k → M[i]? = some g → y ≠ D ∧ H y = some (if k.1 then .tup [.ref a, .int (g.2.2 : Nat)] else .lst [.ref a, .int (g.2.2 : Nat)])
theorem SlIn.put {D : Addr} {H : Hp} {ys as : List Addr} {ks : List (Bool × Bool)} {M : List Gd} {o : HO} (h : SlIn D H ys as ks M) : SlIn D (upd H D o) ys as ks M := fun i y a k g h1 h2 h3 h4 => let ⟨n, e⟩ := h i y a k g h1 h2 h3 h4; ⟨n, (upd_ne n).trans e⟩
theorem SlIn.ex {D : Addr} {H H' : Hp} {ys as : List Addr} {ks : List (Bool × Bool)} {M : List Gd} (e : Ex H H') (h : SlIn D H ys as ks M) : SlIn D H' ys as ks M := fun i y a k g h1 h2 h3 h4 => let ⟨n, z⟩ := h i y a k g h1 h2 h3 h4; ⟨n, e _ _ z⟩
theorem SlIn.snoc {D : Addr} {H : Hp} {ys as : List Addr} {ks : List (Bool × Bool)} {M : List Gd} (h : SlIn D H ys as ks M) {y a : Addr} {k : Bool × Bool} {g : Gd} (ha : as[ys.length]? = some a) (hk : ks[ys.length]? = some k) (hg : M[ys.length]? = some g) (n : y ≠ D)
    (hy : H y = some (if k.1 then .tup [.ref a, .int (g.2.2 : Nat)] else .lst [.ref a, .int (g.2.2 : Nat)])) : SlIn D H (ys ++ [y]) as ks M := fun i y' a' k' g' h1 h2 h3 h4 => by
  by_cases hi : i < ys.length
  · rw [List.getElem?_append_left hi] at h1
    exact h i y' a' k' g' h1 h2 h3 h4
  · rw [List.getElem?_append_right (by omega)] at h1
    have : i - ys.length = 0 := by have := (List.getElem?_eq_some_iff.mp h1).1; simp at this; omega
    rw [this] at h1
    cases h1
    have : i = ys.length := by omega
    subst this
    rw [ha] at h2; rw [hk] at h3; rw [hg] at h4
    cases h2; cases h3; cases h4
    exact ⟨n, hy⟩
end Hg
set_option maxHeartbeats 4000000
namespace Hg
open PySem PySem.Spec PyProof.Rows L2
/-! ### lists of divisors, rising -/
theorem asc_ext : ∀ {xs ys : List Int}, xs.Pairwise (· < ·) → ys.Pairwise (· < ·) → (∀ z, z ∈ xs ↔ z ∈ ys) → xs = ys
  | [], [], _, _, _ => rfl
  | [], y :: ys, _, _, h => by have := (h y).mpr List.mem_cons_self; cases this
  | x :: xs, [], _, _, h => by have := (h x).mp List.mem_cons_self; cases this
  | x :: xs, y :: ys, hx, hy, h => by
    obtain ⟨hx1, hx2⟩ := List.pairwise_cons.mp hx
    obtain ⟨hy1, hy2⟩ := List.pairwise_cons.mp hy
    have e : x = y := by
      rcases List.mem_cons.mp ((h x).mp List.mem_cons_self) with a | a
      · exact a
      · rcases List.mem_cons.mp ((h y).mpr List.mem_cons_self) with b | b
        · exact b.symm
        · have := hx1 y b; have := hy1 x a; omega
    subst e
    congr 1
    refine asc_ext hx2 hy2 fun z => ?_
    constructor
    · intro hz
      rcases List.mem_cons.mp ((h z).mp (List.mem_cons_of_mem _ hz)) with a | a
      · have := hx1 z hz; omega
      · exact a
    · intro hz
      rcases List.mem_cons.mp ((h z).mpr (List.mem_cons_of_mem _ hz)) with a | a
      · have := hy1 z hz; omega
      · exact a
end Hg
namespace Hg
open PySem PySem.Spec PyProof.Rows L2
/-- what safe_divisors answers, or which guard is not kept -/
def Fnd (n b : Nat) (f : List Int) (L : List Gd) (H : Hp) (t : Addr) : Prop := (GKept n L ∧ H t = some (.tup (iV (safeD n f L b)))) ∨ ∃ i : Nat, Lost n L i ∧ H t = some (.tup [.str "not kept", .int (i : Nat)])
theorem Fnd.ex {n b : Nat} {f : List Int} {L : List Gd} {H H' : Hp} {t : Addr} (e : Ex H H') (h : Fnd n b f L H t) : Fnd n b f L H' t := h.imp (fun ⟨h1, h2⟩ => ⟨h1, e _ _ h2⟩) fun ⟨i, h1, h2⟩ => ⟨i, h1, e _ _ h2⟩
theorem Fnd.tup {n b : Nat} {f : List Int} {L : List Gd} {H : Hp} {t : Addr} (h : Fnd n b f L H t) : ∃ xs, H t = some (.tup xs) := h.elim (fun h => ⟨_, h.2⟩) fun ⟨_, _, h⟩ => ⟨_, h⟩
theorem Fnd.ne {K : PySem.W.Frag} {n b : Nat} {f : List Int} {L : List Gd} {H : Hp} {p q : Addr} {Q : VK} (h : Fnd n b f L H p) (k : Fnd n b f L H q) (kq : Q (.bl false) H) : rNeA K (.ref p) (.ref q) H Q := by
  rcases h with ⟨h1, h2⟩ | ⟨i, h1, h2⟩
  · rcases k with ⟨k1, k2⟩ | ⟨j, k1, k2⟩
    · refine ne_ints h2 k2 ?_
      rw [decide_eq_true rfl]
      exact kq
    · exact absurd h1 k1.not
  · rcases k with ⟨k1, k2⟩ | ⟨j, k1, k2⟩
    · exact absurd k1 h1.not
    · have e := h1.uniq k1
      subst e
      exact ne_nk h2 k2 kq
end Hg
set_option maxHeartbeats 4000000
namespace Hg
open PySem PySem.Spec PyProof.Rows L2
/-- the numbers of those that follow among the first i -/
def SpareT (n : Nat) (S : List (List Int × Nat)) (i : Nat) (zs : List Int) : Prop := ∃ b : Nat → Bool, (∀ j, j < i → (b j = true ↔ Idle n S j)) ∧ zs = ((List.range i).filter b).map fun i : Nat => (i : Int)
theorem SpareT.all {n : Nat} {S : List (List Int × Nat)} {zs : List Int} (h : SpareT n S S.length zs) : SpareL n S zs := h
theorem SpareT.len {n i : Nat} {S : List (List Int × Nat)} {zs : List Int} (h : SpareT n S i zs) : zs.length ≤ i := by
  obtain ⟨b, _, rfl⟩ := h
  rw [List.length_map]
  exact Nat.le_trans (List.length_filter_le _ _) (by rw [List.length_range]; exact Nat.le_refl _)
theorem SpareT.step {n i : Nat} {S : List (List Int × Nat)} {zs : List Int} (h : SpareT n S i zs) (c : Bool) (hc : c = true ↔ Idle n S i) : SpareT n S (i + 1) (zs ++ (if c then [(i : Int)] else [])) := by
  obtain ⟨b, hb, rfl⟩ := h
  refine ⟨fun j => if j = i then c else b j, fun j hj => ?_, ?_⟩
  · by_cases e : j = i
    · subst e; show (if j = j then c else b j) = true ↔ _; rw [if_pos rfl]; exact hc
    · show (if j = i then c else b j) = true ↔ _; rw [if_neg e]; exact hb j (by omega)
  · rw [List.range_succ, List.filter_append, List.map_append]
    have e1 : (List.range i).filter (fun j => if j = i then c else b j) = (List.range i).filter b := List.filter_congr fun j hj => by
      have := List.mem_range.mp hj
      rw [if_neg (by omega)]
    rw [e1]
    cases c with
    | true => rw [List.filter_cons_of_pos (by simp)]; rfl
    | false => rw [List.filter_cons_of_neg (by simp)]; rfl
theorem SpareL.more {n m : Nat} {S : List (List Int × Nat)} {f : List Int} {zs : List Int} {c : Bool} (h : SpareL n S zs) (hc : c = true ↔ ∀ v, Hn.LatS n S v ↔ Hn.LatS n (S ++ [(f, m)]) v) : SpareL n (S ++ [(f, m)]) (zs ++ (if c then [(S.length : Int)] else [])) := by
  have tk : ∀ j, j ≤ S.length → (S ++ [(f, m)]).take j = S.take j := fun j hj => by rw [List.take_append_of_le_length hj]
  have h1 : SpareT n (S ++ [(f, m)]) S.length zs := by
    obtain ⟨b, hb, e⟩ := h
    refine ⟨b, fun j hj => ?_, e⟩
    rw [hb j hj]
    unfold Idle
    rw [tk j (by omega), tk (j + 1) (by omega)]
  have h2 := h1.step c (by
    unfold Idle
    rw [tk _ (Nat.le_refl _), List.take_length, List.take_of_length_le (by simp)]
    exact hc)
  have el : (S ++ [(f, m)]).length = S.length + 1 := by simp
  unfold SpareL
  rw [el]
  exact h2
end Hg
namespace Hg
open PySem PySem.Spec PyProof.Rows L2
end Hg
set_option maxHeartbeats 4000000
namespace Hg
open PySem PySem.Spec PyProof.Rows L2
/-! ### observations handed in as tuples or lists at each place -/
def ObsQ (H : Hp) (as : List Addr) (S : List (List Int × Nat)) : Prop := as.length = S.length ∧ ∀ (i : Nat) (a : Addr) (p : List Int × Nat), as[i]? = some a → S[i]? = some p → ∃ fa : Addr, (H a = some (.tup [.ref fa, .int (p.2 : Nat)]) ∨ H a = some (.lst [.ref fa, .int (p.2 : Nat)])) ∧ FrmAt H fa p.1
theorem ObsQ.ex {H H' : Hp} {as : List Addr} {S : List (List Int × Nat)} (e : Ex H H') (h : ObsQ H as S) : ObsQ H' as S :=
  ⟨h.1, fun i a p h1 h2 => let ⟨fa, x, y⟩ := h.2 i a p h1 h2; ⟨fa, x.imp (e _ _) (e _ _), y.ex e⟩⟩
theorem ObsQ.nil {H : Hp} : ObsQ H [] [] := ⟨rfl, fun i a p h => by simp at h⟩
theorem ObsQ.snoc {H : Hp} {as : List Addr} {S : List (List Int × Nat)} (h : ObsQ H as S) {a fa : Addr} {p : List Int × Nat} (h1 : H a = some (.tup [.ref fa, .int (p.2 : Nat)]) ∨ H a = some (.lst [.ref fa, .int (p.2 : Nat)])) (h2 : FrmAt H fa p.1) : ObsQ H (as ++ [a]) (S ++ [p]) := by
  refine ⟨by simp [h.1], fun i b x h3 h4 => ?_⟩
  by_cases hi : i < as.length
  · rw [List.getElem?_append_left hi] at h3
    rw [List.getElem?_append_left (by rw [← h.1]; exact hi)] at h4
    exact h.2 i b x h3 h4
  · rw [List.getElem?_append_right (by omega)] at h3
    rw [List.getElem?_append_right (by rw [← h.1]; omega), ← h.1] at h4
    have : i - as.length = 0 := by have := (List.getElem?_eq_some_iff.mp h3).1; simp at this; omega
    rw [this] at h3 h4
    cases h3; cases h4
    exact ⟨fa, h1, h2⟩
/-- where they are, but for one list beside them -/
def ObsQL (L : Addr) (H : Hp) (as : List Addr) (S : List (List Int × Nat)) : Prop := as.length = S.length ∧ ∀ (i : Nat) (a : Addr) (p : List Int × Nat), as[i]? = some a → S[i]? = some p → ∃ fa : Addr, a ≠ L ∧ fa ≠ L ∧ (H a = some (.tup [.ref fa, .int (p.2 : Nat)]) ∨ H a = some (.lst [.ref fa, .int (p.2 : Nat)])) ∧ FrmAt H fa p.1
theorem ObsQL.nil {L : Addr} {H : Hp} : ObsQL L H [] [] := ⟨rfl, fun i a p h => by simp at h⟩
theorem ObsQL.ex {L : Addr} {H H' : Hp} {as : List Addr} {S : List (List Int × Nat)} (e : Ex H H') (h : ObsQL L H as S) : ObsQL L H' as S :=
  ⟨h.1, fun i a p h1 h2 => let ⟨fa, n1, n2, x, y⟩ := h.2 i a p h1 h2; ⟨fa, n1, n2, x.imp (e _ _) (e _ _), y.ex e⟩⟩
theorem ObsQL.put {L : Addr} {H : Hp} {o : HO} {as : List Addr} {S : List (List Int × Nat)} (h : ObsQL L H as S) : ObsQL L (upd H L o) as S :=
  ⟨h.1, fun i a p h1 h2 => let ⟨fa, n1, n2, x, y⟩ := h.2 i a p h1 h2; ⟨fa, n1, n2, x.imp (upd_ne n1).trans (upd_ne n1).trans, y.imp (upd_ne n2).trans (upd_ne n2).trans⟩⟩
theorem ObsQL.snoc {L : Addr} {H : Hp} {as : List Addr} {S : List (List Int × Nat)} (h : ObsQL L H as S) {a fa : Addr} {p : List Int × Nat} (n1 : a ≠ L) (n2 : fa ≠ L) (h1 : H a = some (.tup [.ref fa, .int (p.2 : Nat)]) ∨ H a = some (.lst [.ref fa, .int (p.2 : Nat)])) (h2 : FrmAt H fa p.1) : ObsQL L H (as ++ [a]) (S ++ [p]) := by
  refine ⟨by simp [h.1], fun i b x h3 h4 => ?_⟩
  by_cases hi : i < as.length
  · rw [List.getElem?_append_left hi] at h3
    rw [List.getElem?_append_left (by rw [← h.1]; exact hi)] at h4
    exact h.2 i b x h3 h4
  · rw [List.getElem?_append_right (by omega)] at h3
    rw [List.getElem?_append_right (by rw [← h.1]; omega), ← h.1] at h4
    have : i - as.length = 0 := by have := (List.getElem?_eq_some_iff.mp h3).1; simp at this; omega
    rw [this] at h3 h4
    cases h3; cases h4
    exact ⟨fa, n1, n2, h1, h2⟩
end Hg
set_option maxHeartbeats 4000000
namespace Hg
open PySem PySem.Spec PyProof.Rows L2
end Hg
namespace Hg
open PySem PySem.Spec PyProof.Rows L2
end Hg
set_option maxHeartbeats 4000000
namespace Hg
open PySem PySem.Spec PyProof.Rows L2
/-! ### what a Knowledge says of itself, all of it -/
end Hg
set_option maxHeartbeats 4000000
namespace Hg
open PySem PySem.Spec PyProof.Rows L2
end Hg
namespace Hg
open PySem PySem.Spec PyProof.Rows L2
end Hg
set_option maxHeartbeats 4000000
namespace Hg
open PySem PySem.Spec PyProof.Rows L2
/-! ### the same told otherwise -/
end Hg
namespace Hg
end Hg
set_option maxHeartbeats 4000000
namespace Hg
open PySem PySem.Spec PyProof.Rows L2
/-! ### things of any kind in the place of cells -/
def items : PyData → List PyData
  | .tuple ds => ds
  | .list ds => ds
  | _ => []
def toI : PyData → Int
  | .int z => z
  | _ => 0
def cellD (n : Nat) : PyData → Bool
  | .int z => if decide (0 ≤ z) = true then decide (z < (n : Int)) else false
  | _ => false
def ascL (zs : List Int) : Bool := (List.range (zs.length - 1)).all fun k => decide (zs.getD k 0 < zs.getD (k + 1) 0)
def cellsD (n : Nat) (d : PyData) : Bool := isSq d && !(items d).isEmpty && (items d).all (cellD n) && ascL ((items d).map toI)
/-- a thing whose items have a kind -/
def Thg (K : PySem.W.Frag) (H : Hp) (v : V) (d : PyData) : Prop := Dp K H v d ∧ (isSq d = true → ∃ (k : Bool) (a : Addr) (xs : List V), v = .ref a ∧ SqK K k H a xs ∧ DpAll K H xs (items d) ∧ ∀ x ∈ xs, ∃ nm, Kd H x nm)
theorem Thg.ex {K : PySem.W.Frag} {H H' : Hp} {v : V} {d : PyData} (e : Ex H H') (h : Thg K H v d) : Thg K H' v d :=
  ⟨dp_ex e d v h.1, fun q => let ⟨k, a, xs, h1, h2, h3, h4⟩ := h.2 q; ⟨k, a, xs, h1, e.seq h2, dpAll_ex e _ _ h3, fun x hx => let ⟨nm, kx⟩ := h4 x hx; ⟨nm, kx.ex e⟩⟩⟩
theorem Thg.tup {K : PySem.W.Frag} {H : Hp} {a : Addr} {xs : List V} {ds : List PyData} (h : H a = some (.tup xs)) (hd : DpAll K H xs ds) (hk : ∀ x ∈ xs, ∃ nm, Kd H x nm) : Thg K H (.ref a) (.tuple ds) :=
  ⟨.tup (SqT.of h) hd, fun _ => ⟨true, a, xs, rfl, SqK.tup h, hd, hk⟩⟩
theorem Thg.lst {K : PySem.W.Frag} {H : Hp} {a : Addr} {xs : List V} {ds : List PyData} (h : H a = some (.lst xs)) (hd : DpAll K H xs ds) (hk : ∀ x ∈ xs, ∃ nm, Kd H x nm) : Thg K H (.ref a) (.list ds) :=
  ⟨.lst (SqL.of h) hd, fun _ => ⟨false, a, xs, rfl, SqK.lst h, hd, hk⟩⟩
/-- a pair of a thing that is no set of cells and what is due -/
def WrIn (K : PySem.W.Frag) (n : Nat) (H : Hp) (t : Addr) : Prop := ∃ (v w : V) (d : PyData), H t = some (.tup [v, w]) ∧ Thg K H v d ∧ Tp H w (fz d) ∧ cellsD n d = false ∧ (items d).length ≤ 100 ∧ wk d ≤ 1000 ∧ SeqAt.shaped (.list [fz d, .bool true]) = true
theorem WrIn.ex {K : PySem.W.Frag} {n : Nat} {H H' : Hp} {t : Addr} (e : Ex H H') (h : WrIn K n H t) : WrIn K n H' t := by
  obtain ⟨v, w, d, h1, h2, h3, h4⟩ := h
  exact ⟨v, w, d, e _ _ h1, h2.ex e, Tp.mono (fun _ _ z => e _ _ z) _ _ h3, h4⟩
/-- raise C(v) with one field, any thing -/
theorem mkD1 {K : PySem.W.Frag} {C : Addr} {f : Str} {v : V} {d : PyData} {H1 : Hp} {Q : XK} (hd : Dp K H1 v d) (hw : wk d ≤ 100000) (next : ∀ (dx : Addr) (H2 : Hp) (v' : V), Ex H1 H2 → H2 dx = some (.xd [(f, v')]) → Tp H2 v' (fz d) → Q (.ref C) (some dx) H2) :
    [v].length ≤ 1000 ∧ ∀ a, H1 a = none → sp_ini C [f] K (.ref a :: ([v] ++ [])) (upd H1 a (exo a C none)) (fun v H2 => v = .non ∧ ∃ (d : Addr) (fs : List (Str × V)), H2 a = some (exo a C (some d)) ∧ H2 d = some (exd d fs) ∧ H1 d = none ∧ Q (.ref C) (some d) (upd (del H2 a) d (.xd fs))) (fun _ _ _ => False) := by
  refine ⟨by show 1 ≤ 1000; decide, fun a ha => ⟨a, [v], [d], H1, rfl, rfl, ha, rfl, .cons hd .nil, fun d hd => ?_, fun H' dx ws gdx e ea ed t => ⟨rfl, dx, _, ea, ed, gdx, ?_⟩⟩⟩
  · rw [List.mem_singleton.mp hd]; exact hw
  · cases t with
    | cons h t =>
      cases t
      refine next dx _ _ ((e.del ha).up gdx) upd_same (Tp.mono (fun b xs hb => ?_) _ _ h)
      have n1 : b ≠ dx := fun z => by rw [z, ed] at hb; exact exd_tup (Option.some.inj hb)
      have n2 : b ≠ a := fun z => by rw [z, ea] at hb; exact exo_tup (Option.some.inj hb)
      exact (upd_ne n1).trans ((del_ne n2).trans hb)
end Hg
namespace Hg
open PySem PySem.Spec PyProof.Rows L2
end Hg
set_option maxHeartbeats 4000000
namespace Hg
open PySem PySem.Spec PyProof.Rows L2
/-! ### matrices of changed cells -/
/-- a row, a tuple or a list -/
def FrmT (H : Hp) (a : Addr) (f : List Int) : Prop := H a = some (.tup (iV f)) ∨ H a = some (.lst (iV f))
theorem FrmT.ex {H H' : Hp} {a : Addr} {f : List Int} (e : Ex H H') (h : FrmT H a f) : FrmT H' a f := h.imp (e _ _) (e _ _)
def RowsF (H : Hp) (as : List Addr) (M : List (List Int)) : Prop := as.length = M.length ∧ ∀ (i : Nat) (a : Addr) (r : List Int), as[i]? = some a → M[i]? = some r → FrmT H a r
theorem RowsF.ex {H H' : Hp} {as : List Addr} {M : List (List Int)} (e : Ex H H') (h : RowsF H as M) : RowsF H' as M := ⟨h.1, fun i a r h1 h2 => (h.2 i a r h1 h2).ex e⟩
theorem RowsIn.f {H : Hp} {as : List Addr} {M : List (List Int)} (h : RowsIn H as M) : RowsF H as M := ⟨h.1, fun i a r h1 h2 => .inl (h.2 i a r h1 h2)⟩
theorem RowsIn.ex {H H' : Hp} {as : List Addr} {R : List (List Int)} (h : RowsIn H as R) (e : Ex H H') : RowsIn H' as R := h.mono fun _ _ t => e _ _ t
end Hg
set_option maxHeartbeats 4000000
namespace Hn
/-- is a vector in a span? columns one after another -/
structure InI (n c : Nat) (R L : List (List Int)) (v u : Vc) : Prop where
  len : ∀ r ∈ L, r.length = n
  rz : ∀ r ∈ L, ∀ j, j < c → fv r j = 0
  uz : ∀ j, j < c → u j = 0
  uo : ∀ j, n ≤ j → u j = 0
  iff : Sp (RL R) v ↔ Sp (RL L) u
theorem sp_col {L : List (List Int)} {u : Vc} {c : Nat} (h0 : ∀ r ∈ L, fv r c = 0) (h : Sp (RL L) u) : u c = 0 := h.at0 (by rintro w ⟨r, hr, rfl⟩; exact h0 r hr)
theorem InI.none {n c : Nat} {R L : List (List Int)} {v u : Vc} (h : InI n c R L v u) (h0 : ∀ r ∈ L, fv r c = 0) : (u c ≠ 0 → ¬ Sp (RL R) v) ∧ (u c = 0 → InI n (c + 1) R L v u) := by
  refine ⟨fun hu hs => hu (sp_col h0 (h.iff.mp hs)), fun hu => ⟨h.len, fun r hr j hj => ?_, fun j hj => ?_, h.uo, h.iff⟩⟩
  · by_cases e : j = c
    · subst e; exact h0 r hr
    · exact h.rz r hr j (by omega)
  · by_cases e : j = c
    · subst e; exact hu
    · exact h.uz j (by omega)
theorem InI.some {n c : Nat} {R L L' : List (List Int)} {r : List Int} {v u : Vc} (h : InI n c R L v u) (sp : ∀ w, Sp (RL (L' ++ [r])) w ↔ Sp (RL L) w) (h0 : ∀ t ∈ L', fv t c = 0) (hl : ∀ t ∈ L', t.length = n) (rl : r.length = n) (rc : fv r c ≠ 0) :
    (¬ fv r c ∣ u c → ¬ Sp (RL R) v) ∧ (fv r c ∣ u c → ∀ u' : Vc, (∀ j, u' j = (0 - (u c).fdiv (fv r c)) * fv r j + u j) → InI n (c + 1) R L' v u') := by
  have hr : Sp (RL L) (fv r) := (sp _).mp (.of ⟨r, by simp, rfl⟩)
  have hL' : ∀ t ∈ L', Sp (RL L) (fv t) := fun t ht => (sp _).mp (.of ⟨t, List.mem_append_left _ ht, rfl⟩)
  have up : ∀ w, Sp (RL L') w → Sp (RL L) w := fun w hw => hw.trans fun x ⟨t, ht, e⟩ => by subst e; exact hL' t ht
  have col : ∀ w z, Sp (RL L') w → (∀ j, u j = w j + z * fv r j) → u c = z * fv r c := fun w z hw e => by rw [e c, sp_col h0 hw, Int.zero_add]
  constructor
  · intro hd hs
    obtain ⟨w, z, hw, e⟩ := sp_snoc ((sp u).mpr (h.iff.mp hs))
    exact hd ⟨z, by rw [col w z hw e, Int.mul_comm]⟩
  · rintro ⟨t, ht⟩ u' hu'
    have hq : (u c).fdiv (fv r c) = t := by rw [ht]; exact Int.mul_fdiv_cancel_left t rc
    rw [hq] at hu'
    have rz : ∀ j, j < c → fv r j = 0 := fun j hj => sp_col (fun s hs => h.rz s hs j hj) hr
    refine ⟨hl, fun s hs j hj => ?_, fun j hj => ?_, fun j hj => ?_, ?_⟩
    · by_cases e : j = c
      · subst e; exact h0 s hs
      · exact sp_col (fun s hs => h.rz s hs j (by omega)) (hL' s hs)
    · rw [hu' j]
      by_cases e : j = c
      · subst e; rw [ht, Int.mul_comm (fv r j) t]; rw [Int.zero_sub, Int.neg_mul]; omega
      · rw [rz j (by omega), h.uz j (by omega)]; omega
    · rw [hu' j, h.uo j hj, fv_out (by rw [rl]; exact hj)]; omega
    · rw [h.iff]
      constructor
      · intro hs
        obtain ⟨w, z, hw, e⟩ := sp_snoc ((sp u).mpr hs)
        have hz := col w z hw e
        have zt : z = t := by
          have : fv r c * t = fv r c * z := by rw [← ht, hz, Int.mul_comm]
          exact (Int.eq_of_mul_eq_mul_left rc this).symm
        refine hw.cast fun j => ?_
        rw [hu' j, e j, zt, Int.zero_sub, Int.neg_mul]
        omega
      · intro hs
        refine ((up _ hs).plus (hr.mul t)).cast fun j => ?_
        rw [hu' j, Int.zero_sub, Int.neg_mul]
        omega
theorem InI.fin {n : Nat} {R L : List (List Int)} {v u : Vc} (h : InI n n R L v u) : Sp (RL R) v := by
  refine h.iff.mpr (Sp.zero.cast fun j => ?_)
  by_cases hj : j < n
  · exact (h.uz j hj).symm
  · exact (h.uo j (by omega)).symm
end Hn
namespace Hg
open PySem PySem.Spec PyProof.Rows L2
end Hg
set_option maxHeartbeats 4000000
namespace Hn
/-- numbers of the lattice of some forms, any bound of these -/
theorem LatS.bndG {n N W y e A : Nat} {S : List (List Int × Nat)} {C : List (List Int)} (hA : 1 ≤ A) (hC : Hnf n (LatS n S) C) (hn : 1 ≤ n) (hN : n ≤ N) (hS : ∀ p ∈ S, bnd A (fv p.1)) (he : prS S ≤ 2 ^ e) (hW : N * (2 * N * A) ^ N ≤ 2 ^ W) (hy : 2 * N * 2 ^ W ≤ 2 ^ y) : ∀ r ∈ C, bnd (2 ^ (W * N + e + hE N y)) (fv r) := by
  obtain ⟨p, c, w, h⟩ := ker_cols (n := n) (A := A) hA (E := exS S) (fun f hf => by
    obtain ⟨p, hp, rfl⟩ := List.mem_map.mp hf
    exact hS p (List.mem_filter.mp hp).1) n (Nat.le_refl _)
  obtain ⟨d, hd, k⟩ := h.gen hn hA
  have hX : 1 ≤ 2 * n * A := Nat.mul_pos (by omega) hA
  have w1 : n * (2 * n * A) ^ n ≤ 2 ^ W := Nat.le_trans (Nat.mul_le_mul hN (Nat.le_trans (Nat.pow_le_pow_left (Nat.mul_le_mul_right A (by omega)) n) (Nat.pow_le_pow_right (Nat.le_trans hX (Nat.mul_le_mul_right A (by omega))) hN))) hW
  have pk := hC.pinchK k (prS_pos S) (Nat.mul_pos hn (Nat.pow_pos hX)) (fun v hv => ⟨hv.1, fun f hf => by
    obtain ⟨p, hp, rfl⟩ := List.mem_map.mp hf
    obtain ⟨p1, p2⟩ := List.mem_filter.mp hp
    have := hv.2 p p1
    rw [show p.2 = 0 by simpa using p2] at this
    exact Int.zero_dvd.mp this⟩) (fun u hu => ⟨fun j hj => by show (prS S : Int) * u j = 0; rw [hu.1 j hj]; omega, fun p hp => by
      have e : dv n (fv p.1) (fun j => (prS S : Int) * u j) = prS S * dv n (fv p.1) u := by
        have := dv_sub (n := n) (f := fv p.1) (u := u) (v := u) (a := prS S) (b := 0)
        simp only [Int.zero_mul, Int.sub_zero] at this
        exact this
      rw [e]
      by_cases z : p.2 = 0
      · rw [hu.2 p.1 (List.mem_map.mpr ⟨p, List.mem_filter.mpr ⟨hp, by simp [z]⟩, rfl⟩)]
        simp
      · exact Int.dvd_mul_of_dvd_left (Int.natCast_dvd_natCast.mpr (prS_dvd hp z))⟩)
  have hD : d ≤ 2 ^ (W * N) := by
    refine Nat.le_trans hd (Nat.le_trans (Nat.pow_le_pow_left w1 n) ?_)
    rw [← Nat.pow_mul]
    exact Nat.pow_le_pow_right (by decide) (Nat.mul_le_mul_left _ hN)
  have hp : pinB (d * prS S) n (n * (2 * n * A) ^ n) ≤ 2 ^ ((W * N + e) + hE n y) := pinB_le (Nat.le_trans (Nat.mul_le_mul (by omega) w1) hy) (by rw [Nat.pow_add]; exact Nat.mul_le_mul hD he)
  intro r hr j
  exact Nat.le_trans (pk r hr j) (Nat.le_trans hp (Nat.pow_le_pow_right (by decide) (Nat.add_le_add_left (hE_mono hN (Nat.le_refl _)) _)))
theorem LatS.bnd20 {n : Nat} {S : List (List Int × Nat)} {C : List (List Int)} (hC : Hnf n (LatS n S) C) (hn : 1 ≤ n) (h8 : n ≤ 8) (hl : S.length ≤ 20) (hS : ∀ p ∈ S, bnd (2 ^ 20) (fv p.1) ∧ p.2 ≤ 2 ^ 20) : ∀ r ∈ C, bnd (2 ^ 5360) (fv r) := by
  have h := LatS.bndG (A := 2 ^ 20) (N := 8) (W := 195) (y := 199) (e := 400) (by decide) hC hn h8 (fun p hp => (hS p hp).1) (Nat.le_trans (prS_le (x := 20) fun p hp => (hS p hp).2) (Nat.pow_le_pow_right (by decide) (by omega))) (by decide +kernel) (by decide +kernel)
  intro r hr j
  exact Nat.le_trans (h r hr j) (Nat.pow_le_pow_right (by decide) (by decide))
/-! ### forms and observations through a matrix -/
/-! ### what a matrix reaches -/
end Hn
set_option maxHeartbeats 4000000
namespace Hg
open PySem PySem.Spec PyProof.Rows L2
end Hg
set_option maxHeartbeats 4000000
namespace Hg
open PySem PySem.Spec PyProof.Rows L2
end Hg
set_option maxHeartbeats 4000000
namespace Hn

/-! ### a change of unit -/
/-! ### an order of cells -/
end Hn
set_option maxHeartbeats 4000000
namespace Hn
end Hn
namespace Hg
open PySem PySem.Spec PyProof.Rows L2
/-- the lists that are made of rows, and what is known of them -/
theorem RowsN.k {K : PySem.W.Frag} {H0 H : Hp} {D : Addr} {xs : List V} {R : List (List Int)} (h : RowsN H0 D H xs R) : RowsK K H xs R := ⟨h.1, fun i x r h1 h2 => let ⟨b, q1, _, _, q4⟩ := h.2 i x r h1 h2; ⟨false, b, q1, SqK.lst q4⟩⟩
end Hg
set_option maxHeartbeats 4000000
namespace Hg
open PySem PySem.Spec PyProof.Rows L2
/-! ### knowledge of other cells -/
theorem ks20 {n : Nat} {T : List (List Int × Nat)} (n1 : 1 ≤ n) (n8 : n ≤ 8) (hl : T.length ≤ 20) (h : ∀ p ∈ T, p.1.length = n ∧ Hn.bnd (2 ^ 20) (Hn.fv p.1) ∧ p.2 ≤ 1000000) : KS n (2 ^ 20) (2 ^ 5360) T :=
  ⟨h, by omega, fun i R hR => Hn.LatS.bnd20 hR n1 n8 (by rw [List.length_take]; omega) fun p hp => by
    have := h p (List.mem_of_mem_take hp)
    exact ⟨this.2.1, by omega⟩⟩
theorem RowsF.k {K : PySem.W.Frag} {H : Hp} {as : List Addr} {M : List (List Int)} (h : RowsF H as M) : RowsK K H (as.map V.ref) M := ⟨by rw [List.length_map]; exact h.1, fun i x r h1 h2 => by
  rw [List.getElem?_map] at h1
  obtain ⟨a, ha, rfl⟩ := Option.map_eq_some_iff.mp h1
  rcases h.2 i a r ha h2 with g | g
  · exact ⟨true, a, rfl, SqK.tup g⟩
  · exact ⟨false, a, rfl, SqK.lst g⟩⟩
end Hg
set_option maxHeartbeats 4000000
namespace Hg
open PySem PySem.Spec PyProof.Rows L2
/-! ### the laws' elimination, with a bound of the rows' values in the place of one of the form -/
/-! ### observations of the reshape laws -/
end Hg
set_option maxHeartbeats 4000000
namespace Hg
open PySem PySem.Spec PyProof.Rows L2
theorem PairsIn.cons {H : Hp} {a : Addr} {as : List Addr} {p : List Int × Nat} {T : List (List Int × Nat)} {fa : Addr} (h1 : H a = some (.tup [.ref fa, .int (p.2 : Nat)])) (h2 : H fa = some (.tup (iV p.1))) (h : PairsIn H as T) : PairsIn H (a :: as) (p :: T) := by
  refine ⟨by simp [h.1], fun i b q g1 g2 => ?_⟩
  cases i with
  | zero => cases g1; cases g2; exact ⟨fa, h1, h2⟩
  | succ i => exact h.2 i b q (by simpa using g1) (by simpa using g2)
end Hg
set_option maxHeartbeats 4000000
namespace Hn

/-! ### orders there and back -/
end Hn
namespace Hg
open PySem PySem.Spec PyProof.Rows L2
/-- observations of small forms -/
def Ok3 (n : Nat) (S : List (List Int × Nat)) : Prop := ∀ p ∈ S, p.1.length = n ∧ Hn.bnd 3 (Hn.fv p.1) ∧ p.2 ≤ 1000000
theorem Ok3.ks {n : Nat} {S : List (List Int × Nat)} (h : Ok3 n S) (n1 : 1 ≤ n) (n8 : n ≤ 8) (hl : S.length ≤ 20) : KS n (2 ^ 20) (2 ^ 5360) S := ks20 n1 n8 hl fun p hp => ⟨(h p hp).1, Hn.bnd_mono (by decide) (h p hp).2.1, (h p hp).2.2⟩
theorem kn_no {n : Nat} {m : Str} (h1 : ¬ m = "_size") (h2 : ¬ m = "_observations") (h3 : ¬ m = "_stages") : ∀ o s : Addr, (kf n o s).lookup m = none := fun o s => kf_no h1 h2 h3
end Hg
set_option maxHeartbeats 4000000
namespace Hn
/-- what a list of pivot columns and small vectors beside them tells -/
structure ColR (n m W : Nat) (E : List (List Int)) (p : Nat) (c : Nat → Nat) (w : Nat → Vc) : Prop where
  pm : p ≤ m
  up : ∀ i i', i < i' → i' < p → c i < c i'
  lt : ∀ i, i < p → c i < m
  ind : IndC E p c
  ker : ∀ j, j < m → Ker n E (w j) ∧ bnd W (w j)
  at_ : ∀ j, j < m → (∃ i, i < p ∧ c i = j) ∨ (w j j ≠ 0 ∧ ∀ k, w j k ≠ 0 → k = j ∨ ∃ i, i < p ∧ c i = k)
theorem ColR.gen {n W : Nat} {E : List (List Int)} {p : Nat} {c : Nat → Nat} {w : Nat → Vc} (h : ColR n n W E p c w) (W1 : 1 ≤ W) : ∃ d, d ≤ W ^ n ∧ KE n (Ker n E) ((List.range n).map w) W d := by
  have mem : ∀ j, j < n → w j ∈ (List.range n).map w := fun j hj => List.mem_map.mpr ⟨j, List.mem_range.mpr hj, rfl⟩
  have go : ∀ m, m ≤ n → ∃ d, 1 ≤ d ∧ d ≤ W ^ m ∧ ∀ v, Ker n E v → ∃ u, Sp (fun u => u ∈ (List.range n).map w) u ∧ Ker n E (fun j => (d : Int) * v j - u j) ∧ ∀ j, j < m → (∃ i, i < p ∧ c i = j) ∨ (d : Int) * v j - u j = 0 := by
    intro m
    induction m with
    | zero => exact fun _ => ⟨1, Nat.le_refl _, Nat.le_refl _, fun v hv => ⟨_, .zero, ⟨fun j hj => by dsimp only; rw [hv.1 j hj]; omega, fun f hf => by
        rw [show (fun j => ((1 : Nat) : Int) * v j - 0) = v from funext fun j => by omega]; exact hv.2 f hf⟩, fun j hj => by omega⟩⟩
    | succ m ih =>
      intro hm
      obtain ⟨d, d1, dB, hd⟩ := ih (by omega)
      rcases h.at_ m (by omega) with hp | ⟨h1, h2⟩
      · refine ⟨d, d1, Nat.le_trans dB (Nat.pow_le_pow_right W1 (by omega)), fun v hv => ?_⟩
        obtain ⟨u, a1, a2, a3⟩ := hd v hv
        refine ⟨u, a1, a2, fun j hj => ?_⟩
        by_cases e : j = m
        · rw [e]; exact .inl hp
        · exact a3 j (by omega)
      · obtain ⟨kw, bw⟩ := h.ker m (by omega)
        obtain ⟨s, hs⟩ : ∃ s : Int, ((w m m).natAbs : Int) = s * w m m := by
          rcases Int.natAbs_eq (w m m) with h | h
          · exact ⟨1, by omega⟩
          · exact ⟨-1, by omega⟩
        refine ⟨(w m m).natAbs * d, Nat.mul_pos (by omega) d1, ?_, fun v hv => ?_⟩
        · rw [Nat.pow_succ, Nat.mul_comm]
          exact Nat.mul_le_mul dB (bw m)
        · obtain ⟨u, a1, a2, a3⟩ := hd v hv
          have eq : ∀ j, (((w m m).natAbs * d : Nat) : Int) * v j - (((w m m).natAbs : Int) * u j + (s * ((d : Int) * v m - u m)) * w m j) = ((w m m).natAbs : Int) * ((d : Int) * v j - u j) - (s * ((d : Int) * v m - u m)) * w m j := fun j => by rw [Int.natCast_mul]; grind
          refine ⟨fun j => ((w m m).natAbs : Int) * u j + (s * ((d : Int) * v m - u m)) * w m j, Sp.comb _ _ a1 (.of (mem m (by omega))), ?_, fun j hj => ?_⟩
          · rw [show (fun j => (((w m m).natAbs * d : Nat) : Int) * v j - (((w m m).natAbs : Int) * u j + (s * ((d : Int) * v m - u m)) * w m j)) = _ from funext eq]
            exact Ker.cl _ _ _ _ a2 kw
          · rw [eq j]
            by_cases e : j = m
            · subst e
              refine .inr ?_
              rw [hs]; grind
            · by_cases hpj : ∃ i, i < p ∧ c i = j
              · exact .inl hpj
              · refine .inr ?_
                rw [(a3 j (by omega)).resolve_left hpj]
                have z : w m j = 0 := Classical.byContradiction fun hz => by
                  rcases h2 j hz with e2 | e2
                  · exact e e2
                  · exact hpj e2
                rw [z]; simp
  obtain ⟨d, d1, dB, hd⟩ := go n (Nat.le_refl _)
  refine ⟨d, dB, fun u hu => ?_, d1, fun v hv => ?_, fun u hu => ?_⟩
  · obtain ⟨j, hj, rfl⟩ := List.mem_map.mp hu
    exact (h.ker j (List.mem_range.mp hj)).1
  · obtain ⟨u, a1, a2, a3⟩ := hd v hv
    refine a1.cast fun j => ?_
    have sup : ∀ k, k < n → (d : Int) * v k - u k ≠ 0 → ∃ i, i < p ∧ c i = k := fun k hk hne => (a3 k hk).resolve_right hne
    have z := h.ind (fun i => (d : Int) * v (c i) - u (c i)) fun f hf => by
      have := a2.2 f hf
      unfold dv at this
      rw [sm_cols n p c h.up h.lt fun k hk hne => sup k hk fun e => hne (by dsimp only; rw [e]; simp)] at this
      rw [← this]
      exact sm_congr fun i _ => Int.mul_comm _ _
    have all : (d : Int) * v j - u j = 0 := Classical.byContradiction fun hne => by
      by_cases hj : j < n
      · obtain ⟨i, hi, e⟩ := sup j hj hne
        have : (d : Int) * v (c i) - u (c i) = 0 := z i hi
        rw [e] at this
        exact hne this
      · exact hne (a2.1 j (by omega))
    omega
  · obtain ⟨j, hj, rfl⟩ := List.mem_map.mp hu
    exact (h.ker j (List.mem_range.mp hj)).2
end Hn
set_option maxHeartbeats 4000000
namespace Hg
open PySem PySem.Spec PyProof.Rows L2
/-! ### the witness of what is known -/
end Hg
namespace Hn
/-! ### how a form is known: fractions of observed forms, one taken away after the other -/
def frF (a b : Int) : Int × Int := (a.fdiv (Int.gcd a b : Nat), b.fdiv (Int.gcd a b : Nat))
theorem frF_spec {a b : Int} (hb : 0 < b) : 0 < (frF a b).2 ∧ Int.gcd (frF a b).1 (frF a b).2 = 1 ∧ (frF a b).1 * b = a * (frF a b).2 ∧ (frF a b).2 ∣ b ∧ (frF a b).1.natAbs ≤ a.natAbs := by
  unfold frF
  obtain ⟨c, hc⟩ : ∃ c : Nat, Int.gcd a b = c := ⟨_, rfl⟩
  rw [hc]
  have c0 : 0 < c := by rw [← hc]; exact Nat.gcd_pos_of_pos_right _ (by omega)
  obtain ⟨x, hx⟩ : (c : Int) ∣ a := by rw [← hc]; exact Int.gcd_dvd_left _ _
  obtain ⟨y, hy⟩ : (c : Int) ∣ b := by rw [← hc]; exact Int.gcd_dvd_right _ _
  have cop : Int.gcd x y = 1 := by
    have h : c * Int.gcd x y = c := by
      have : Int.gcd a b = c := hc
      rw [hx, hy, Int.gcd_mul_left, Int.natAbs_natCast] at this
      exact this
    exact Nat.eq_of_mul_eq_mul_left c0 (by omega)
  have c0' : (c : Int) ≠ 0 := by omega
  have ex : a.fdiv (c : Int) = x := by rw [hx, Int.mul_comm]; exact Int.mul_fdiv_cancel _ c0'
  have ey : b.fdiv (c : Int) = y := by rw [hy, Int.mul_comm]; exact Int.mul_fdiv_cancel _ c0'
  dsimp only
  rw [ex, ey]
  refine ⟨?_, cop, by rw [hx, hy]; grind, ⟨c, by rw [hy, Int.mul_comm]⟩, ?_⟩
  · rw [hy] at hb
    exact Int.pos_of_mul_pos_right hb (by omega)
  · rw [hx, Int.natAbs_mul, Int.natAbs_natCast]
    exact Nat.le_mul_of_pos_left _ c0
/-- the core of an exact observation -/
theorem step_exact {u k w g b s x y l b' a t' : Int} (b0 : 0 < b) (y0 : 0 < y) (hx : x * (b * s) = l * y) (ha : a = k * s) (h1 : b * g ∣ u - k * w) (h2 : b * g ∣ w - l) (h : t' * (b * y) = b' * (y * u - x * b * a)) : b' * g ∣ t' := by
  obtain ⟨z, hz⟩ := h1
  obtain ⟨q, hq⟩ := h2
  refine ⟨z + k * q, ?_⟩
  have : (b * y) * t' = (b * y) * (b' * g * (z + k * q)) := by
    rw [Int.mul_comm (b * y) t', h, ha]
    have e : x * b * (k * s) = k * (l * y) := by rw [← hx]; grind
    rw [e]
    have : y * u - k * (l * y) = y * (u - k * w + k * (w - l)) := by grind
    rw [this, hz, hq]; grind
  exact Int.eq_of_mul_eq_mul_left (by have := Int.mul_pos b0 y0; omega) this
/-- the core of an observation up to a modulus -/
theorem step_mod {u k w g b s x y b' a t' m c nd s' tm T iv r : Int} (b0 : 0 < b) (y0 : 0 < y) (c0 : c ≠ 0) (n0 : nd ≠ 0) (hx : x * m = g * T * y) (ha : a = k * s) (h1 : b * g ∣ u - k * w) (hm : m = c * nd) (hs : s = c * s') (ht : nd * w = b * g * tm) (hb : iv * s' + r * nd = 1) (hT : nd ∣ tm * iv - T)
    (h : t' * (b * y) = b' * (y * u - x * b * a)) : b' * g ∣ t' := by
  obtain ⟨z, hz⟩ := h1
  obtain ⟨q, hq⟩ := hT
  refine ⟨z + k * (tm * r + q * s'), ?_⟩
  have e1 : (b * y * m) * t' = b' * y * (m * u - g * T * b * k * s) := by
    have : (b * y * m) * t' = m * (t' * (b * y)) := by grind
    rw [this, h, ha]
    have : m * (b' * (y * u - x * b * (k * s))) = b' * (y * (m * u) - x * m * (b * k * s)) := by grind
    rw [this, hx]; grind
  have e2 : m * u - g * T * b * k * s = c * (nd * u - g * T * b * k * s') := by rw [hm, hs]; grind
  have e3 : nd * u = nd * (b * g * z) + k * (b * g * tm) := by
    have : u = b * g * z + k * w := by omega
    rw [this, ← ht]; grind
  have e4 : tm - T * s' = nd * (tm * r + q * s') := by
    have : tm - T * s' = tm * (1 - iv * s') + (tm * iv - T) * s' := by grind
    rw [this, hq]
    have : 1 - iv * s' = r * nd := by omega
    rw [this]; grind
  have e5 : nd * u - g * T * b * k * s' = b * g * (nd * z + k * (nd * (tm * r + q * s'))) := by
    rw [e3, ← e4]; grind
  have : (b * y * m) * t' = (b * y * m) * (b' * g * (z + k * (tm * r + q * s'))) := by
    rw [e1, e2, e5, hm]; grind
  have m0 : m ≠ 0 := by rw [hm]; exact Int.mul_ne_zero c0 n0
  exact Int.eq_of_mul_eq_mul_left (Int.mul_ne_zero (by have := Int.mul_pos b0 y0; omega) m0) this
theorem step_sum {b M f t sg b' t' x y q h : Int} (b0 : 0 < b) (y0 : 0 < y) (hM : M = y * q) (e : b * M * f = M * t + b * sg) (e' : t' * (b * y) = b' * (y * t - x * b * h)) : b' * M * f = M * t' + b' * (x * q * h + sg) := by
  have e1 : b * (M * t') = b' * (M * t) - b' * (q * x * b * h) := by
    have : y * (b * (M * t')) = y * (b' * (M * t) - b' * (q * x * b * h)) := by
      have : y * (b * (M * t')) = M * (t' * (b * y)) := by grind
      rw [this, e', hM]; grind
    exact Int.eq_of_mul_eq_mul_left (by omega) this
  have : b * (b' * M * f) = b * (M * t' + b' * (x * q * h + sg)) := by
    have h1 : b * (b' * M * f) = b' * (b * M * f) := by grind
    have h2 : b * (M * t' + b' * (x * q * h + sg)) = b * (M * t') + b * b' * (x * q * h) + b' * (b * sg) := by grind
    rw [h1, h2, e1, e]; grind
  exact Int.eq_of_mul_eq_mul_left (by omega) this
theorem step_cross {c t' b' b y b1 y1 t x f l sh : Int} (c0 : c ≠ 0) (h1 : sh = b * b1) (h2 : sh = y * y1) (hl : l = b1 * t - x * y1 * f) (ht : l = c * t') (hb : sh = c * b') : t' * (b * y) = b' * (y * t - x * b * f) := by
  have : c * (t' * (b * y)) = c * (b' * (y * t - x * b * f)) := by
    have e1 : c * (t' * (b * y)) = (c * t') * (b * y) := by grind
    have e2 : c * (b' * (y * t - x * b * f)) = (c * b') * (y * t - x * b * f) := by grind
    rw [e1, e2, ← ht, hl, ← hb]
    have e3 : sh * (y * t - x * b * f) = sh * y * t - sh * x * b * f := by grind
    rw [e3]
    have e4 : sh * y * t = b * b1 * y * t := by rw [h1]
    have e5 : sh * x * b * f = y * y1 * x * b * f := by rw [h2]
    rw [e4, e5]; grind
  exact Int.eq_of_mul_eq_mul_left c0 this
end Hn
set_option maxHeartbeats 4000000
namespace Hn
/-! ### powers of two that nobody computes -/
@[irreducible] def p2 (e : Nat) : Nat := 2 ^ e
theorem p2_e (e : Nat) : 2 ^ e = p2 e := by unfold p2; rfl
theorem p2_pos (e : Nat) : 1 ≤ p2 e := by rw [← p2_e]; exact Nat.one_le_two_pow
theorem p2_mul (a b : Nat) : p2 a * p2 b = p2 (a + b) := by rw [← p2_e, ← p2_e, ← p2_e]; exact (Nat.pow_add 2 a b).symm
theorem p2_mono {a b : Nat} (h : a ≤ b) : p2 a ≤ p2 b := by rw [← p2_e, ← p2_e]; exact Nat.pow_le_pow_right (by decide) h
theorem p2_two (a : Nat) : p2 a + p2 a = p2 (a + 1) := by rw [← p2_e, ← p2_e, Nat.pow_succ]; omega
theorem p2_sum {a b c x y : Nat} (hx : x ≤ p2 a) (hy : y ≤ p2 b) (ha : a < c) (hb : b < c) : x + y ≤ p2 c := by
  obtain ⟨d, rfl⟩ : ∃ d, c = d + 1 := ⟨c - 1, by omega⟩
  rw [← p2_two]
  exact Nat.add_le_add (Nat.le_trans hx (p2_mono (by omega))) (Nat.le_trans hy (p2_mono (by omega)))
theorem p2_prod {a b c x y : Nat} (hx : x ≤ p2 a) (hy : y ≤ p2 b) (h : a + b ≤ c) : x * y ≤ p2 c :=
  Nat.le_trans (Nat.mul_le_mul hx hy) (by rw [p2_mul]; exact p2_mono h)
theorem p2_imul {a b c : Nat} {x y : Int} (hx : x.natAbs ≤ p2 a) (hy : y.natAbs ≤ p2 b) (h : a + b ≤ c) : (x * y).natAbs ≤ p2 c := by
  rw [Int.natAbs_mul]; exact p2_prod hx hy h
theorem p2_iadd {a b c : Nat} {x y : Int} (hx : x.natAbs ≤ p2 a) (hy : y.natAbs ≤ p2 b) (ha : a < c) (hb : b < c) : (x + y).natAbs ≤ p2 c :=
  Nat.le_trans (Int.natAbs_add_le x y) (p2_sum hx hy ha hb)
theorem p2_up {a b x : Nat} (hx : x ≤ p2 a) (h : a ≤ b) : x ≤ p2 b := Nat.le_trans hx (p2_mono h)
theorem p2_20 : 1000000 ≤ p2 20 := by rw [← p2_e]; decide
theorem p2_7 : 99 ≤ p2 7 := by rw [← p2_e]; decide
theorem p2_4 : 12 ≤ p2 4 := by rw [← p2_e]; decide
/-! ### what the program computes -/
def grnF (n : Nat) (R : List (List Int)) (f : List Int) : Int := Hg.gfold (R.map fun r => dv n (fv f) (fv r))
theorem grnF_grn {n : Nat} {R : List (List Int)} {f : List Int} : Grn n (fv f) R (grnF n R f) := ⟨Hg.gfold_nonneg _, fun d => by
  unfold grnF
  rw [Hg.dvd_gfold]
  simp⟩
def partF (n : Nat) (R : List (List Int)) (f : List Int) (m : Nat) (g : Int) (t : List Int) (b : Int) : Int × Int :=
  if grnF n R f = 0 ∨ (m ≠ 0 ∧ (g = 0 ∨ (grnF n R f).fmod (m : Nat) = 0)) then (0, 1)
  else if m = 0 then frF (if g = 0 then dv n (fv t) (fv ((solF n (fv f) R (grnF n R f)).getD [])) else (dv n (fv t) (fv ((solF n (fv f) R (grnF n R f)).getD []))).fmod (b * g)) (b * grnF n R f)
  else frF (g * (((((m : Nat) : Int).fdiv (Hg.gfold [((m : Nat) : Int), grnF n R f]) * dv n (fv t) (fv ((solF n (fv f) R (grnF n R f)).getD []))).fdiv (b * g) * (bezF ((grnF n R f).fdiv (Hg.gfold [((m : Nat) : Int), grnF n R f])) (((m : Nat) : Int).fdiv (Hg.gfold [((m : Nat) : Int), grnF n R f]))).2.1).fmod (((m : Nat) : Int).fdiv (Hg.gfold [((m : Nat) : Int), grnF n R f])))) (m : Nat)
def woF (t : List Int) (b : Int) (p : Int × Int) (f : List Int) : List Int × Int :=
  if p.1 = 0 then (t, b) else
    ((combL ((Int.lcm b p.2 : Nat).cast (R := Int).fdiv b) t (-(p.1 * (Int.lcm b p.2 : Nat).cast (R := Int).fdiv p.2)) f).map fun e => e.fdiv (Hg.gfold ((Int.lcm b p.2 : Nat) :: combL ((Int.lcm b p.2 : Nat).cast (R := Int).fdiv b) t (-(p.1 * (Int.lcm b p.2 : Nat).cast (R := Int).fdiv p.2)) f)),
     (Int.lcm b p.2 : Nat).cast (R := Int).fdiv (Hg.gfold ((Int.lcm b p.2 : Nat) :: combL ((Int.lcm b p.2 : Nat).cast (R := Int).fdiv b) t (-(p.1 * (Int.lcm b p.2 : Nat).cast (R := Int).fdiv p.2)) f)))
theorem fdiv_mul {c x : Int} (c0 : c ≠ 0) : (c * x).fdiv c = x := by rw [Int.mul_comm]; exact Int.mul_fdiv_cancel _ c0
/-- what is left without a part -/
theorem woF_spec {n k T X : Nat} {t f : List Int} {b x y Y : Int} (tl : t.length = n) (fl : f.length = n) (b0 : 0 < b) (y0 : 0 < y) (Y0 : 0 < Y) (yd : y ∣ b * Y) (bb : b.natAbs ≤ p2 k) (Yb : Y.natAbs ≤ p2 5692) (tb : bnd (p2 T) (fv t)) (xb : x.natAbs ≤ p2 X) (fb : bnd 99 (fv f)) :
    (woF t b (x, y) f).1.length = n ∧ 0 < (woF t b (x, y) f).2 ∧ (woF t b (x, y) f).2.natAbs ≤ p2 (k + 5692) ∧ (∀ {Z}, T + 5692 < Z → X + (k + 5692) + 7 < Z → bnd (p2 Z) (fv (woF t b (x, y) f).1)) ∧ ∀ j, fv (woF t b (x, y) f).1 j * (b * y) = (woF t b (x, y) f).2 * (y * fv t j - x * b * fv f j) := by
  unfold woF
  dsimp only
  by_cases x0 : x = 0
  · rw [if_pos x0]
    refine ⟨tl, b0, p2_up bb (by omega), fun h1 _ => bnd_mono (p2_mono (by omega)) tb, fun j => ?_⟩
    dsimp only
    rw [x0]; grind
  · rw [if_neg x0]
    obtain ⟨sh, hs⟩ : ∃ s : Nat, Int.lcm b y = s := ⟨_, rfl⟩
    rw [hs]
    obtain ⟨b1, hb1⟩ : b ∣ (sh : Int) := by rw [← hs]; exact Int.dvd_lcm_left _ _
    obtain ⟨y1, hy1⟩ : y ∣ (sh : Int) := by rw [← hs]; exact Int.dvd_lcm_right _ _
    obtain ⟨Y1, hY1⟩ : (sh : Int) ∣ b * Y := by rw [← hs]; exact Int.coe_lcm_dvd (Int.dvd_mul_right _ _) yd
    have sh0 : 0 < (sh : Int) := by
      have : sh ≠ 0 := fun h => by
        rw [h] at hY1
        have := Int.mul_pos b0 Y0
        rw [hY1] at this
        simp at this
      omega
    have e1 : ((sh : Nat) : Int).fdiv b = b1 := by rw [hb1]; exact fdiv_mul (by omega)
    have e2 : ((sh : Nat) : Int).fdiv y = y1 := by rw [hy1]; exact fdiv_mul (by omega)
    show _ ∧ _ ∧ _ ∧ _ ∧ _
    rw [show (Nat.cast sh : Int).fdiv b = b1 from e1, show (Nat.cast sh : Int).fdiv y = y1 from e2]
    obtain ⟨l, hl⟩ : ∃ l, combL b1 t (-(x * y1)) f = l := ⟨_, rfl⟩
    have tf : t.length = f.length := by rw [tl, fl]
    have ll : l.length = n := by rw [← hl, len_comb tf, tl]
    have lj : ∀ j, fv l j = b1 * fv t j - x * y1 * fv f j := fun j => by rw [← hl, fv_comb tf]; grind
    rw [hl]
    obtain ⟨c, hc⟩ : ∃ c, Hg.gfold ((sh : Int) :: l) = c := ⟨_, rfl⟩
    rw [hc]
    have cd := (Hg.dvd_gfold (d := c) ((sh : Int) :: l)).mp (by rw [hc]; exact Int.dvd_refl _)
    have cn : 0 ≤ c := by rw [← hc]; exact Hg.gfold_nonneg _
    obtain ⟨b', hb'⟩ := cd (sh : Int) List.mem_cons_self
    have c0 : 0 < c := by
      rcases Int.lt_or_eq_of_le cn with h | h
      · exact h
      · rw [← h] at hb'; omega
    have b'0 : 0 < b' := by rw [hb'] at sh0; exact Int.pos_of_mul_pos_right sh0 (by omega)
    have eb : ((sh : Nat) : Int).fdiv c = b' := by rw [hb']; exact fdiv_mul (by omega)
    rw [show (Nat.cast sh : Int).fdiv c = b' from eb]
    have ej : ∀ j, fv l j = c * fv (l.map fun e => e.fdiv c) j := fun j => by
      rw [fv_map (f := fun e => e.fdiv c) (Int.zero_fdiv _)]
      by_cases hj : j < l.length
      · obtain ⟨z, hz⟩ := cd (l[j]) (List.mem_cons_of_mem _ (List.getElem_mem hj))
        rw [fv_at (List.getElem?_eq_getElem hj), hz, fdiv_mul (by omega)]
      · rw [fv_out (by omega)]; simp
    have shb : (sh : Int).natAbs ≤ p2 (k + 5692) := by
      refine Nat.le_trans ?_ (p2_imul bb Yb (Nat.le_refl _))
      rw [hY1, Int.natAbs_mul]
      refine Nat.le_mul_of_pos_right _ ?_
      have : Y1 ≠ 0 := fun h => by
        rw [h] at hY1
        have := Int.mul_pos b0 Y0
        omega
      omega
    have b1b : b1.natAbs ≤ p2 5692 := by
      refine Nat.le_trans ?_ Yb
      have : b * Y = b * (b1 * Y1) := by rw [hY1, hb1]; grind
      have : Y = b1 * Y1 := Int.eq_of_mul_eq_mul_left (by omega) this
      rw [this, Int.natAbs_mul]
      refine Nat.le_mul_of_pos_right _ ?_
      have : Y1 ≠ 0 := fun h => by rw [h] at this; omega
      omega
    have y1b : y1.natAbs ≤ p2 (k + 5692) := by
      refine Nat.le_trans ?_ shb
      rw [hy1, Int.natAbs_mul]
      exact Nat.le_mul_of_pos_left _ (by omega)
    have cdn : ∀ z : Int, z.natAbs ≤ (c * z).natAbs := fun z => by rw [Int.natAbs_mul]; exact Nat.le_mul_of_pos_left _ (by omega)
    refine ⟨by rw [List.length_map, ll], b'0, Nat.le_trans (by rw [hb']; exact cdn b') shb, fun h1 h2 => fun j => ?_, fun j => step_cross (l := fv l j) (c := c) (by omega) hb1 hy1 (lj j) (ej j) hb'⟩
    refine Nat.le_trans (cdn _) ?_
    rw [← ej, lj]
    have : b1 * fv t j - x * y1 * fv f j = b1 * fv t j + (-(x * y1)) * fv f j := by grind
    rw [this]
    refine p2_iadd (a := T + 5692) (b := X + (k + 5692) + 7) (p2_imul b1b (tb j) (by omega)) (p2_imul (a := X + (k + 5692)) (b := 7) ?_ (Nat.le_trans (fb j) p2_7) (Nat.le_refl _)) h1 h2
    rw [Int.natAbs_neg]
    exact p2_imul xb y1b (Nat.le_refl _)
/-! ### sums of parts -/
def sumP : List (List Int × Nat) → List (Int × Int) → Int → Nat → Int
  | o :: S, p :: ps, M, j => p.1 * (M / p.2) * fv o.1 j + sumP S ps M j
  | _, _, _, _ => 0
theorem sumP_scale {M N : Int} {j : Nat} : ∀ {S : List (List Int × Nat)} {ps : List (Int × Int)}, (∀ p ∈ ps, 0 < p.2 ∧ p.2 ∣ M) → sumP S ps (M * N) j = sumP S ps M j * N
  | [], _, _ => by simp [sumP]
  | o :: S, [], _ => by simp [sumP]
  | o :: S, p :: ps, h => by
    unfold sumP
    rw [sumP_scale fun q hq => h q (List.mem_cons_of_mem _ hq)]
    obtain ⟨h0, q, hq⟩ := h p List.mem_cons_self
    have e1 : M * N / p.2 = q * N := by rw [hq, Int.mul_assoc, Int.mul_ediv_cancel_left _ (by omega)]
    have e2 : M / p.2 = q := by rw [hq, Int.mul_ediv_cancel_left _ (by omega)]
    rw [e1, e2]; grind
/-- whether the sum is right does not hang on the common multiple -/
theorem sum_any {S : List (List Int × Nat)} {ps : List (Int × Int)} {M N u w : Int} {j : Nat} (M0 : M ≠ 0) (N0 : N ≠ 0) (hM : ∀ p ∈ ps, 0 < p.2 ∧ p.2 ∣ M) (hN : ∀ p ∈ ps, 0 < p.2 ∧ p.2 ∣ N) : u * M + sumP S ps M j = w * M ↔ u * N + sumP S ps N j = w * N := by
  have e : sumP S ps M j * N = sumP S ps N j * M := by rw [← sumP_scale hM, ← sumP_scale hN, Int.mul_comm]
  constructor
  · intro h
    have : M * (u * N + sumP S ps N j) = M * (w * N) := by
      have : M * (u * N + sumP S ps N j) = u * M * N + sumP S ps N j * M := by grind
      rw [this, ← e]
      have : u * M * N + sumP S ps M j * N = (u * M + sumP S ps M j) * N := by grind
      rw [this, h]; grind
    exact Int.eq_of_mul_eq_mul_left M0 this
  · intro h
    have : N * (u * M + sumP S ps M j) = N * (w * M) := by
      have : N * (u * M + sumP S ps M j) = u * N * M + sumP S ps M j * N := by grind
      rw [this, e]
      have : u * N * M + sumP S ps N j * M = (u * N + sumP S ps N j) * M := by grind
      rw [this, h]; grind
    exact Int.eq_of_mul_eq_mul_left N0 this
def okPs (g : Int) : List (List Int × Nat) → List (Int × Int) → Prop
  | o :: S, p :: ps => p.2 * g ∣ p.1 * (o.2 : Nat) ∧ okPs g S ps
  | [], [] => True
  | _, _ => False
theorem dv_cross {n : Nat} {t' t f v : Vc} {A B C : Int} (h : ∀ j, t' j * A = B * t j - C * f j) : dv n t' v * A = B * dv n t v - C * dv n f v := by
  have e : sm n (fun j => t' j * v j * A) = sm n (fun j => B * (t j * v j) + (-C) * (f j * v j)) := sm_congr fun j _ => by
    have : t' j * v j * A = t' j * A * v j := by grind
    rw [this, h]; grind
  unfold dv
  rw [← sm_mulr, e, sm_add, sm_mul, sm_mul]
  grind
/-! ### the way backwards over the observations -/
structure KI (n : Nat) (S : List (List Int × Nat)) (f : List Int) (g : Int) (k i : Nat) (ps : List (Int × Int)) (t : List Int) (b : Int) : Prop where
  len : t.length = n
  b0 : 0 < b
  bb : b.natAbs ≤ p2 (5700 * k)
  tb : bnd (p2 (7 + 330000 * k)) (fv t)
  lat : ∀ v, LatS n (S.take i) v → b * g ∣ dv n (fv t) v
  ok : okPs g (S.drop i) ps
  fr : ∀ p ∈ ps, 0 < p.2 ∧ Int.gcd p.1 p.2 = 1 ∧ p.1.natAbs ≤ p2 13300000 ∧ p.2.natAbs ≤ p2 234000
  sum : ∀ M, (∀ p ∈ ps, p.2 ∣ M) → ∀ j, b * M * fv f j = M * fv t j + b * sumP (S.drop i) ps M j
theorem KI.start {n : Nat} {S : List (List Int × Nat)} {f : List Int} {g : Int} (fl : f.length = n) (fb : bnd 99 (fv f)) (hg : ∀ v, LatS n S v → g ∣ dv n (fv f) v) : KI n S f g 0 S.length [] f 1 := by
  refine ⟨fl, by decide, by rw [Nat.mul_zero]; exact p2_pos _, bnd_mono (Nat.le_trans p2_7 (p2_mono (by omega))) fb, fun v hv => ?_, ?_, by simp, fun M _ j => ?_⟩
  · rw [List.take_of_length_le (Nat.le_refl _)] at hv
    rw [Int.one_mul]; exact hg v hv
  · rw [List.drop_of_length_le (Nat.le_refl _)]; trivial
  · rw [List.drop_of_length_le (Nat.le_refl _)]
    simp [sumP]
theorem KI.take {n k i : Nat} {S : List (List Int × Nat)} {f fi t : List Int} {g b x y Y : Int} {m : Nat} {ps : List (Int × Int)} (h : KI n S f g k (i + 1) ps t b) (hi : S[i]? = some (fi, m)) (hk : k < 40) (fl : fi.length = n) (fb : bnd 99 (fv fi)) (y0 : 0 < y) (cop : Int.gcd x y = 1) (hd : y * g ∣ x * (m : Nat)) (xb : x.natAbs ≤ p2 (88100 + 330000 * k)) (Y0 : 0 < Y) (Yb : Y.natAbs ≤ p2 5692) (yd : y ∣ b * Y)
    (lat : ∀ v, LatS n (S.take i) v → ∀ t' b', t' * (b * y) = b' * (y * dv n (fv t) v - x * b * dv n (fv fi) v) → b' * g ∣ t') : KI n S f g (k + 1) i ((x, y) :: ps) (woF t b (x, y) fi).1 (woF t b (x, y) fi).2 := by
  obtain ⟨w1, w2, w3, w4, w5⟩ := woF_spec h.len fl h.b0 y0 Y0 yd h.bb Yb h.tb xb fb
  have dr : S.drop i = (fi, m) :: S.drop (i + 1) := by
    obtain ⟨hl, e⟩ := List.getElem?_eq_some_iff.mp hi
    rw [List.drop_eq_getElem_cons hl, e]
  have yb : y.natAbs ≤ p2 234000 := by
    have a1 : y.natAbs ≤ (b * Y).natAbs := Nat.le_of_dvd (by have := Int.mul_pos h.b0 Y0; omega) (Int.natAbs_dvd_natAbs.mpr yd)
    exact Nat.le_trans a1 (p2_imul h.bb Yb (by omega))
  refine ⟨w1, w2, p2_up w3 (by omega), w4 (by omega) (by omega), fun v hv => lat v hv _ _ ?_, by rw [dr]; exact ⟨hd, h.ok⟩, fun p hp => ?_, fun M hM j => ?_⟩
  · have := dv_cross (n := n) (t' := fv (woF t b (x, y) fi).1) (t := fv t) (f := fv fi) (v := v) (A := b * y) (B := (woF t b (x, y) fi).2 * y) (C := (woF t b (x, y) fi).2 * (x * b)) fun j => by rw [w5 j]; grind
    rw [this]; grind
  · rcases List.mem_cons.mp hp with rfl | hp
    · exact ⟨y0, cop, p2_up xb (by omega), yb⟩
    · exact h.fr p hp
  · obtain ⟨q, hq⟩ := hM (x, y) List.mem_cons_self
    have e1 := h.sum M (fun p hp => hM p (List.mem_cons_of_mem _ hp)) j
    have := step_sum h.b0 y0 (show M = y * q from hq) e1 (w5 j)
    rw [this, dr]
    have eq : M / y = q := by rw [show M = y * q from hq]; exact Int.mul_ediv_cancel_left _ (by omega)
    rw [sumP, eq]
end Hn
namespace Hn
open Hg in
theorem wit_step {n : Nat} {S : List (List Int × Nat)} {i : Nat} (n1 : 1 ≤ n) (n12 : n ≤ 12) (ks : KS n 99 (2 ^ 5681) (S.take i)) {R : List (List Int)} (hh : Hnf n (LatS n (S.take i)) R) {f : List Int} (fb : bnd 99 (fv f)) :
    (grnF n R f).natAbs ≤ p2 5692 ∧ (grnF n R f ≠ 0 → ∃ u, solF n (fv f) R (grnF n R f) = some u ∧ u.length = n ∧ LatS n (S.take i) (fv u) ∧ dv n (fv f) (fv u) = grnF n R f ∧ bnd (p2 80000) (fv u)) := by
  have si := KS.si (kb12 n1 n12) ks hh fb
  have e : grnF n R f = (solGo n (fv f) R).1 := Grn.eq grnF_grn si.grn
  have gW : (grnF n R f).natAbs ≤ 2 ^ 5692 := by rw [e]; exact si.gW
  refine ⟨by rw [← p2_e]; exact gW, fun s0 => ?_⟩
  have ge : solGo n (fv f) R = ((solGo n (fv f) R).1, (solGo n (fv f) R).2) := rfl
  rcases hu : solF n (fv f) R (grnF n R f) with _ | u
  · exact absurd (.inr ⟨by rw [← e]; exact s0, by rw [← e]; exact Int.dvd_refl _⟩) ((solF_none si ge).mp hu)
  · obtain ⟨h1, h2, h3⟩ := solF_some si ge hu
    refine ⟨u, rfl, h1, (hh.span _).mpr h2, h3, bnd_mono ?_ (solF_bnd si ge gW hu)⟩
    have le := hh.le
    have b1 : 2 + 2 * 2 ^ 5692 ≤ 2 ^ 5694 := by
      rw [show (2 : Nat) ^ 5694 = 4 * 2 ^ 5692 by rw [show (4 : Nat) = 2 ^ 2 from rfl, ← Nat.pow_add]]
      have := Nat.one_le_two_pow (n := 5692)
      omega
    have b2 : 2 ^ 5692 + 1 ≤ 2 ^ 5693 := by
      rw [show (2 : Nat) ^ 5693 = 2 * 2 ^ 5692 by rw [Nat.pow_succ, Nat.mul_comm]]
      have := Nat.one_le_two_pow (n := 5692)
      omega
    refine Nat.le_trans (Nat.mul_le_mul b2 (Nat.mul_le_mul_left _ (Nat.le_trans (Nat.pow_le_pow_left b1 _) (Nat.pow_le_pow_right (by decide) (by omega : R.length ≤ 12))))) ?_
    rw [← Nat.pow_mul, ← Nat.pow_add, ← Nat.pow_add, ← p2_e]
    exact Nat.pow_le_pow_right (by decide) (by decide)
theorem KI.step {n k i : Nat} {S : List (List Int × Nat)} {f fi t : List Int} {g b : Int} {m : Nat} {ps : List (Int × Int)} {R : List (List Int)} (h : KI n S f g k (i + 1) ps t b) (hi : S[i]? = some (fi, m)) (hk : k < 40) (n1 : 1 ≤ n) (n12 : n ≤ 12) (ks : Hg.KS n 99 (2 ^ 5681) (S.take i)) (hh : Hnf n (LatS n (S.take i)) R) (fl : fi.length = n) (fb : bnd 99 (fv fi)) (hm : m ≤ 1000000) (g0 : 0 ≤ g) (gb : g.natAbs ≤ p2 5692) :
    KI n S f g (k + 1) i (partF n R fi m g t b :: ps) (woF t b (partF n R fi m g t b) fi).1 (woF t b (partF n R fi m g t b) fi).2 := by
  have b0 := h.b0
  obtain ⟨sb, wit⟩ := wit_step n1 n12 ks hh fb
  have grn : Grn n (fv fi) R (grnF n R fi) := grnF_grn
  have val : ∀ v, LatS n (S.take i) v → grnF n R fi ∣ dv n (fv fi) v := fun v hv => (grn.span _).mp (Int.dvd_refl _) v ((hh.span v).mp hv)
  have s0' : 0 ≤ grnF n R fi := grn.1
  have nx : ∀ v, LatS n (S.take i) v → ((m : Nat) : Int) ∣ dv n (fv fi) v → LatS n (S.take (i + 1)) v := fun v hv hd => by
    rw [Hg.take_snoc hi]
    refine ⟨hv.1, fun p hp => ?_⟩
    rcases List.mem_append.mp hp with hp | hp
    · exact hv.2 p hp
    · rw [List.mem_singleton.mp hp]; exact hd
  unfold partF
  generalize grnF n R fi = s at sb wit val s0' ⊢
  by_cases c1 : s = 0 ∨ (m ≠ 0 ∧ (g = 0 ∨ s.fmod (m : Nat) = 0))
  · rw [if_pos c1]
    have key : ∀ v, LatS n (S.take i) v → b * g ∣ dv n (fv t) v := fun v hv => by
      rcases c1 with rfl | ⟨m0, rfl | hs⟩
      · refine h.lat v (nx v hv ?_)
        rw [Int.zero_dvd.mp (val v hv)]; exact Int.dvd_zero _
      · have h1 : LatS n (S.take (i + 1)) (fun j => (m : Nat) * v j + 0 * v j) := nx _ (LatS.comb _ _ hv hv) (by rw [dv_lc]; exact ⟨dv n (fv fi) v, by grind⟩)
        have h2 := h.lat _ h1
        rw [dv_lc, Int.mul_zero] at h2
        have h3 := Int.zero_dvd.mp h2
        have : ((m : Nat) : Int) * dv n (fv t) v = 0 := by omega
        rcases Int.mul_eq_zero.mp this with h4 | h4
        · omega
        · rw [h4]; exact Int.dvd_zero _
      · exact h.lat v (nx v hv (Int.dvd_trans (Int.dvd_of_fmod_eq_zero hs) (val v hv)))
    refine h.take hi hk fl fb (by decide) (by decide) (by rw [Int.zero_mul]; exact Int.dvd_zero _) (Nat.zero_le _) (Y := 1) (by decide) (p2_pos _) (Int.one_dvd _) fun v hv t' b' e => ?_
    obtain ⟨z, hz⟩ := key v hv
    refine ⟨z, ?_⟩
    have : b * t' = b * (b' * g * z) := by
      have : b * t' = t' * (b * 1) := by grind
      rw [this, e, hz]; grind
    exact Int.eq_of_mul_eq_mul_left (by omega) this
  · rw [if_neg c1]
    have s0 : s ≠ 0 := fun e => c1 (.inl e)
    obtain ⟨u, hu, ul, ulat, uval, ub⟩ := wit s0
    rw [hu]
    dsimp only [Option.getD]
    obtain ⟨w, hw⟩ : ∃ w, dv n (fv t) (fv u) = w := ⟨_, rfl⟩
    rw [hw]
    have wb : w.natAbs ≤ p2 (80011 + 330000 * k) := by
      rw [← hw]
      refine Nat.le_trans (dv_absB h.tb ub) (p2_prod (a := 4) (b := 80007 + 330000 * k) (Nat.le_trans n12 p2_4) ?_ (by omega))
      rw [p2_mul]; exact p2_mono (by omega)
    have off : ∀ v, LatS n (S.take i) v → ∀ q, dv n (fv fi) v = q * s → b * g ∣ dv n (fv t) v - q * w := fun v hv q hq => by
      have h1 : LatS n (S.take (i + 1)) (fun j => 1 * v j + (-q) * fv u j) := nx _ (LatS.comb _ _ hv ulat) (by
        rw [dv_lc, hq, uval]
        exact ⟨0, by grind⟩)
      have h2 := h.lat _ h1
      rw [dv_lc, hw] at h2
      have : dv n (fv t) v - q * w = 1 * dv n (fv t) v + -q * w := by grind
      rw [this]; exact h2
    have sp : 0 < s := by omega
    by_cases m0 : m = 0
    · rw [if_pos m0]
      have bs : 0 < b * s := Int.mul_pos b0 sp
      obtain ⟨l, hl⟩ : ∃ l, (if g = 0 then w else w.fmod (b * g)) = l := ⟨_, rfl⟩
      rw [hl]
      have lw : b * g ∣ w - l ∧ l.natAbs ≤ p2 (88100 + 330000 * k) := by
        rw [← hl]
        by_cases gz : g = 0
        · rw [if_pos gz]
          exact ⟨by rw [Int.sub_self]; exact Int.dvd_zero _, p2_up wb (by omega)⟩
        · rw [if_neg gz]
          have bg0 : 0 < b * g := Int.mul_pos b0 (by omega)
          refine ⟨⟨w.fdiv (b * g), by have := Int.mul_fdiv_add_fmod w (b * g); omega⟩, ?_⟩
          have h1 := Int.fmod_nonneg_of_pos w bg0
          have h2 := Int.fmod_lt_of_pos w bg0
          refine Nat.le_trans ?_ (p2_imul (c := 88100 + 330000 * k) h.bb gb (by omega))
          omega
      obtain ⟨f1, f2, f3, f4, f5⟩ := frF_spec (a := l) bs
      generalize frF l (b * s) = p at f1 f2 f3 f4 f5 ⊢
      obtain ⟨x, y⟩ := p
      dsimp only at f1 f2 f3 f4 f5
      refine h.take hi hk fl fb f1 f2 (by rw [m0]; exact ⟨0, by simp⟩) (Nat.le_trans f5 lw.2) sp sb f4 fun v hv t' b' e => ?_
      obtain ⟨q, hq⟩ := val v hv
      exact step_exact b0 f1 f3 rfl (off v hv q (by rw [hq, Int.mul_comm])) lw.1 (by rw [e, hq, Int.mul_comm s q])
    · rw [if_neg m0]
      have gz : g ≠ 0 := fun e => c1 (.inr ⟨m0, .inl e⟩)
      have mp : (0 : Int) < (m : Nat) := by omega
      obtain ⟨c, hc⟩ : ∃ c, Hg.gfold [((m : Nat) : Int), s] = c := ⟨_, rfl⟩
      rw [hc]
      have cn : 0 ≤ c := by rw [← hc]; exact Hg.gfold_nonneg _
      have cd := (Hg.dvd_gfold (d := c) [((m : Nat) : Int), s]).mp (by rw [hc]; exact Int.dvd_refl _)
      obtain ⟨nd, hnd⟩ := cd _ List.mem_cons_self
      obtain ⟨s', hs'⟩ := cd s (by simp)
      have c0 : 0 < c := by
        rcases Int.lt_or_eq_of_le cn with h | h
        · exact h
        · rw [← h] at hnd; omega
      have nd0 : 0 < nd := by rw [hnd] at mp; exact Int.pos_of_mul_pos_right mp (by omega)
      have s'0 : 0 < s' := by rw [hs'] at sp; exact Int.pos_of_mul_pos_right sp (by omega)
      have e1 : ((m : Nat) : Int).fdiv c = nd := by rw [hnd]; exact fdiv_mul (by omega)
      have e2 : s.fdiv c = s' := by rw [hs']; exact fdiv_mul (by omega)
      rw [e1, e2]
      have cop : ∀ d : Int, d ∣ nd → d ∣ s' → d ∣ 1 := fun d h1 h2 => by
        have h3 : c * d ∣ c := by
          have : c * d ∣ Hg.gfold [((m : Nat) : Int), s] := (Hg.dvd_gfold _).mpr fun x hx => by
            rcases List.mem_cons.mp hx with rfl | hx
            · rw [hnd]; exact Int.mul_dvd_mul_left c h1
            · rw [List.mem_singleton.mp hx, hs']; exact Int.mul_dvd_mul_left c h2
          rwa [hc] at this
        obtain ⟨z, hz⟩ := h3
        refine ⟨z, ?_⟩
        have : c * 1 = c * (d * z) := by rw [Int.mul_one, ← Int.mul_assoc]; exact hz
        exact Int.eq_of_mul_eq_mul_left (by omega) this
      obtain ⟨z1, z2, z3, z4, z5, z6, z7, z8⟩ := bezF_pos (a := s') (b := nd) s'0 (by omega)
      have g1 : (bezF s' nd).1 = 1 := by
        have : (bezF s' nd).1 ∣ 1 := cop _ ⟨z3, by rw [Int.mul_comm]; exact z5⟩ ⟨z2, by rw [Int.mul_comm]; exact z4⟩
        exact Int.eq_one_of_dvd_one (by omega) this
      rw [g1] at z6
      generalize (bezF s' nd).2.1 = iv at z6 z7 ⊢
      generalize (bezF s' nd).2.2 = r at z6 z8
      obtain ⟨tm, htm⟩ : ∃ tm, (nd * w).fdiv (b * g) = tm := ⟨_, rfl⟩
      have ht : nd * w = b * g * tm := by
        have h1 : LatS n (S.take (i + 1)) (fun j => nd * fv u j + 0 * fv u j) := nx _ (LatS.comb _ _ ulat ulat) (by
          rw [dv_lc, uval, hs', hnd]
          exact ⟨s', by grind⟩)
        have h2 := h.lat _ h1
        rw [dv_lc, hw] at h2
        obtain ⟨z, hz⟩ := h2
        have h3 : nd * w = b * g * z := by rw [← hz]; grind
        rw [← htm, h3, fdiv_mul (Int.mul_ne_zero (by omega) gz)]
      rw [htm]
      obtain ⟨T, hT⟩ : ∃ T, (tm * iv).fmod nd = T := ⟨_, rfl⟩
      have T1 : nd ∣ tm * iv - T := ⟨(tm * iv).fdiv nd, by have := Int.mul_fdiv_add_fmod (tm * iv) nd; omega⟩
      have T2 : 0 ≤ T ∧ T < nd := by rw [← hT]; exact ⟨Int.fmod_nonneg_of_pos _ nd0, Int.fmod_lt_of_pos _ nd0⟩
      rw [hT]
      have ndm : nd ≤ m := by rw [hnd]; have := Int.mul_le_mul_of_nonneg_right (show 1 ≤ c by omega) (show 0 ≤ nd by omega); omega
      obtain ⟨f1, f2, f3, f4, f5⟩ := frF_spec (a := g * T) mp
      generalize frF (g * T) (m : Nat) = p at f1 f2 f3 f4 f5 ⊢
      obtain ⟨x, y⟩ := p
      dsimp only at f1 f2 f3 f4 f5
      refine h.take hi hk fl fb f1 f2 ⟨T, by rw [f3]; grind⟩ (Nat.le_trans f5 (p2_imul (a := 5692) (b := 20) gb (Nat.le_trans (by omega) p2_20) (by omega))) mp (Nat.le_trans (by omega) (Nat.le_trans p2_20 (p2_mono (by decide : 20 ≤ 5692)))) (Int.dvd_trans f4 (Int.dvd_mul_left _ _)) fun v hv t' b' e => ?_
      obtain ⟨q, hq⟩ := val v hv
      exact step_mod (c := c) (nd := nd) (s' := s') (tm := tm) (iv := iv) (r := r) b0 f1 (by omega) (by omega) f3 rfl (off v hv q (by rw [hq, Int.mul_comm])) hnd hs' ht z6 T1 (by rw [e, hq, Int.mul_comm s q])
end Hn
set_option maxHeartbeats 8000000
namespace Hg
open PySem PySem.Spec PyProof.Rows L2
open PySem.W (kdx_alive)
/-! ### list(zip(a, b)): every tuple is kept, so each is new -/
end Hg
set_option maxHeartbeats 8000000
namespace Hg
open PySem PySem.Spec PyProof.Rows L2
end Hg
set_option maxHeartbeats 4000000
namespace Hg
open PySem PySem.Calls
end Hg
set_option maxHeartbeats 4000000
namespace Hg
open PySem PySem.Spec PyProof.Rows L2
/-! ### math.lcm of numbers of any size -/
theorem SeeX.seer {X : Cx} (S : SeeX X) {pins : List (Addr × Obj)} {σ : L2.St} {H : Hp} {s : Shared} (I : Inv X pins σ H s) : SeerAt (model X.prog X.w) X.A s.heap :=
  SeerAt.of (S.ns.keeps I.bk) S.tr (I.ok.frames.trans (congrArg some S.st)) S.gen S.co I.ok.blt I.ok.glob
end Hg
namespace Hg
open PySem PySem.Spec PyProof.Rows L2
/-! ### division inside a comprehension -/
end Hg
set_option maxHeartbeats 4000000
namespace Hn
def kwSt (n : Nat) (g : Int) (s : List (Int × Int) × List Int × Int) (o : (List Int × Nat) × List (List Int)) : List (Int × Int) × List Int × Int :=
  (partF n o.2 o.1.1 o.1.2 g s.2.1 s.2.2 :: s.1, woF s.2.1 s.2.2 (partF n o.2 o.1.1 o.1.2 g s.2.1 s.2.2) o.1.1)
def kwGo (n : Nat) (g : Int) (f : List Int) (L : List ((List Int × Nat) × List (List Int))) : List (Int × Int) × List Int × Int := L.foldl (kwSt n g) ([], f, 1)
theorem rev_at {S : List (List Int × Nat)} {Bs : List (List (List Int))} (hl : Bs.length = S.length + 1) {k : Nat} (hk : k < S.length) : ∃ (o : List Int × Nat) (R : List (List Int)), S[S.length - 1 - k]? = some o ∧ Bs[S.length - 1 - k]? = some R ∧ (S.zip Bs).reverse[k]? = some (o, R) := by
  have zl : (S.zip Bs).length = S.length := by rw [List.length_zip]; omega
  have h1 : S[S.length - 1 - k]? = some (S[S.length - 1 - k]'(by omega)) := List.getElem?_eq_getElem (by omega)
  have h2 : Bs[S.length - 1 - k]? = some (Bs[S.length - 1 - k]'(by omega)) := List.getElem?_eq_getElem (by omega)
  refine ⟨_, _, h1, h2, ?_⟩
  rw [List.getElem?_reverse (by omega), zl]
  exact List.getElem?_zip_eq_some.mpr ⟨h1, h2⟩
theorem KI.go {n : Nat} {S : List (List Int × Nat)} {Bs : List (List (List Int))} {f : List Int} {g : Int} (n1 : 1 ≤ n) (n12 : n ≤ 12) (ks : Hg.KS n 99 (2 ^ 5681) S) (hl : S.length ≤ 40) (hc : Hg.Chain n S Bs) (fl : f.length = n) (fb : bnd 99 (fv f)) (hg : ∀ v, LatS n S v → g ∣ dv n (fv f) v) (g0 : 0 ≤ g) (gb : g.natAbs ≤ p2 5692) :
    ∀ k, k ≤ S.length → KI n S f g k (S.length - k) (kwGo n g f ((S.zip Bs).reverse.take k)).1 (kwGo n g f ((S.zip Bs).reverse.take k)).2.1 (kwGo n g f ((S.zip Bs).reverse.take k)).2.2 := by
  intro k
  induction k with
  | zero => intro _; exact KI.start fl fb hg
  | succ k ih =>
    intro hk
    have h := ih (by omega)
    obtain ⟨o, R, h1, h2, h3⟩ := rev_at hc.1 (k := k) (by omega)
    have e : kwGo n g f ((S.zip Bs).reverse.take (k + 1)) = kwSt n g (kwGo n g f ((S.zip Bs).reverse.take k)) (o, R) := by
      rw [Hg.take_snoc h3]
      unfold kwGo
      rw [List.foldl_append]; rfl
    rw [e]
    obtain ⟨fi, m⟩ := o
    have okp := ks.ok _ (List.mem_of_getElem? h1)
    have ei : S.length - 1 - k = S.length - (k + 1) := by omega
    have ej : S.length - k = S.length - (k + 1) + 1 := by omega
    rw [ei] at h1 h2
    rw [ej] at h
    have ks' : Hg.KS n 99 (2 ^ 5681) (S.take (S.length - (k + 1))) := Hg.KS.left (T := S.drop (S.length - (k + 1))) (by rw [List.take_append_drop]; exact ks)
    exact h.step h1 (by omega) n1 n12 ks' (hc.2 _ _ h2) okp.1 okp.2.1 okp.2.2 g0 gb
/-- a witness of what is known, and its sizes -/
structure WOk (n N : Nat) (base : List Int) (ps : List (Int × Int)) : Prop where
  len : base.length = n
  bb : bnd (p2 13300000) (fv base)
  pl : ps.length = N
  le : N ≤ 40
  fr : ∀ p ∈ ps, 0 < p.2 ∧ Int.gcd p.1 p.2 = 1 ∧ p.1.natAbs ≤ p2 13300000 ∧ p.2.natAbs ≤ p2 234000
def prodP (ps : List (Int × Int)) : Int := ps.foldl (fun a p => a * p.2) 1
theorem prodP_snoc {ps : List (Int × Int)} {p : Int × Int} : prodP (ps ++ [p]) = prodP ps * p.2 := by unfold prodP; rw [List.foldl_append]; rfl
/-- that the form is the sum that the witness says -/
def AddsUp (n : Nat) (S : List (List Int × Nat)) (f : List Int) (num : Int) (base : List Int) (ps : List (Int × Int)) : Prop := ∀ j, j < n → num * fv base j * prodP ps + sumP S ps (prodP ps) j = fv f j * prodP ps
theorem WOk.pos {n N : Nat} {base : List Int} {ps : List (Int × Int)} (h : WOk n N base ps) : 0 < prodP ps ∧ (prodP ps).natAbs ≤ p2 (234000 * ps.length) ∧ ∀ p ∈ ps, p.2 ∣ prodP ps := by
  have key : ∀ qs : List (Int × Int), (∀ p ∈ qs, 0 < p.2 ∧ p.2.natAbs ≤ p2 234000) → ∀ k, k ≤ qs.length → 0 < prodP (qs.take k) ∧ (prodP (qs.take k)).natAbs ≤ p2 (234000 * k) ∧ ∀ p ∈ qs.take k, p.2 ∣ prodP (qs.take k) := by
    intro qs hq k
    induction k with
    | zero => intro _; exact ⟨by rw [List.take_zero]; decide, by rw [List.take_zero]; exact p2_pos _, by simp⟩
    | succ k ih =>
      intro hk
      obtain ⟨a1, a2, a3⟩ := ih (by omega)
      have e : qs[k]? = some (qs[k]'(by omega)) := List.getElem?_eq_getElem (by omega)
      rw [Hg.take_snoc e, prodP_snoc]
      obtain ⟨b1, b2⟩ := hq _ (List.getElem_mem (by omega : k < qs.length))
      refine ⟨Int.mul_pos a1 b1, p2_imul a2 b2 (by omega), fun p hp => ?_⟩
      rcases List.mem_append.mp hp with hp | hp
      · exact Int.dvd_mul_of_dvd_left (a3 p hp)
      · rw [List.mem_singleton.mp hp]; exact Int.dvd_mul_left _ _
  have := key ps (fun p hp => ⟨(h.fr p hp).1, (h.fr p hp).2.2.2⟩) ps.length (Nat.le_refl _)
  rwa [List.take_of_length_le (Nat.le_refl _)] at this
theorem AddsUp.any {n N : Nat} {S : List (List Int × Nat)} {f base : List Int} {num M : Int} {ps : List (Int × Int)} (w : WOk n N base ps) (M0 : M ≠ 0) (hM : ∀ p ∈ ps, p.2 ∣ M) : AddsUp n S f num base ps ↔ ∀ j, j < n → num * fv base j * M + sumP S ps M j = fv f j * M := by
  obtain ⟨p0, _, pd⟩ := w.pos
  have e : ∀ j, num * fv base j * prodP ps + sumP S ps (prodP ps) j = fv f j * prodP ps ↔ num * fv base j * M + sumP S ps M j = fv f j * M := fun j =>
    sum_any (by omega) M0 (fun p hp => ⟨(w.fr p hp).1, pd p hp⟩) fun p hp => ⟨(w.fr p hp).1, hM p hp⟩
  exact ⟨fun h j hj => (e j).mp (h j hj), fun h j hj => (e j).mpr (h j hj)⟩
def lcmP (ps : List (Int × Int)) : Nat := ps.foldl (fun a p => Nat.lcm a p.2.natAbs) 1
theorem lcmP_snoc {ps : List (Int × Int)} {p : Int × Int} : lcmP (ps ++ [p]) = Nat.lcm (lcmP ps) p.2.natAbs := by unfold lcmP; rw [List.foldl_append]; rfl
theorem WOk.lcm {n N : Nat} {base : List Int} {ps : List (Int × Int)} (h : WOk n N base ps) : ∀ k, k ≤ ps.length → 0 < lcmP (ps.take k) ∧ lcmP (ps.take k) ≤ p2 (234000 * k) ∧ ∀ p ∈ ps.take k, p.2 ∣ (lcmP (ps.take k) : Int) := by
  intro k
  induction k with
  | zero => intro _; exact ⟨by rw [List.take_zero]; decide, by rw [List.take_zero]; exact p2_pos _, by simp⟩
  | succ k ih =>
    intro hk
    obtain ⟨a1, a2, a3⟩ := ih (by omega)
    have e : ps[k]? = some (ps[k]'(by omega)) := List.getElem?_eq_getElem (by omega)
    rw [Hg.take_snoc e, lcmP_snoc]
    obtain ⟨b1, _, _, b2⟩ := h.fr _ (List.getElem_mem (by omega : k < ps.length))
    generalize ps[k]'(by omega) = q at b1 b2
    refine ⟨Nat.lcm_pos a1 (by omega), Nat.le_trans (PySem.W.mc_lcm_le _ _) (p2_prod a2 b2 (by omega)), fun p hp => ?_⟩
    rcases List.mem_append.mp hp with hp | hp
    · exact Int.dvd_trans (a3 p hp) (Int.natCast_dvd_natCast.mpr (Nat.dvd_lcm_left _ _))
    · rw [List.mem_singleton.mp hp]
      have : q.2 ∣ ((q.2.natAbs : Nat) : Int) := by rw [Int.natAbs_of_nonneg (by omega)]; exact Int.dvd_refl _
      exact Int.dvd_trans this (Int.natCast_dvd_natCast.mpr (Nat.dvd_lcm_right _ _))
end Hn
namespace Hg
open PySem PySem.Spec PyProof.Rows L2
open Hn (p2)
/-- pairs of whole numbers -/
def FrsIn (H : Hp) (as : List Addr) (ps : List (Int × Int)) : Prop := as.length = ps.length ∧ ∀ (i : Nat) (a : Addr) (p : Int × Int), as[i]? = some a → ps[i]? = some p → H a = some (.tup [.int p.1, .int p.2])
theorem FrsIn.ex {H H' : Hp} {as : List Addr} {ps : List (Int × Int)} (e : Ex H H') (h : FrsIn H as ps) : FrsIn H' as ps := ⟨h.1, fun i a p h1 h2 => e _ _ (h.2 i a p h1 h2)⟩
theorem FrsIn.snoc {H : Hp} {as : List Addr} {ps : List (Int × Int)} (h : FrsIn H as ps) {a : Addr} {p : Int × Int} (ha : H a = some (.tup [.int p.1, .int p.2])) : FrsIn H (as ++ [a]) (ps ++ [p]) := by
  refine ⟨by simp [h.1], fun i b q h3 h4 => ?_⟩
  by_cases hi : i < as.length
  · rw [List.getElem?_append_left hi] at h3
    rw [List.getElem?_append_left (by rw [← h.1]; exact hi)] at h4
    exact h.2 i b q h3 h4
  · rw [List.getElem?_append_right (by omega)] at h3
    rw [List.getElem?_append_right (by rw [← h.1]; omega), ← h.1] at h4
    have : i - as.length = 0 := by have := (List.getElem?_eq_some_iff.mp h3).1; simp at this; omega
    rw [this] at h3 h4
    cases h3; cases h4
    exact ha
theorem FrsIn.at_ {H : Hp} {as : List Addr} {ps : List (Int × Int)} (h : FrsIn H as ps) {i : Nat} {a : Addr} (ha : as[i]? = some a) : ∃ p, ps[i]? = some p ∧ H a = some (.tup [.int p.1, .int p.2]) := by
  have hl := (List.getElem?_eq_some_iff.mp ha).1
  have : ps[i]? = some (ps[i]'(by rw [← h.1]; exact hl)) := List.getElem?_eq_getElem _
  exact ⟨_, this, h.2 i a _ ha this⟩
theorem fv_ext {n : Nat} {xs ys : List Int} (hx : xs.length = n) (hy : ys.length = n) : xs = ys ↔ ∀ j, j < n → Hn.fv xs j = Hn.fv ys j := by
  constructor
  · rintro rfl j _; rfl
  · intro h
    apply List.ext_getElem (by omega)
    intro j h1 h2
    have := h j (by omega)
    rwa [Hn.fv_at (List.getElem?_eq_getElem h1), Hn.fv_at (List.getElem?_eq_getElem h2)] at this
/-- a witness at w -/
def WitAt (H : Hp) (w : Addr) (base : List Int) (ps : List (Int × Int)) : Prop := ∃ (ba pa : Addr) (as : List Addr), H w = some (.tup [.ref ba, .ref pa]) ∧ H ba = some (.tup (iV base)) ∧ H pa = some (.tup (as.map V.ref)) ∧ FrsIn H as ps
theorem WitAt.ex {H H' : Hp} {w : Addr} {base : List Int} {ps : List (Int × Int)} (e : Ex H H') (h : WitAt H w base ps) : WitAt H' w base ps := let ⟨ba, pa, as, h1, h2, h3, h4⟩ := h; ⟨ba, pa, as, e _ _ h1, e _ _ h2, e _ _ h3, h4.ex e⟩
end Hg
set_option maxHeartbeats 4000000
namespace Hg
open PySem PySem.Spec PyProof.Rows L2
theorem Chain.uniq {n : Nat} {S : List (List Int × Nat)} {Bs Bs' : List (List (List Int))} (h : Chain n S Bs) (h' : Chain n S Bs') : Bs = Bs' := by
  apply List.ext_getElem (by rw [h.1, h'.1])
  intro i h1 h2
  exact (h.2 i _ (List.getElem?_eq_getElem h1)).uniq (h'.2 i _ (List.getElem?_eq_getElem h2))
theorem FrsIn.rows {H : Hp} {as : List Addr} {ps : List (Int × Int)} (h : FrsIn H as ps) : RowsIn H as (ps.map fun p => [p.1, p.2]) := ⟨by simp [h.1], fun i a r h1 h2 => by
  rw [List.getElem?_map] at h2
  obtain ⟨p, hp, rfl⟩ := Option.map_eq_some_iff.mp h2
  exact h.2 i a p h1 hp⟩
end Hg
namespace Hn
/-! ### a lattice of full rank by its dual -/
/-! ### full rank -/
theorem asc_gap {cs : List Nat} (h : cs.Pairwise (· < ·)) {i : Nat} : ∀ (d : Nat) (hj : i + d < cs.length), cs[i]'(by omega) + d ≤ cs[i + d]
  | 0, _ => Nat.le_refl _
  | d + 1, hj => by
    have h1 := asc_gap h (i := i) d (by omega)
    have h2 := List.pairwise_iff_getElem.mp h (i + d) (i + (d + 1)) (by omega) hj (by omega)
    omega
theorem EchR.full {n : Nat} {cs : List Nat} {R : List (List Int)} (e : EchR n cs R) (h : R.length = n) : cs = List.range n := by
  have cl : cs.length = n := by rw [e.len, h]
  refine List.ext_getElem (by rw [List.length_range, cl]) fun i h1 h2 => ?_
  rw [List.getElem_range]
  have a := asc_gap e.asc (i := 0) i (by omega)
  have b := asc_gap e.asc (i := i) (n - 1 - i) (by omega)
  have c := e.lt _ (List.getElem_mem (by omega : i + (n - 1 - i) < cs.length))
  have z : cs[0 + i]'(by omega) = cs[i] := by congr 1; omega
  omega
/-- the rows of the unit form -/
def unL (n : Nat) : List (List Int) := (List.range n).map fun k => (List.range n).map fun j => if j = k then 1 else 0
theorem un_fv {n k : Nat} {r : List Int} (hr : (unL n)[k]? = some r) (j : Nat) : k < n ∧ r.length = n ∧ fv r j = if j = k then 1 else 0 := by
  unfold unL at hr
  rw [List.getElem?_map] at hr
  obtain ⟨k', hk, rfl⟩ := Option.map_eq_some_iff.mp hr
  have hl := (List.getElem?_eq_some_iff.mp hk)
  obtain ⟨hl, e⟩ := hl
  rw [List.getElem_range] at e
  rw [List.length_range] at hl
  subst e
  refine ⟨hl, by simp, ?_⟩
  by_cases hj : j < n
  · exact fv_at (by rw [List.getElem?_map, List.getElem?_range hj]; rfl)
  · rw [fv_out (by simp; omega), if_neg (by omega)]
theorem un_ech (n : Nat) : EchR n (List.range n) (unL n) := by
  refine ⟨by simp [unL], List.pairwise_lt_range, fun c hc => List.mem_range.mp hc, fun i c r hc hr => ?_⟩
  have hi := (List.getElem?_eq_some_iff.mp hc)
  obtain ⟨hi, e⟩ := hi
  rw [List.getElem_range] at e
  subst e
  refine ⟨(un_fv hr 0).2.1, fun j hj => ?_, ?_⟩
  · rw [(un_fv hr j).2.2, if_neg (by omega)]
  · rw [(un_fv hr _).2.2, if_pos rfl]; decide
theorem un_all {n : Nat} {v : Vc} (hv : ∀ j, n ≤ j → v j = 0) : Sp (RL (unL n)) v := by
  have e : v = fun j => sm n fun k => v k * gt (unL n) k j := funext fun j => by
    have at_ : ∀ k, k < n → ∀ j, gt (unL n) k j = if j = k then 1 else 0 := fun k hk j => by
      have hr : (unL n)[k]? = some ((unL n)[k]'(by simp [unL]; exact hk)) := List.getElem?_eq_getElem _
      rw [gt_at hr]
      exact (un_fv hr j).2.2
    by_cases hj : j < n
    · rw [sm_one hj (fun k hk hne => by rw [at_ k hk, if_neg (Ne.symm hne), Int.mul_zero]), at_ j hj, if_pos rfl, Int.mul_one]
    · rw [hv j (by omega)]
      exact (sm_zero fun k hk => by rw [at_ k hk, if_neg (by omega), Int.mul_zero]).symm
  rw [e]
  refine Sp.sum v fun k hk => ?_
  have hr : (unL n)[k]? = some ((unL n)[k]'(by simp [unL]; exact hk)) := List.getElem?_eq_getElem _
  rw [gt_at hr]
  exact Sp.of ⟨_, List.mem_of_getElem? hr, rfl⟩
theorem pP_un : ∀ {cs : List Nat} {R : List (List Int)}, (∀ (i c : Nat) (r : List Int), cs[i]? = some c → R[i]? = some r → fv r c = 1) → pP cs R = 1
  | [], _, _ => rfl
  | _ :: _, [], _ => rfl
  | c :: cs, r :: R, h => by
    rw [pP, h 0 c r rfl rfl, pP_un fun i c r h1 h2 => h (i + 1) c r (by simpa using h1) (by simpa using h2)]
    rfl
/-- of full rank: the product of the pivots times any vector lies in it -/
theorem EchR.top {n : Nat} {cs : List Nat} {R : List (List Int)} (e : EchR n cs R) (h : R.length = n) {v : Vc} (hv : ∀ j, n ≤ j → v j = 0) : Sp (RL R) fun j => pP cs R * v j := by
  have ec := e.full h
  subst ec
  obtain ⟨N, N1, _, hN, ht⟩ := Idx.piv (un_ech n) e fun r hr => un_all fun j hj => by
    obtain ⟨i, hi⟩ := List.mem_iff_getElem?.mp hr
    have hl := (List.getElem?_eq_some_iff.mp hi).1
    have hc : (List.range n)[i]? = some i := List.getElem?_range (by omega)
    exact fv_out (by rw [(e.row i i r hc hi).1]; exact hj)
  have p1 : pP (List.range n) (unL n) = 1 := pP_un fun i c r h1 h2 => by
    obtain ⟨hi, e⟩ := List.getElem?_eq_some_iff.mp h1
    rw [List.getElem_range] at e
    subst e
    rw [(un_fv h2 _).2.2, if_pos rfl]
  rw [hN, p1, Int.mul_one]
  exact ht v (un_all hv)
/-! ### coordinates are bounded -/
theorem fdiv_du {c x : Int} (c0 : c ≠ 0) : (c * x).fdiv c = x := by rw [Int.mul_comm]; exact Int.mul_fdiv_cancel _ c0
end Hn
set_option maxHeartbeats 4000000
namespace Hg
open PySem PySem.Spec PyProof.Rows L2
/-- lists of numbers, none of them D -/
def RowsLD (D : Addr) (H : Hp) (as : List Addr) (F : List (List Int)) : Prop := as.length = F.length ∧ ∀ (i : Nat) (a : Addr) (r : List Int), as[i]? = some a → F[i]? = some r → a ≠ D ∧ H a = some (.lst (iV r))
theorem RowsLD.ex {D : Addr} {H H' : Hp} {as : List Addr} {F : List (List Int)} (e : Ex H H') (h : RowsLD D H as F) : RowsLD D H' as F := ⟨h.1, fun i a r h1 h2 => let ⟨x, y⟩ := h.2 i a r h1 h2; ⟨x, e _ _ y⟩⟩
theorem RowsLD.put {D : Addr} {H : Hp} {as : List Addr} {F : List (List Int)} {o : HO} (h : RowsLD D H as F) : RowsLD D (upd H D o) as F := ⟨h.1, fun i a r h1 h2 => let ⟨x, y⟩ := h.2 i a r h1 h2; ⟨x, (upd_ne x).trans y⟩⟩
theorem RowsLD.snoc {D : Addr} {H : Hp} {as : List Addr} {F : List (List Int)} (h : RowsLD D H as F) {a : Addr} {r : List Int} (na : a ≠ D) (ha : H a = some (.lst (iV r))) : RowsLD D H (as ++ [a]) (F ++ [r]) := by
  refine ⟨by simp [h.1], fun i b q h3 h4 => ?_⟩
  by_cases hi : i < as.length
  · rw [List.getElem?_append_left hi] at h3
    rw [List.getElem?_append_left (by rw [← h.1]; exact hi)] at h4
    exact h.2 i b q h3 h4
  · rw [List.getElem?_append_right (by omega)] at h3
    rw [List.getElem?_append_right (by rw [← h.1]; omega), ← h.1] at h4
    have : i - as.length = 0 := by have := (List.getElem?_eq_some_iff.mp h3).1; simp at this; omega
    rw [this] at h3 h4
    cases h3; cases h4
    exact ⟨na, ha⟩
theorem RowsLD.k {K : PySem.W.Frag} {D : Addr} {H : Hp} {as : List Addr} {F : List (List Int)} (h : RowsLD D H as F) : RowsK K H (as.map V.ref) F := by
  refine ⟨by rw [List.length_map]; exact h.1, fun i x r h1 h2 => ?_⟩
  rw [List.getElem?_map] at h1
  obtain ⟨a, ha, rfl⟩ := Option.map_eq_some_iff.mp h1
  exact ⟨false, a, rfl, SqK.lst (h.2 i a r ha h2).2⟩
/-- the dual of a lattice of full rank -/
structure DualOf (n : Nat) (R : List (List Int)) (scale : Int) (D : List (List Int)) : Prop where
  pos : 0 < scale
  lat : ∀ v : Hn.Vc, (∀ j, n ≤ j → v j = 0) → (Hn.Sp (Hn.RL R) v ↔ ∀ d ∈ D, scale ∣ Hn.dv n (Hn.fv d) v)
  com : ∀ c : Int, c ∣ scale → (∀ r ∈ D, ∀ j, c ∣ Hn.fv r j) → c ∣ 1
  unit : ∀ i, i < n → Hn.Sp (Hn.RL D) fun j => if j = i then scale else 0
  all : ∀ (u : Hn.Vc) (q : Int), q ≠ 0 → (∀ j, n ≤ j → u j = 0) → (∀ r ∈ R, q ∣ Hn.dv n u (Hn.fv r)) → ∃ w, Hn.Sp (Hn.RL D) w ∧ ∀ j, scale * u j = q * w j
end Hg
namespace Hn
/-! ### every list of rows has a form; how large the form of a kernel is -/
theorem lowTo_ex {N : Nat} {st : Steps} (e : Ech N st) {c : Nat} {xs : List Int} (h : xs.length = N) : ∀ d : Nat, ∃ zs, LowTo N st c (c + 1 + d) xs zs
  | 0 => ⟨xs, LowTo.start h⟩
  | d + 1 => by
    obtain ⟨zs, hz⟩ := lowTo_ex e (c := c) h d
    by_cases hp : ∃ l, st[c + 1 + d]? = some (some l)
    · obtain ⟨l, hl⟩ := hp
      exact ⟨_, hz.some e (by omega) hl⟩
    · exact ⟨zs, hz.none fun l hl => hp ⟨l, hl⟩⟩
theorem low_ex {N : Nat} {st : Steps} (e : Ech N st) {c : Nat} (hc : c < N) {xs : List Int} (h : xs.length = N) : ∃ zs, Low N st c xs zs := by
  obtain ⟨zs, hz⟩ := lowTo_ex e (c := c) h (N - (c + 1))
  rw [show c + 1 + (N - (c + 1)) = N by omega] at hz
  exact ⟨zs, hz⟩
theorem BR.enter {N M : Nat} {R : Vc → Prop} {st0 : Steps} {u : List Int} (b : BR N M R st0) (hM : 1 ≤ M) (hl : u.length = N) (hu : bnd M (fv u)) : ∃ st, BR N M (or1 R (fv u)) st := by
  have go : ∀ (k c : Nat) (st : Steps) (row : List Int), c + k = N → RI N M R st0 u c st row → ∃ st', BR N M (or1 R (fv u)) st' := by
    intro k
    induction k with
    | zero =>
      intro c st row h I
      have : c = N := by omega
      subst this
      exact ⟨st, I.fin b hu⟩
    | succ k ih =>
      intro c st row h I
      by_cases hr : fv row c = 0
      · exact ih (c + 1) st row (by omega) (I.skip hr)
      have hc : c < st.length := by rw [I.e.len]; omega
      have hst : st[c]? = some st[c] := List.getElem?_eq_getElem hc
      generalize st[c] = x at hst
      cases x with
      | none =>
        obtain ⟨k1, hk, hp⟩ : ∃ k1 : Int, (k1 = 1 ∨ k1 = -1) ∧ 0 < k1 * fv row c := by
          rcases Int.lt_or_gt_of_ne hr with h1 | h1
          · exact ⟨-1, .inr rfl, by omega⟩
          · exact ⟨1, .inl rfl, by omega⟩
        have ep : ∀ j, fv (row.map fun x => k1 * x) j = k1 * fv row j := fun j => fv_map (f := fun x => k1 * x) (by simp) j
        obtain ⟨z, hz⟩ := low_ex I.e (c := c) (by omega) (xs := row.map fun x => k1 * x) (by rw [List.length_map, I.rl])
        exact ⟨_, I.create b hM hu hst hk (by rw [List.length_map, I.rl]) ep (by rw [ep]; exact hp) hz⟩
      | some l =>
        have pl := I.e.piv _ _ hst
        have ll := I.e.row _ _ hst
        obtain ⟨g0, p, r, ep, er, eg, hs, ht⟩ := bezF_pos pl hr
        have hll : l.length = row.length := by rw [ll, I.rl]
        obtain ⟨new, hn⟩ := low_ex I.e (c := c) (by omega) (xs := combL (bezF (fv l c) (fv row c)).2.1 l (bezF (fv l c) (fv row c)).2.2 row) (by rw [len_comb hll, ll])
        obtain ⟨left, hf⟩ := low_ex I.e (c := c) (by omega) (xs := combL (-r) l p row) (by rw [len_comb hll, ll])
        exact ih (c + 1) _ _ (by omega) (I.merge b hM hu hst g0 ep er eg ht hn hf)
  exact go N 0 st0 u (by omega) (RI.start b hM hl hu)
theorem BR.rows {N M : Nat} (hM : 1 ≤ M) : ∀ rows : List (List Int), (∀ r ∈ rows, r.length = N ∧ bnd M (fv r)) → ∃ st, BR N M (RL rows) st
  | [], _ => ⟨_, BR.empty.congr fun v => ⟨fun h => h.elim, fun ⟨r, hr, _⟩ => by cases hr⟩⟩
  | u :: rows, h => by
    obtain ⟨st, b⟩ := BR.rows hM rows fun r hr => h r (List.mem_cons_of_mem _ hr)
    obtain ⟨h1, h2⟩ := h u (.head _)
    obtain ⟨st', b'⟩ := b.enter hM h1 h2
    refine ⟨st', b'.congr fun v => ⟨?_, ?_⟩⟩
    · rintro (⟨r, hr, e⟩ | e)
      · exact ⟨r, List.mem_cons_of_mem _ hr, e⟩
      · exact ⟨u, .head _, e⟩
    · rintro ⟨r, hr, e⟩
      rcases List.mem_cons.mp hr with rfl | hr
      · exact .inr e
      · exact .inl ⟨r, hr, e⟩
theorem BR.form {N M L n : Nat} {R : Vc → Prop} {st : Steps} (b : BR N M R st) (hM : 1 ≤ M) (hN : N = L + n) : ∃ C, Hnf n (fun v => Sp R (shift L v)) C ∧ ∀ r ∈ C, r.length = n ∧ bnd (hB N M) (fv r) := by
  have go : ∀ k : Nat, k ≤ n → ∃ tl, FI N M L n R st (n - k) tl := by
    intro k
    induction k with
    | zero => intro _; exact ⟨_, FI.start b hM hN⟩
    | succ k ih =>
      intro hk
      obtain ⟨tl, F⟩ := ih (by omega)
      rw [show n - k = (n - (k + 1)) + 1 by omega] at F
      have hc : n - (k + 1) < tl.length := by rw [F.e.len]; omega
      have hst : tl[n - (k + 1)]? = some tl[n - (k + 1)] := List.getElem?_eq_getElem hc
      generalize tl[n - (k + 1)] = x at hst
      cases x with
      | none => exact ⟨tl, F.skip hst⟩
      | some l =>
        obtain ⟨z, hz⟩ := low_ex F.e (c := n - (k + 1)) (by omega) (xs := l) (F.e.row _ _ hst)
        exact ⟨_, F.step b hM hN hst hz⟩
  obtain ⟨tl, F⟩ := go n (Nat.le_refl _)
  rw [Nat.sub_self] at F
  refine ⟨tl.filterMap id, ⟨tl, F.e, fun c l j l' h1 h2 h3 => F.red c l j l' (Nat.zero_le _) h1 h2 h3, F.sp, rfl⟩, fun r hr => ?_⟩
  obtain ⟨x, hx, ex'⟩ := List.mem_filterMap.mp hr
  change x = some r at ex'
  subst ex'
  obtain ⟨c, hc⟩ := List.mem_iff_getElem?.mp hx
  exact ⟨F.e.row _ _ hc, F.hb b hM hN hc⟩
/-- every lattice that rows generate has a form -/
theorem hnf_ex {n M : Nat} (hM : 1 ≤ M) {R : List (List Int)} (h : ∀ r ∈ R, r.length = n ∧ bnd M (fv r)) : ∃ C, Hnf n (Sp (RL R)) C ∧ ∀ r ∈ C, r.length = n ∧ bnd (hB n M) (fv r) := by
  obtain ⟨st, b⟩ := BR.rows hM R h
  obtain ⟨C, hC, hb⟩ := b.form (L := 0) (n := n) hM (by omega)
  exact ⟨C, hC.congr fun v => by rw [shift_zero], hb⟩
end Hn
namespace Hn
/-! ### kernels: numbers, rank, and what a vector is behind some columns -/
/-! ### columns that are left -/
def cpl (n : Nat) (ds : List Nat) : List Nat := (List.range n).filter fun c => !ds.contains c
theorem cpl_mem {n : Nat} {ds : List Nat} {c : Nat} : c ∈ cpl n ds ↔ c < n ∧ c ∉ ds := by
  simp [cpl]
theorem cpl_asc {n : Nat} {ds : List Nat} : (cpl n ds).Pairwise (· < ·) := List.Pairwise.filter _ List.pairwise_lt_range
theorem flt_len {p : Nat → Bool} : ∀ l : List Nat, (l.filter p).length + (l.filter fun c => !p c).length = l.length
  | [] => rfl
  | x :: l => by
    have := flt_len (p := p) l
    simp only [List.filter_cons]
    cases p x <;> simp <;> omega
theorem cpl_len {n : Nat} {ds : List Nat} (h : ds.Pairwise (· < ·)) (hl : ∀ c ∈ ds, c < n) : (cpl n ds).length + ds.length = n := by
  have e : (List.range n).filter (fun c => ds.contains c) = ds := by
    have a : ((List.range n).filter fun c => ds.contains c).Pairwise (· < ·) := List.Pairwise.filter _ List.pairwise_lt_range
    have s1 := sub_sorted a h fun d hd => List.mem_filter.mpr ⟨List.mem_range.mpr (hl d hd), by simpa using hd⟩
    have s2 := sub_sorted h a fun d hd => by simpa using (List.mem_filter.mp hd).2
    exact (s2.2 (by omega))
  have := flt_len (p := fun c => ds.contains c) (List.range n)
  rw [e, List.length_range] at this
  unfold cpl
  omega
/-- the numbers of a vector in some columns -/
def prjV (cs : List Nat) (v : Vc) : Vc := fun i => if i < cs.length then v (cs.getD i 0) else 0
theorem prjV_at {cs : List Nat} {v : Vc} {i c : Nat} (h : cs[i]? = some c) : prjV cs v i = v c := by
  have hl := (List.getElem?_eq_some_iff.mp h).1
  rw [prjV, if_pos hl, List.getD_eq_getElem?_getD, h]; rfl
theorem prjV_out {cs : List Nat} {v : Vc} {i : Nat} (h : cs.length ≤ i) : prjV cs v i = 0 := if_neg (by omega)
theorem prj_row {cs : List Nat} {r : List Int} : fv (prjL cs r) = prjV cs (fv r) := funext fun i => by
  by_cases h : i < cs.length
  · rw [prjL_at (List.getElem?_eq_getElem h), prjV_at (List.getElem?_eq_getElem h)]
  · rw [prjV_out (by omega), fv_out (by simp [prjL]; omega)]
theorem prj_comb {cs : List Nat} {k : Int} {u v : Vc} : prjV cs (fun j => k * u j + v j) = fun i => k * prjV cs u i + prjV cs v i := funext fun i => by
  unfold prjV
  split
  · rfl
  · omega
theorem prj_sp {cs : List Nat} {R : List (List Int)} {v : Vc} (h : Sp (RL R) v) : Sp (RL (R.map (prjL cs))) (prjV cs v) := by
  induction h with
  | zero => exact Sp.zero.cast fun i => by unfold prjV; split <;> rfl
  | @add u w k hu _ ih =>
    obtain ⟨r, hr, rfl⟩ := hu
    rw [prj_comb]
    refine Sp.add k ⟨_, List.mem_map.mpr ⟨r, hr, rfl⟩, ?_⟩ ih
    rw [prj_row]
theorem prj_back {cs : List Nat} {R : List (List Int)} {p : Vc} (h : Sp (RL (R.map (prjL cs))) p) : ∃ v, Sp (RL R) v ∧ prjV cs v = p := by
  induction h with
  | zero => exact ⟨_, .zero, funext fun i => by unfold prjV; split <;> rfl⟩
  | @add u w k hu _ ih =>
    obtain ⟨q, hq, rfl⟩ := hu
    obtain ⟨r, hr, rfl⟩ := List.mem_map.mp hq
    obtain ⟨v, hv, e⟩ := ih
    exact ⟨_, .add k ⟨r, hr, rfl⟩ hv, by rw [prj_comb, prj_row, e]⟩
theorem dv_prjV {n : Nat} {cs : List Nat} (asc : cs.Pairwise (· < ·)) (lt : ∀ c ∈ cs, c < n) {f g v : Vc} (hf : ∀ i c, cs[i]? = some c → f c = g i) (h0 : ∀ c, c < n → c ∉ cs → f c = 0) : dv n f v = dv cs.length g (prjV cs v) := by
  unfold dv
  have at_ : ∀ i, i < cs.length → cs[i]? = some (cs.getD i 0) := fun i hi => by rw [List.getD_eq_getElem?_getD, List.getElem?_eq_getElem hi]; rfl
  rw [sm_cols n cs.length (fun i => cs.getD i 0) (fun i i' h1 h2 => by
    have := List.pairwise_iff_getElem.mp asc i i' (by omega) h2 h1
    simpa [List.getD_eq_getElem?_getD, List.getElem?_eq_getElem h2, List.getElem?_eq_getElem (show i < cs.length by omega)] using this)
    (fun i hi => lt _ (List.mem_of_getElem? (at_ i hi))) (fun k hk hne => ?_)]
  · exact sm_congr fun i hi => by rw [hf i _ (at_ i hi), prjV_at (at_ i hi)]
  · by_cases hc : k ∈ cs
    · obtain ⟨i, hi⟩ := List.mem_iff_getElem?.mp hc
      refine ⟨i, (List.getElem?_eq_some_iff.mp hi).1, ?_⟩
      rw [List.getD_eq_getElem?_getD, hi]; rfl
    · rw [h0 k hk hc, Int.zero_mul] at hne
      exact absurd rfl hne
/-- a vector at which an echelon's forms vanish is known by the other columns -/
theorem pin_cols {n : Nat} {ds : List Nat} {E : List (List Int)} (e : EchR n ds E) {w : Vc} (hE : ∀ r ∈ E, dv n (fv r) w = 0) (h0 : ∀ j, n ≤ j → w j = 0) (hc : ∀ c ∈ cpl n ds, w c = 0) (j : Nat) : w j = 0 := by
  have key : ∀ t i d, ds[i]? = some d → E.length ≤ i + t → w d = 0 := by
    intro t
    induction t with
    | zero =>
      intro i d hi ht
      have := (List.getElem?_eq_some_iff.mp hi).1
      rw [e.len] at this
      omega
    | succ t ih =>
      intro i d hi ht
      have il := (List.getElem?_eq_some_iff.mp hi).1
      have hr : E[i]? = some (E[i]'(by rw [← e.len]; exact il)) := List.getElem?_eq_getElem _
      obtain ⟨r1, r2, r3⟩ := e.row i d _ hi hr
      have hv := hE _ (List.mem_of_getElem? hr)
      generalize E[i]'(by rw [← e.len]; exact il) = r at r1 r2 r3 hv
      have dl := e.lt d (List.mem_of_getElem? hi)
      unfold dv at hv
      rw [sm_one dl fun k hk hne => ?_] at hv
      · exact (Int.mul_eq_zero.mp hv).resolve_left (by omega)
      · rcases Nat.lt_or_gt_of_ne hne with h | h
        · rw [r2 k h, Int.zero_mul]
        · by_cases hk2 : k ∈ ds
          · obtain ⟨i', hi'⟩ := List.mem_iff_getElem?.mp hk2
            have il' := (List.getElem?_eq_some_iff.mp hi').1
            have : i < i' := by
              refine Classical.byContradiction fun hn => ?_
              rcases Nat.lt_or_eq_of_le (Nat.le_of_not_lt hn) with h1 | h1
              · have p := List.pairwise_iff_getElem.mp e.asc i' i il' il h1
                rw [(List.getElem?_eq_some_iff.mp hi).2, (List.getElem?_eq_some_iff.mp hi').2] at p
                omega
              · subst h1
                rw [hi] at hi'
                cases hi'
                omega
            rw [ih i' k hi' (by omega), Int.mul_zero]
          · rw [hc k (cpl_mem.mpr ⟨hk, hk2⟩), Int.mul_zero]
  by_cases hj : j < n
  · by_cases hd : j ∈ ds
    · obtain ⟨i, hi⟩ := List.mem_iff_getElem?.mp hd
      exact key E.length i j hi (by omega)
    · exact hc j (cpl_mem.mpr ⟨hj, hd⟩)
  · exact h0 j (by omega)
/-- a form that vanishes on the lattice, with one column that is no pivot -/
theorem van_col {n M : Nat} {cs : List Nat} {R : List (List Int)} (e : EchR n cs R) (hM : 1 ≤ M) (hR : ∀ r ∈ R, bnd M (fv r)) {j : Nat} (hj : j < n) (hn : j ∉ cs) : ∃ F, VanP n R F ∧ F j ≠ 0 ∧ ∀ j', j' ∉ cs → j' ≠ j → F j' = 0 := by
  have g : GensM ((1 : Nat) : Int) R.length (gt R) (RL R) := ⟨fun s hs => .of ⟨_, List.mem_of_getElem? (List.getElem?_eq_getElem hs), gt_at (List.getElem?_eq_getElem hs)⟩, fun u hu => by
    obtain ⟨z, hz⟩ := RL_coef (.of hu)
    exact ⟨z, fun j => by rw [← hz]; simp⟩⟩
  obtain ⟨x, d, d0, _, _, hf⟩ := form_boundM (n := R.length + 1) (M := M) (by omega) hM e.tri g (fun u ⟨r, hr, e⟩ => e ▸ hR r hr) (by omega) j
  have cm : ∀ i, i < R.length → cs.getD i 0 ∈ cs := fun i hi => by
    have : i < cs.length := by rw [e.len]; exact hi
    rw [List.getD_eq_getElem?_getD, List.getElem?_eq_getElem this]
    exact List.getElem_mem this
  have cl : ∀ i, i < R.length → cs.getD i 0 < n := fun i hi => e.lt _ (cm i hi)
  have dvF : ∀ v : Vc, dv n (fun k => (sm R.length fun i => if k = cs.getD i 0 then x i else 0) + if k = j then d else 0) v = (sm R.length fun i => x i * v (cs.getD i 0)) + d * v j := fun v => by
    unfold dv
    have e1 : sm n (fun k => ((sm R.length fun i => if k = cs.getD i 0 then x i else 0) + if k = j then d else 0) * v k) = sm n (fun k => sm R.length fun i => (if k = cs.getD i 0 then x i else 0) * v k) + sm n (fun k => (if k = j then d else 0) * v k) := by
      rw [← sm_add]
      exact sm_congr fun k _ => by rw [Int.add_mul, ← sm_mulr]
    rw [e1, sm_swap, sm_one hj (fun i _ hne => by rw [if_neg hne, Int.zero_mul]), if_pos rfl]
    congr 1
    exact sm_congr fun i hi => by
      rw [sm_one (cl i hi) (fun k _ hne => by rw [if_neg hne, Int.zero_mul]), if_pos rfl]
  refine ⟨fun k => (sm R.length fun i => if k = cs.getD i 0 then x i else 0) + if k = j then d else 0, ⟨fun k hk => ?_, fun r hr => ?_⟩, ?_, fun j' h1 h2 => ?_⟩
  · show (sm R.length fun i => if k = cs.getD i 0 then x i else 0) + (if k = j then d else 0) = 0
    rw [if_neg (by omega), sm_zero fun i hi => if_neg (by have := cl i hi; omega)]; rfl
  · rw [dv_comm, dvF]
    exact hf _ (.of ⟨r, hr, rfl⟩)
  · show (sm R.length fun i => if j = cs.getD i 0 then x i else 0) + (if j = j then d else 0) ≠ 0
    rw [if_pos rfl, sm_zero fun i hi => if_neg (by intro h; exact hn (by rw [h]; exact cm i hi))]
    omega
  · show (sm R.length fun i => if j' = cs.getD i 0 then x i else 0) + (if j' = j then d else 0) = 0
    rw [if_neg h2, sm_zero fun i hi => if_neg (by intro h; exact h1 (by rw [h]; exact cm i hi))]; rfl
/-- rank and kernel -/
theorem van_rank1 {n M : Nat} {cs : List Nat} {R E : List (List Int)} (e : EchR n cs R) (hM : 1 ≤ M) (hR : ∀ r ∈ R, bnd M (fv r)) (hE : Hnf n (VanP n R) E) : n ≤ E.length + R.length := by
  have cl := cpl_len e.asc e.lt
  have at_ : ∀ s, s < (cpl n cs).length → (cpl n cs)[s]? = some ((cpl n cs).getD s 0) := fun s hs => by rw [List.getD_eq_getElem?_getD, List.getElem?_eq_getElem hs]; rfl
  have ex : ∀ s, ∃ F, s < (cpl n cs).length → VanP n R F ∧ F ((cpl n cs).getD s 0) ≠ 0 ∧ ∀ j', j' ∉ cs → j' ≠ (cpl n cs).getD s 0 → F j' = 0 := fun s => by
    by_cases hs : s < (cpl n cs).length
    · obtain ⟨h1, h2⟩ := cpl_mem.mp (List.mem_of_getElem? (at_ s hs))
      obtain ⟨F, hF⟩ := van_col e hM hR h1 h2
      exact ⟨F, fun _ => hF⟩
    · exact ⟨fun _ => 0, fun h => absurd h hs⟩
  have hF := fun s => Classical.choose_spec (ex s)
  generalize (fun s => Classical.choose (ex s)) = F at hF
  have hr := rank_le (m := (cpl n cs).length) (k := E.length) (T := fun s => Classical.choose (ex s)) (c := fun s => (cpl n cs).getD s 0) ⟨fun s i hs hi => ?_, fun s hs => (hF s hs).2.1⟩ (Gv := gt E) fun s hs => RL_coef ((hE.span _).mp (hF s hs).1)
  · rw [e.len] at cl
    omega
  · have hi' : i < (cpl n cs).length := by omega
    refine (hF s hs).2.2 _ (cpl_mem.mp (List.mem_of_getElem? (at_ i hi'))).2 fun h => ?_
    have := List.pairwise_iff_getElem.mp (cpl_asc (n := n) (ds := cs)) i s hi' hs hi
    have a := at_ i hi'
    have b := at_ s hs
    rw [List.getElem?_eq_getElem hi'] at a
    rw [List.getElem?_eq_getElem hs] at b
    rw [Option.some.inj a, Option.some.inj b] at this
    omega
/-- columns that tell the vectors of the lattice apart keep its rank -/
theorem prj_rank {n M : Nat} {cs qs : List Nat} {R P : List (List Int)} (e : EchR n cs R) (hM : 1 ≤ M) (hR : ∀ r ∈ R, bnd M (fv r)) (inj : ∀ v, Sp (RL R) v → (∀ c ∈ qs, v c = 0) → ∀ j, v j = 0) (hP : Hnf qs.length (Sp (RL (R.map (prjL qs)))) P) : P.length = R.length := by
  have h1 : P.length ≤ R.length := (hP.few (G := R.map (prjL qs)) (k := R.length) (M := M) (fun v => Iff.rfl) (by rw [List.length_map]; exact Nat.le_refl _) hM fun r hr => by
    obtain ⟨q, hq, rfl⟩ := List.mem_map.mp hr
    exact prjL_bnd (hR q hq)).1
  have ex : ∀ l, ∃ g, l < P.length → Sp (RL R) g ∧ prjV qs g = gt P l := fun l => by
    by_cases hl : l < P.length
    · obtain ⟨v, hv, e⟩ := prj_back ((hP.span _).mpr (.of ⟨_, List.getElem_mem hl, rfl⟩))
      exact ⟨v, fun _ => ⟨hv, by rw [e, gt_at (List.getElem?_eq_getElem hl)]⟩⟩
    · exact ⟨fun _ => 0, fun h => absurd h hl⟩
  have hg := fun l => Classical.choose_spec (ex l)
  generalize (fun s => Classical.choose (ex s)) = F at hg
  have h2 := rank_le e.tri (k := P.length) (Gv := fun l => Classical.choose (ex l)) fun s hs => by
    have hrs : R[s]? = some R[s] := List.getElem?_eq_getElem hs
    have hin : Sp (RL R) (fv R[s]) := .of ⟨_, List.getElem_mem hs, rfl⟩
    obtain ⟨z, hz⟩ := RL_coef ((hP.span _).mp (prj_sp (cs := qs) hin))
    refine ⟨z, fun j => ?_⟩
    have hw : Sp (RL R) (fun j => sm P.length fun l => z l * Classical.choose (ex l) j) := Sp.sumz z fun l hl => .inr (hg l hl).1
    have hd := inj _ (hin.sub hw) (fun c hc => ?_) j
    · rw [gt_at hrs]; omega
    · obtain ⟨i, hi⟩ := List.mem_iff_getElem?.mp hc
      have a := hz i
      rw [prjV_at hi] at a
      have b : sm P.length (fun l => z l * Classical.choose (ex l) c) = sm P.length fun l => z l * gt P l i := sm_congr fun l hl => by
        have := congrFun (hg l hl).2 i
        rw [prjV_at hi] at this
        rw [this]
      omega
  omega
theorem van_rank {n M : Nat} {cs ds : List Nat} {R E : List (List Int)} (e : EchR n cs R) (hM : 1 ≤ M) (hR : ∀ r ∈ R, bnd M (fv r)) (hE : Hnf n (VanP n R) E) (eE : EchR n ds E) : E.length + R.length = n ∧ (cpl n ds).length = R.length := by
  have h1 := van_rank1 e hM hR hE
  have rl : ∀ r ∈ R, r.length = n := fun r hr => by
    obtain ⟨i, hi⟩ := List.mem_iff_getElem?.mp hr
    have : i < cs.length := by rw [e.len]; exact (List.getElem?_eq_some_iff.mp hi).1
    exact (e.row i _ r (List.getElem?_eq_getElem this) hi).1
  obtain ⟨P, hP, _⟩ := hnf_ex (n := (cpl n ds).length) hM (R := R.map (prjL (cpl n ds))) fun r hr => by
    obtain ⟨q, hq, rfl⟩ := List.mem_map.mp hr
    exact ⟨by simp [prjL], prjL_bnd (hR q hq)⟩
  have h2 := prj_rank (qs := cpl n ds) e hM hR (fun v hv hc => pin_cols eE (fun r hr => ?_) (fun j hj => ?_) hc) hP
  · have h3 := hP.le
    have h4 := cpl_len eE.asc eE.lt
    have h5 := eE.len
    omega
  · have hvr := (hE.span _).mpr (.of ⟨r, hr, rfl⟩)
    have key : ∀ x, Sp (RL R) x → dv n (fv r) x = 0 := fun x hs => by
      induction hs with
      | zero => exact sm_zero fun i _ => by simp
      | @add u w k hu _ ih =>
        obtain ⟨q, hq, rfl⟩ := hu
        rw [dv_comb, ih, dv_comm, hvr.2 q hq]; simp
    exact key v hv
  · exact hv.at0 fun u ⟨r, hr, e⟩ => by rw [e]; exact fv_out (by rw [rl r hr]; exact hj)
end Hn
set_option maxHeartbeats 4000000
namespace Hn
/-! ### the dual of a lattice of any rank -/
theorem Hnf.red {n : Nat} {V : Vc → Prop} {B : List (List Int)} {cs : List Nat} (hB : Hnf n V B) (e : EchR n cs B) : ∀ (i j c : Nat) (r r' : List Int), i < j → cs[j]? = some c → B[i]? = some r → B[j]? = some r' → 0 ≤ fv r c ∧ fv r c < fv r' c := by
  intro i j c r r' hij hc hr hr'
  obtain ⟨tl, et, rd, _, rfl⟩ := hB
  have at_ : ∀ (k : Nat) (x : List Int), (tl.filterMap id)[k]? = some x → ∃ (d : Nat), cs[k]? = some d ∧ tl[d]? = some (some x) := fun k x hk => by
    have kl := (List.getElem?_eq_some_iff.mp hk).1
    have hd : cs[k]? = some (cs[k]'(by rw [e.len]; exact kl)) := List.getElem?_eq_getElem _
    obtain ⟨x1, x2, x3⟩ := e.row k _ x hd hk
    obtain ⟨y, hy, ey⟩ := List.mem_filterMap.mp (List.mem_of_getElem? hk)
    change y = some x at ey
    subst ey
    obtain ⟨d, hdt⟩ := List.mem_iff_getElem?.mp hy
    have p1 := et.piv _ _ hdt
    have p2 := fun j h => et.lo _ _ j hdt h
    refine ⟨_, hd, ?_⟩
    have : cs[k]'(by rw [e.len]; exact kl) = d := by
      rcases Nat.lt_trichotomy (cs[k]'(by rw [e.len]; exact kl)) d with h | h | h
      · have := p2 _ h; omega
      · exact h
      · have := x2 _ h; omega
    rw [this]; exact hdt
  obtain ⟨d, h1, h2⟩ := at_ i r hr
  obtain ⟨d', h3, h4⟩ := at_ j r' hr'
  rw [hc] at h3
  cases h3
  have il := (List.getElem?_eq_some_iff.mp h1).1
  have jl := (List.getElem?_eq_some_iff.mp hc).1
  have p := List.pairwise_iff_getElem.mp e.asc i j il jl hij
  rw [(List.getElem?_eq_some_iff.mp h1).2, (List.getElem?_eq_some_iff.mp hc).2] at p
  exact rd d r c r' h2 p h4
/-- rows put into columns -/
structure Sprd (n : Nat) (cs : List Nat) (D D' : List (List Int)) : Prop where
  len : D'.length = D.length
  row : ∀ (i : Nat) (d d' : List Int), D[i]? = some d → D'[i]? = some d' → d'.length = n ∧ (∀ s c, cs[s]? = some c → fv d' c = fv d s) ∧ ∀ j, j ∉ cs → fv d' j = 0
theorem Sprd.get {n : Nat} {cs : List Nat} {D D' : List (List Int)} (h : Sprd n cs D D') {d' : List Int} (hd : d' ∈ D') : ∃ d ∈ D, d'.length = n ∧ (∀ s c, cs[s]? = some c → fv d' c = fv d s) ∧ ∀ j, j ∉ cs → fv d' j = 0 := by
  obtain ⟨i, hi⟩ := List.mem_iff_getElem?.mp hd
  have il := (List.getElem?_eq_some_iff.mp hi).1
  have hD : D[i]? = some (D[i]'(by rw [← h.len]; exact il)) := List.getElem?_eq_getElem _
  exact ⟨_, List.mem_of_getElem? hD, h.row i _ _ hD hi⟩
theorem Sprd.got {n : Nat} {cs : List Nat} {D D' : List (List Int)} (h : Sprd n cs D D') {d : List Int} (hd : d ∈ D) : ∃ d' ∈ D', d'.length = n ∧ (∀ s c, cs[s]? = some c → fv d' c = fv d s) ∧ ∀ j, j ∉ cs → fv d' j = 0 := by
  obtain ⟨i, hi⟩ := List.mem_iff_getElem?.mp hd
  have il := (List.getElem?_eq_some_iff.mp hi).1
  have hD : D'[i]? = some (D'[i]'(by rw [h.len]; exact il)) := List.getElem?_eq_getElem _
  exact ⟨_, List.mem_of_getElem? hD, h.row i _ _ hi hD⟩
theorem Sprd.sp {n : Nat} {cs : List Nat} {D D' : List (List Int)} (h : Sprd n cs D D') {w : Vc} (hw : Sp (RL D) w) : ∃ w', Sp (RL D') w' ∧ (∀ s c, cs[s]? = some c → w' c = w s) ∧ ∀ j, j ∉ cs → w' j = 0 := by
  induction hw with
  | zero => exact ⟨_, .zero, fun _ _ _ => rfl, fun _ _ => rfl⟩
  | @add u v k hu _ ih =>
    obtain ⟨d, hd, rfl⟩ := hu
    obtain ⟨d', hd', _, a, b⟩ := h.got hd
    obtain ⟨w', hw', c, e⟩ := ih
    exact ⟨_, .add k ⟨d', hd', rfl⟩ hw', fun s x hs => by show k * fv d' x + w' x = _; rw [a s x hs, c s x hs], fun j hj => by show k * fv d' j + w' j = 0; rw [b j hj, e j hj]; omega⟩
theorem Sprd.hnf {n : Nat} {cs : List Nat} {D D' : List (List Int)} (h : Sprd n cs D D') (asc : cs.Pairwise (· < ·)) (lt : ∀ c ∈ cs, c < n) {V : Vc → Prop} (hD : Hnf cs.length V D) : Hnf n (Sp (RL D')) D' := by
  obtain ⟨es, e⟩ := hD.ech
  have red := hD.red e
  have el := e.len
  have at_ : ∀ (i c : Nat), (es.map fun k => cs.getD k 0)[i]? = some c → ∃ k, es[i]? = some k ∧ k < cs.length ∧ cs[k]? = some c := fun i c hi => by
    rw [List.getElem?_map] at hi
    obtain ⟨k, hk, rfl⟩ := Option.map_eq_some_iff.mp hi
    have kl := e.lt k (List.mem_of_getElem? hk)
    exact ⟨k, hk, kl, by rw [List.getD_eq_getElem?_getD, List.getElem?_eq_getElem kl]; rfl⟩
  have lt2 : ∀ {k k' c c' : Nat}, cs[k]? = some c → cs[k']? = some c' → k < k' → c < c' := fun {k k' c c'} h1 h2 h3 => by
    have p := List.pairwise_iff_getElem.mp asc k k' (List.getElem?_eq_some_iff.mp h1).1 (List.getElem?_eq_some_iff.mp h2).1 h3
    rw [(List.getElem?_eq_some_iff.mp h1).2, (List.getElem?_eq_some_iff.mp h2).2] at p
    exact p
  have dn : ∀ (i : Nat) (d' : List Int), D'[i]? = some d' → ∃ d, D[i]? = some d := fun i d' hi => by
    have il := (List.getElem?_eq_some_iff.mp hi).1
    exact ⟨_, List.getElem?_eq_getElem (show i < D.length by rw [← h.len]; exact il)⟩
  have E : EchR n (es.map fun k => cs.getD k 0) D' := by
    refine ⟨by rw [List.length_map, h.len, el], List.pairwise_iff_getElem.mpr fun i j hi hj hij => ?_, fun c hc => ?_, fun i c d' hc hr => ?_⟩
    · obtain ⟨k, h1, _, h2⟩ := at_ i _ (List.getElem?_eq_getElem hi)
      obtain ⟨k', h3, _, h4⟩ := at_ j _ (List.getElem?_eq_getElem hj)
      refine lt2 h2 h4 ?_
      have p := List.pairwise_iff_getElem.mp e.asc i j (List.getElem?_eq_some_iff.mp h1).1 (List.getElem?_eq_some_iff.mp h3).1 hij
      rw [(List.getElem?_eq_some_iff.mp h1).2, (List.getElem?_eq_some_iff.mp h3).2] at p
      exact p
    · obtain ⟨i, hi⟩ := List.mem_iff_getElem?.mp hc
      obtain ⟨k, _, _, h2⟩ := at_ i _ hi
      exact lt _ (List.mem_of_getElem? h2)
    · obtain ⟨k, h1, _, h2⟩ := at_ i c hc
      obtain ⟨d, hd⟩ := dn i d' hr
      obtain ⟨a1, a2, a3⟩ := h.row i d d' hd hr
      obtain ⟨b1, b2, b3⟩ := e.row i k d h1 hd
      refine ⟨a1, fun j hj => ?_, by rw [a2 k c h2]; exact b3⟩
      by_cases hm : j ∈ cs
      · obtain ⟨s, hs⟩ := List.mem_iff_getElem?.mp hm
        rw [a2 s j hs]
        refine b2 s (Classical.byContradiction fun hn => ?_)
        rcases Nat.lt_or_eq_of_le (Nat.le_of_not_lt hn) with h5 | h5
        · have := lt2 h2 hs h5; omega
        · subst h5; rw [hs] at h2; cases h2; omega
      · exact a3 j hm
  refine E.hnf fun i j c r r' hij hc hr hr' => ?_
  obtain ⟨k, h1, _, h2⟩ := at_ j c hc
  obtain ⟨d, hd⟩ := dn i r hr
  obtain ⟨d', hd'⟩ := dn j r' hr'
  rw [(h.row i d r hd hr).2.1 k c h2, (h.row j d' r' hd' hr').2.1 k c h2]
  exact red i j k d d' hij h1 hd hd'
end Hn
namespace Hg
open PySem PySem.Spec PyProof.Rows L2
/-- the dual of a lattice: forms that vanish, a scale, and forms that have multiples of it as values -/
structure DualR (n : Nat) (R E : List (List Int)) (scale : Int) (D : List (List Int)) : Prop where
  exact : Hn.Hnf n (Hn.VanP n R) E
  pos : 0 < scale
  lat : ∀ v : Hn.Vc, (∀ j, n ≤ j → v j = 0) → (Hn.Sp (Hn.RL R) v ↔ (∀ e ∈ E, Hn.dv n (Hn.fv e) v = 0) ∧ ∀ d ∈ D, scale ∣ Hn.dv n (Hn.fv d) v)
  com : ∀ c : Int, c ∣ scale → (∀ r ∈ D, ∀ j, c ∣ Hn.fv r j) → c ∣ 1
  lenE : E.length + R.length = n
  lenD : D.length = R.length
  base : Hn.Hnf n (Hn.Sp (Hn.RL D)) D
  col : ∀ ds, Hn.EchR n ds E → ∀ d ∈ D, ∀ c ∈ ds, Hn.fv d c = 0
  all : ∀ (u : Hn.Vc) (q : Int), q ≠ 0 → (∀ j, n ≤ j → u j = 0) → (∀ ds, Hn.EchR n ds E → ∀ c ∈ ds, u c = 0) → (∀ r ∈ R, q ∣ Hn.dv n u (Hn.fv r)) → ∃ w, Hn.Sp (Hn.RL D) w ∧ ∀ j, scale * u j = q * w j
theorem echR_uniq {n : Nat} {ds es : List Nat} {E : List (List Int)} (a : Hn.EchR n ds E) (b : Hn.EchR n es E) : ds = es := by
  refine List.ext_getElem (by rw [a.len, b.len]) fun i h1 h2 => ?_
  have hr : E[i]? = some (E[i]'(by rw [← a.len]; exact h1)) := List.getElem?_eq_getElem _
  obtain ⟨_, x2, x3⟩ := a.row i _ _ (List.getElem?_eq_getElem h1) hr
  obtain ⟨_, y2, y3⟩ := b.row i _ _ (List.getElem?_eq_getElem h2) hr
  rcases Nat.lt_trichotomy ds[i] es[i] with h | h | h
  · have := y2 _ h; omega
  · exact h
  · have := x2 _ h; omega
theorem DualR.of {n M : Nat} {cs ds : List Nat} {R E P D D' : List (List Int)} {scale : Int} {V : Hn.Vc → Prop} (eR : Hn.EchR n cs R) (hM : 1 ≤ M) (hR : ∀ r ∈ R, Hn.bnd M (Hn.fv r)) (hE : Hn.Hnf n (Hn.VanP n R) E) (eE : Hn.EchR n ds E)
    (hP : Hn.Hnf (Hn.cpl n ds).length (Hn.Sp (Hn.RL (R.map (Hn.prjL (Hn.cpl n ds))))) P) (dP : DualOf (Hn.cpl n ds).length P scale D) (hD : Hn.Hnf (Hn.cpl n ds).length V D) (Dl : D.length = (Hn.cpl n ds).length) (sp : Hn.Sprd n (Hn.cpl n ds) D D') : DualR n R E scale D' := by
  have asc := Hn.cpl_asc (n := n) (ds := ds)
  have lt : ∀ c ∈ Hn.cpl n ds, c < n := fun c hc => (Hn.cpl_mem.mp hc).1
  obtain ⟨rk1, rk2⟩ := Hn.van_rank eR hM hR hE eE
  have rl : ∀ r ∈ R, r.length = n := fun r hr => by
    obtain ⟨i, hi⟩ := List.mem_iff_getElem?.mp hr
    have : i < cs.length := by rw [eR.len]; exact (List.getElem?_eq_some_iff.mp hi).1
    exact (eR.row i _ r (List.getElem?_eq_getElem this) hi).1
  have out : ∀ v, Hn.Sp (Hn.RL R) v → ∀ j, n ≤ j → v j = 0 := fun v hv j hj => hv.at0 fun u ⟨r, hr, e⟩ => by rw [e]; exact Hn.fv_out (by rw [rl r hr]; exact hj)
  have van : ∀ v, Hn.Sp (Hn.RL R) v → ∀ e ∈ E, Hn.dv n (Hn.fv e) v = 0 := fun v hv e he => by
    have hvr := (hE.span _).mpr (.of ⟨e, he, rfl⟩)
    induction hv with
    | zero => exact Hn.sm_zero fun i _ => by simp
    | @add u w k hu _ ih =>
      obtain ⟨q, hq, rfl⟩ := hu
      rw [Hn.dv_comb, ih, Hn.dv_comm, hvr.2 q hq]; simp
  have dvd : ∀ d' ∈ D', ∃ d ∈ D, ∀ v, Hn.dv n (Hn.fv d') v = Hn.dv (Hn.cpl n ds).length (Hn.fv d) (Hn.prjV (Hn.cpl n ds) v) := fun d' hd' => by
    obtain ⟨d, hd, _, a, b⟩ := sp.get hd'
    exact ⟨d, hd, fun v => Hn.dv_prjV asc lt a fun c _ hc => b c hc⟩
  have dvd2 : ∀ d ∈ D, ∃ d' ∈ D', ∀ v, Hn.dv n (Hn.fv d') v = Hn.dv (Hn.cpl n ds).length (Hn.fv d) (Hn.prjV (Hn.cpl n ds) v) := fun d hd => by
    obtain ⟨d', hd', _, a, b⟩ := sp.got hd
    exact ⟨d', hd', fun v => Hn.dv_prjV asc lt a fun c _ hc => b c hc⟩
  have po : ∀ v, ∀ j, (Hn.cpl n ds).length ≤ j → Hn.prjV (Hn.cpl n ds) v j = 0 := fun v j hj => Hn.prjV_out hj
  refine ⟨hE, dP.pos, fun v hv => ⟨fun h => ⟨van v h, fun d' hd' => ?_⟩, fun ⟨h1, h2⟩ => ?_⟩, fun c h1 h2 => ?_, rk1, by rw [sp.len, Dl, rk2], sp.hnf asc lt hD, fun es ee d' hd' c hc => ?_, fun u q q0 hu hc hr => ?_⟩
  · obtain ⟨d, hd, e⟩ := dvd d' hd'
    rw [e]
    exact (dP.lat _ (po v)).mp ((hP.span _).mp (Hn.prj_sp h)) d hd
  · have h3 : Hn.Sp (Hn.RL P) (Hn.prjV (Hn.cpl n ds) v) := (dP.lat _ (po v)).mpr fun d hd => by
      obtain ⟨d', hd', e⟩ := dvd2 d hd
      rw [← e]
      exact h2 d' hd'
    obtain ⟨w, hw, ew⟩ := Hn.prj_back ((hP.span _).mpr h3)
    have := Hn.pin_cols eE (w := fun j => v j - w j) (fun r hr => ?_) (fun j hj => ?_) (fun c hc => ?_)
    · exact hw.cast fun j => by have := this j; omega
    · have e1 := h1 r hr
      have e2 := van w hw r hr
      have : Hn.dv n (Hn.fv r) (fun j => v j - w j) = Hn.dv n (Hn.fv r) v - Hn.dv n (Hn.fv r) w := by
        have := Hn.dv_sub (n := n) (f := Hn.fv r) (u := v) (v := w) (a := 1) (b := 1)
        simpa using this
      rw [this, e1, e2]; rfl
    · show v j - w j = 0
      rw [hv j hj, out w hw j hj]; rfl
    · show v c - w c = 0
      obtain ⟨i, hi⟩ := List.mem_iff_getElem?.mp hc
      have := congrFun ew i
      rw [Hn.prjV_at hi, Hn.prjV_at hi] at this
      omega
  · refine dP.com c h1 fun r hr j => ?_
    obtain ⟨d', hd', _, a, b⟩ := sp.got hr
    by_cases hj : j < (Hn.cpl n ds).length
    · rw [← a j _ (List.getElem?_eq_getElem hj)]; exact h2 d' hd' _
    · have : Hn.fv r j = 0 := by
        obtain ⟨i, hi⟩ := List.mem_iff_getElem?.mp hr
        obtain ⟨es, ee⟩ := hD.ech
        have il : i < es.length := by rw [ee.len]; exact (List.getElem?_eq_some_iff.mp hi).1
        exact Hn.fv_out (by rw [(ee.row i _ r (List.getElem?_eq_getElem il) hi).1]; omega)
      rw [this]; exact Int.dvd_zero _
  · obtain ⟨d, hd, _, _, b⟩ := sp.get hd'
    exact b c fun hm => (Hn.cpl_mem.mp hm).2 (echR_uniq ee eE ▸ hc)
  · have u0 := hc ds eE
    have key : ∀ y, Hn.dv n u y = Hn.dv (Hn.cpl n ds).length (Hn.prjV (Hn.cpl n ds) u) (Hn.prjV (Hn.cpl n ds) y) := fun y => Hn.dv_prjV asc lt (fun i c hi => (Hn.prjV_at hi).symm) fun c hcn hm => u0 c (Classical.byContradiction fun hn => hm (Hn.cpl_mem.mpr ⟨hcn, hn⟩))
    obtain ⟨w, hw, ew⟩ := dP.all (Hn.prjV (Hn.cpl n ds) u) q q0 (po u) fun p hp => by
      obtain ⟨y, hy, ey⟩ := Hn.prj_back ((hP.span _).mpr (.of ⟨p, hp, rfl⟩))
      rw [← ey, ← key]
      clear ey
      induction hy with
      | zero => exact ⟨0, by rw [Int.mul_zero]; exact Hn.sm_zero fun i _ => by simp⟩
      | @add a b k ha _ ih =>
        obtain ⟨r, hr', rfl⟩ := ha
        rw [Hn.dv_comb]
        exact Int.dvd_add (Int.dvd_mul_of_dvd_right (hr r hr')) ih
    obtain ⟨w', hw', a, b⟩ := sp.sp hw
    refine ⟨w', hw', fun j => ?_⟩
    by_cases hj : j ∈ Hn.cpl n ds
    · obtain ⟨i, hi⟩ := List.mem_iff_getElem?.mp hj
      rw [a i j hi, ← ew i, Hn.prjV_at hi]
    · rw [b j hj, Int.mul_zero]
      by_cases hjn : j < n
      · rw [u0 j (Classical.byContradiction fun hn => hj (Hn.cpl_mem.mpr ⟨hjn, hn⟩)), Int.mul_zero]
      · rw [hu j (by omega), Int.mul_zero]
end Hg
set_option maxHeartbeats 4000000
namespace Hg
open PySem PySem.Spec PyProof.Rows L2
end Hg
namespace Hn
def dualS (E D : List (List Int)) (s : Nat) : List (List Int × Nat) := (E.map fun e => (e, 0)) ++ D.map fun d => (d, s)
end Hn
set_option maxHeartbeats 4000000
namespace Hg
open PySem PySem.Spec PyProof.Rows L2
/-- numbers that the way back from a dual wants -/
structure BaOk (n s a1 b1 a2 b2 c : Nat) (E D : List (List Int)) : Prop where
  eb : ∀ r ∈ E, r.length = n ∧ Hn.bnd (2 ^ a1) (Hn.fv r)
  db : ∀ r ∈ D, r.length = n ∧ Hn.bnd (2 ^ a2) (Hn.fv r)
  sl : s ≤ 2 ^ a2
  h1 : ∀ t C, t < E.length → Hn.Hnf n (Hn.LatS n ((E.take t).map fun e => (e, 0))) C → ∀ r ∈ C, Hn.bnd (2 ^ b1) (Hn.fv r)
  h2 : ∀ t C, t < D.length → Hn.Hnf n (Hn.LatS n (Hn.dualS E (D.take t) s)) C → ∀ r ∈ C, Hn.bnd (2 ^ b2) (Hn.fv r)
  c1 : a1 + b1 + 3 ≤ c
  c2 : a2 + b2 + 3 ≤ c
  lim : c < 1000000
  m : rm (1 + n) (2 ^ c)
end Hg
set_option maxHeartbeats 4000000
namespace Hg
open PySem PySem.Spec PyProof.Rows L2
end Hg
namespace Hg
open PySem PySem.Spec PyProof.Rows L2
end Hg
set_option maxHeartbeats 4000000
namespace Hn
end Hn
namespace Hg
open PySem PySem.Spec PyProof.Rows L2
theorem nos (n : Nat) : ∀ o s : Addr, (kf n o s).lookup ("size" : Str) = none := kn_no (by decide +kernel) (by decide +kernel) (by decide +kernel)
end Hg
set_option maxHeartbeats 4000000
namespace Hg
open PySem PySem.Spec PyProof.Rows L2 LamX
/-! ### the top of a law some of whose functions make lambdas: cs, their code objects and tables -/
def TopOkT (P : Program) (w : World) (K : PySem.W.Frag) (mg : Str → Option Value) (cs : List (Addr × Addr)) (k : Nat) (N : List Str) (x : Str) (st : Stmt) (fa : Addr) (ok : Addr → List Int → Hp → Prop) : Prop :=
  ∀ (cd : Value) (base : Heap) (s : Shared) (H : Hp) (a : Addr) (ns : List Int), K.In base → base.Ns mainGlobals mg → base.NoSeer → (∀ p ∈ cs, TabB base mg p.1 p.2) → Room k (callerA.deeper (topEnv st x s fa cd)) → ok a ns H → (∀ p ∈ cs, H p.2 = some (.tbl #[])) →
    ∃ t, PSs (topCx P w K mg base N x st fa cd s H).nox (defBody st) t ∧ t { nx := fun _ _ => False, rt := fun v _ => v = .bl true } (start N [.ref a]) H
/-- one run of it -/
theorem TopOkT.run {P : Program} {w : World} {K : PySem.W.Frag} {mg : Str → Option Value} {cs : List (Addr × Addr)} {k : Nat} {N : List Str} {x p : Str} {st : Stmt} {fa : Addr} {ok : Addr → List Int → Hp → Prop} (T : TopOkT P w K mg cs k N x st fa ok)
    {fd : FuncData} (F : Fun K x x st fa fd) (S : FnScope N [p] (defScope st)) (R : Room (k + 1) callerA) {base : Heap} {s : Shared} {H : Hp} {a : Addr} {ns : List Int} (e0 : Env0 P w K mg base callerA [] s H)
    (hb : BindsTo s fd ⟨[.ref a], []⟩ [(p, .ref a)]) (seer : base.NoSeer) (tb : ∀ p ∈ cs, TabB base mg p.1 p.2) (q : ok a ns H) (ht : ∀ p ∈ cs, H p.2 = some (.tbl #[])) :
    codeAny (model P w) callerA (.call (.ref fa) ⟨[.ref a], []⟩) (fun r s' => ∃ H', r = .ok (.ret (.bool true)) ∧ s'.os = s.os ∧ AllBare s'.gens ∧ Un [] [] H H' s.heap s'.heap ∧ HOk P w H' s'.heap) s := by
  obtain ⟨oc, od, kV, doc, pm, an, cd, ct, osl, efd, look, code⟩ := F.ex
  subst efd
  have stays : ∀ b o, base.get? b = some o → s.heap.get? b = some o := fun b o e => (e0.bs b o e).1
  have inS : K.In s.heap := e0.mod.kin.keeps stays
  have kinds : ∀ y ∈ [p].zip [Value.ref a], (defScope st).names.lookup y.1 = some .local ∨ ((defScope st).names.lookup y.1 = some .cell ∧ ((cellsFrom (s.heap.objs.size + 1) (defScope st).names []).lookup y.1).isSome = true) := by
    intro y hy
    have ey : y = (p, Value.ref a) := by simpa using hy
    subst ey
    exact (S.par p (by simp)).imp id fun c => ⟨c, PySem.W.cellsFrom_some _ _ _ (.inl c)⟩
  refine codeAny_call_function R.depth (inS _ _ look) rfl S.co S.gen rfl (PySem.W.codeRec_of inS code) (hb _ _ _ _ (wpAny_newFunctionEnv_cells S.kind kinds ?_))
  rintro _ rfl s2 entered
  refine ⟨(e0.mod.nolimit.keeps stays).keeps entered.toInCall.keep, codeAny_func ?_⟩
  obtain ⟨t, ht, hq⟩ := T cd base s H a ns e0.mod.kin e0.mod.glob seer tb (R.deeper _) q ht
  have start1 := inv_start (CX := CX0) (E := E0) (us := [.ref a]) (vs := [.ref a]) S R.hd e0 rfl (.cons rfl .nil) entered
  refine wpAny_mono (ht.nox.run [] s2 _ H _ start1 hq) (fun fl s' z => ?_) fun e s' z => ?_
  · rcases fl with _ | _ | _ | u
    · obtain ⟨_, _, _, z⟩ := z
      exact z.elim
    · obtain ⟨_, _, _, z⟩ := z
      exact z.elim
    · obtain ⟨_, _, _, z⟩ := z
      exact z.elim
    · obtain ⟨v, σ', H', J, rv, ev⟩ := z
      subst ev
      cases (show u = Value.bool true from rv)
      exact ⟨H', rfl, J.os, J.bare, J.base, J.hok⟩
  · exact wpAny_mono z (fun _ _ n => (n : False).elim) fun _ _ n => (n : False).elim
/-- at the heap behind the top -/
theorem TopOkT.call {P : Program} {w : World} {K : PySem.W.Frag} {mg mb : Str → Option Value} {cs : List (Addr × Addr)} {k : Nat} {N : List Str} {x p : Str} {st : Stmt} {fa a : Addr} {fd : FuncData} {s : Shared} {vs : List Value} {ns : List Int} {ok : Addr → List Int → Hp → Prop}
    (T : TopOkT P w K mg cs k N x st fa ok) (F : Fun K x x st fa fd) (S : FnScope N [p] (defScope st)) (R : Room (k + 1) callerA)
    (inS : K.In s.heap) (gl : s.heap.Ns mainGlobals mg) (bl : s.heap.Ns builtinsNs mb) (boot : ∀ y : Str, y ≠ "__name__" → mb y = bootBuiltins y) (nl : s.heap.NoLimit) (seer : s.heap.NoSeer) (gens : s.gens = #[])
    (ha : s.heap.get? a = some { cls := .type "list", data := .seq vs.toArray }) (iv : IntsAre vs ns) (len : ns.length ≤ sizeLine) (bind : ∀ (s : Shared) (u : Value), BindsTo s fd ⟨[u], []⟩ [(p, u)])
    (hT : ∀ p ∈ cs, s.heap.get? p.2 = some { cls := .none, data := .fields #[] }) (nT : ∀ p ∈ cs, K.lookup p.2 = none) (C : ∀ p ∈ cs, PySem.W.CodeHd s.heap p.1 p.2)
    (hbm : ∃ (bm : Addr) (ob : Obj), mg "__builtins__" = some (.ref bm) ∧ bm ≠ builtinsNs ∧ s.heap.get? bm = some ob ∧ ob.cls = .type "module" ∧ ob.dict = some builtinsNs ∧ ob.data = .plain)
    (good : ∀ H : Hp, SqL K H a (ns.map V.int) → ok a ns H) :
    codeAny (model P w) callerA (.call (.ref fa) ⟨[.ref a], []⟩) (fun r s' => r = .ok (.ret (.bool true)) ∧ OldK s.heap s'.heap ∧ s'.os = s.os ∧ AllBare s'.gens) s := by
  have rel := vals_ints iv
  have isT : ∀ b : Addr, b ∈ cs.map (·.2) → s.heap.get? b = some { cls := .none, data := .fields #[] } := fun b hb => by
    obtain ⟨p, hp, e⟩ := List.mem_map.mp hb
    rw [← e]
    exact hT p hp
  have aT : a ∉ cs.map (·.2) := fun z => by
    have q := isT a z
    rw [ha] at q
    have z' : Data.seq vs.toArray _ = Data.fields #[] := congrArg Obj.data (Option.some.inj q)
    cases z'
  have memT : ∀ p ∈ cs, p.2 ∈ cs.map (·.2) := fun p hp => List.mem_map.mpr ⟨p, hp, rfl⟩
  have go : ∀ H : Hp, (∀ b u, H b = some u → (b = a ∧ u = .frz { cls := .type "list", data := .seq vs.toArray } (.lst (ns.map V.int)) ∧ K.lookup a = none) ∨ (b ∈ cs.map (·.2) ∧ u = .tbl #[])) → (∀ p ∈ cs, H p.2 = some (.tbl #[])) → SqL K H a (ns.map V.int) →
      codeAny (model P w) callerA (.call (.ref fa) ⟨[.ref a], []⟩) (fun r s' => r = .ok (.ret (.bool true)) ∧ OldK s.heap s'.heap ∧ s'.os = s.os ∧ AllBare s'.gens) s := by
    intro H only hH seq
    have hok : HOk P w H s.heap := by
      intro b u z
      rcases only b u z with ⟨rfl, rfl, _⟩ | ⟨hb, rfl⟩
      · exact ⟨ha, by rw [List.length_map]; exact len, vs, _, rel, ha⟩
      · exact isT b hb
    have noD : ∀ {b : Addr} {o : Obj}, s.heap.get? b = some o → (∀ vs n, o.data ≠ .seq vs n) → o.data ≠ .fields #[] → H b = none := fun {b o} e h1 h2 => by
      cases z : H b with
      | none => rfl
      | some u =>
        rcases only b u z with ⟨rfl, _, _⟩ | ⟨hb, _⟩
        · rw [ha] at e
          cases e
          exact (h1 _ _ rfl).elim
        · rw [isT b hb] at e
          cases e
          exact (h2 rfl).elim
    have noDict : ∀ {b : Addr} {o : Obj} {es : Array DictEntry} {n : Nat}, s.heap.get? b = some o → o.data = .dict es n → H b = none := by
      intro b o es n e d
      refine noD e (fun vs n z => ?_) fun z => ?_
      · rw [d] at z
        cases z
      · rw [d] at z
        cases z
    have names : ∀ {b : Addr} {m : Str → Option Value}, s.heap.Ns b m → (hidT s.heap H).Ns b m := by
      rintro b m ⟨o, es, n, e, d, rest⟩
      exact ⟨o, es, n, hidT_get e (noDict e d), d, rest⟩
    have inB : K.In (hidT s.heap H) := by
      intro b o e
      refine hidT_get (inS b o e) ?_
      cases z : H b with
      | none => rfl
      | some u =>
        rcases only b u z with ⟨rfl, _, z'⟩ | ⟨hb, _⟩
        · rw [z'] at e
          cases e
        · obtain ⟨p, hp, ep⟩ := List.mem_map.mp hb
          rw [← ep, nT p hp] at e
          cases e
    obtain ⟨ml, l1, l2⟩ := nl
    have noMod : ∀ {bm : Addr} {ob : Obj}, s.heap.get? bm = some ob → ob.cls = .type "module" → H bm = none := fun {bm ob} x3 x4 => by
      cases z : H bm with
      | none => rfl
      | some u =>
        rcases only bm u z with ⟨rfl, _, _⟩ | ⟨hb, _⟩
        · rw [ha] at x3
          cases x3
          simp at x4
        · rw [isT bm hb] at x3
          cases x3
          cases x4
    have seerB : (hidT s.heap H).NoSeer := by
      refine ⟨(let ⟨mc, a, b⟩ := seer.statics; ⟨mc, names a, b⟩), (let ⟨mc, a, b⟩ := seer.mods; ⟨mc, names a, b⟩), (let ⟨mc, a, b⟩ := seer.imp; ⟨mc, names a, b⟩), ?_⟩
      obtain ⟨mg', bm, ob, x1, x2, x3, x4, x5⟩ := seer.main
      exact ⟨mg', bm, ob, names x1, x2, hidT_get x3 (noMod x3 x4), x4, x5⟩
    have TB : ∀ p ∈ cs, TabB (hidT s.heap H) mg p.1 p.2 := fun p hp => by
      have hTp := hT p hp
      refine ⟨?_, ?_, fun z => ?_⟩
      · obtain ⟨o, us, file, tf, flags, tg, inF, text, tt, e1, r1, r2, r3, r4, r5, r6, r7, r8, hne⟩ := C p hp
        refine ⟨o, us, file, tf, flags, tg, inF, text, tt, hidT_get e1 (noD e1 (fun vs n z => ?_) fun z => ?_), r1, r2, r3, r4, r5, r6, r7, r8, hne⟩
        · rw [r2] at z
          cases z
        · rw [r2] at z
          cases z
          simp at r3
      · obtain ⟨bm, ob, b1, b2, b3, b4, b5, b6⟩ := hbm
        have nG : bm ≠ mainGlobals := fun q => by
          obtain ⟨o, es, ep, e, hd, _⟩ := gl
          rw [q, e] at b3
          cases b3
          rw [hd] at b6
          cases b6
        have nP : bm ≠ p.2 := fun q => by
          rw [q, hTp] at b3
          cases b3
          cases b6
        exact ⟨bm, ob, b1, b2, nG, nP, hidT_get b3 (noMod b3 b4), b4, b5, b6⟩
      · obtain ⟨o, es, ep, e, hd, _⟩ := gl
        rw [z, hTp] at e
        cases e
        cases hd
    have e0 : Env0 P w K mg (hidT s.heap H) callerA [] s H :=
      { frames := rfl, mod := ⟨inB, names gl, ⟨mb, names bl, boot⟩, ml, names l1, l2⟩, bs := fun b o e => of_hidT e, bsz := by rw [hidT_size]; exact Nat.le_refl _, funs := trivial,
        frf := fun b z => absurd (show b ∈ ([] : List Addr) from z) (by simp), hok := hok, bare := .of_eq gens }
    refine codeAny_mono (T.run F S R e0 (bind s (.ref a)) seerB TB (good H seq) hH) ?_
    rintro r s' ⟨H', rfl, eos, bare, un, hok'⟩
    have key : ∀ b o, b ∉ cs.map (·.2) → s.heap.get? b = some o → s'.heap.get? b = some o := fun b o nb e => by
      cases z : H b with
      | none => exact un.keep b o e z (by simp) (by simp)
      | some u =>
        rcases only b u z with ⟨rfl, rfl, _⟩ | ⟨hb, _⟩
        · obtain ⟨g, _⟩ := hok' b _ (un.frzs b _ _ z)
          rw [ha] at e
          cases e
          exact g
        · exact absurd hb nb
    have grown : ∀ p ∈ cs, ∃ more : Array Value, s'.heap.get? p.2 = some { cls := .none, data := .fields more } := fun p hp => by
      obtain ⟨more, z⟩ := un.tbls p.2 #[] (hH p hp)
      exact ⟨_, hok' p.2 _ z⟩
    refine ⟨rfl, ⟨fun b o e => ?_, fun b o e => ?_⟩, eos, bare⟩
    · by_cases hb : b ∈ cs.map (·.2)
      · obtain ⟨p, hp, ep⟩ := List.mem_map.mp hb
        obtain ⟨more, hm⟩ := grown p hp
        rw [← ep] at e ⊢
        rw [hT p hp] at e
        cases e
        exact .inr (.inl ⟨((C p hp).tab (hT p hp)).isCodeTable, rfl, #[], more, rfl, by rw [Array.empty_append]; exact hm⟩)
      · exact .inl (key b o hb e)
    · by_cases hb : b ∈ cs.map (·.2)
      · obtain ⟨p, hp, ep⟩ := List.mem_map.mp hb
        obtain ⟨more, hm⟩ := grown p hp
        rw [← ep]
        exact ⟨_, hm⟩
      · exact ⟨o, key b o hb e⟩
  cases look : K.lookup a with
  | some o =>
    have e := inS a o look
    rw [ha] at e
    cases e
    refine go (fun b => if b ∈ cs.map (·.2) then some (.tbl #[]) else none) (fun b u z => ?_) (fun p hp => if_pos (memT p hp)) (.inr ⟨_, vs.toArray, _, look, rfl, rfl, rfl, by rw [List.size_toArray, iv.length]; exact len, by simpa using rel⟩)
    by_cases hb : b ∈ cs.map (·.2)
    · rw [if_pos hb] at z
      cases z
      exact .inr ⟨hb, rfl⟩
    · rw [if_neg hb] at z
      cases z
  | none =>
    refine go (fun b => if b = a then some (.frz { cls := .type "list", data := .seq vs.toArray } (.lst (ns.map V.int))) else if b ∈ cs.map (·.2) then some (.tbl #[]) else none) (fun b u z => ?_) (fun p hp => (if_neg (show ¬ p.2 = a from fun z => aT (by rw [← z]; exact memT p hp))).trans (if_pos (memT p hp))) (.inl (.inr ⟨_, if_pos rfl⟩))
    by_cases e : b = a
    · rw [if_pos e] at z
      cases z
      exact .inl ⟨e, rfl, look⟩
    · rw [if_neg e] at z
      by_cases hb : b ∈ cs.map (·.2)
      · rw [if_pos hb] at z
        cases z
        exact .inr ⟨hb, rfl⟩
      · rw [if_neg hb] at z
        cases z
/-- what the head tells of a def: its code object and that one's table -/
def DefTab (mg : Str → Option Value) (h : Heap) (x : Str) : Prop := ∃ (f : Addr) (o : Obj) (fd : FuncData) (c P : Addr), mg x = some (.ref f) ∧ h.get? f = some o ∧ o.data = .func fd ∧ fd.code = .ref c ∧ PySem.W.CodeHd h c P ∧ h.get? P = some { cls := .none, data := .fields #[] }
/-- the row's walk -/
theorem top_walkT {l : PySem.W.OpenLaw} {n k : Nat} {q : Program} {loose : List Str} {XP : (Str → Option Value) → Heap → Prop} {YP : World → Heap → Prop} {d : DefRec} {K : Params → PySem.W.Frag} {N : List Str} {p : Str} {st : Stmt} {ok : PySem.W.Frag → Addr → List Int → Hp → Prop} {names : List Str}
    (hi : importsNone q = true) (hn : l.most = some n) (hn2 : n ≤ sizeLine) (hdf : d.params.defaults = []) (S : FnScope N [p] (defScope st)) (R : Room (k + 1) callerA) (hrec : ∀ x ∈ names, ((recsOf q).any fun e => e.name == x) = true) (hY : ∀ (w : World) (h : Heap), YP w h → (K w.params).In h)
    (F : ∀ (w : World) (mg : Str → Option Value) (fa : Addr) (h : Heap), (K w.params).In h → h.Ns mainGlobals mg → mg d.name = some (.ref fa) → (∀ x ∈ names, DefTab mg h x) →
      ∃ (fd : FuncData) (cs : List (Addr × Addr)), (∀ (s : Shared) (u : Value), BindsTo s fd ⟨[u], []⟩ [(p, u)]) ∧ Fun (K w.params) d.name d.name st fa fd ∧ (∀ p ∈ cs, h.get? p.2 = some { cls := .none, data := .fields #[] }) ∧ (∀ p ∈ cs, (K w.params).lookup p.2 = none) ∧ (∀ p ∈ cs, PySem.W.CodeHd h p.1 p.2) ∧ TopOkT l.prog w (K w.params) mg cs k N d.name st fa (ok (K w.params)))
    (good : ∀ (K : PySem.W.Frag) (H : Hp) (a : Addr) (ns : List Int), ns.length ≤ n → SqL K H a (ns.map V.int) → ok K a ns H) :
    PySem.W.WalkO q loose XP YP l.row.toRowW d [] (fun f vs => PySem.call f vs) := by
  refine Att.attach_call hn hdf ?_
  intro w s₀ s mg mb fa o pm cd doc a vs ns G Y _ _ _ name obj iv len gens
  have inS := hY w _ Y
  obtain ⟨fd, cs, bind, fn, hT, nT, C, T⟩ := F w mg fa _ inS G.T.g name fun x hx => by
    obtain ⟨dL, hm, hn1⟩ := List.any_eq_true.mp (hrec x hx)
    have hn2 : dL.name = x := beq_iff_eq.mp hn1
    obtain ⟨a', o', fd', c', P', h1, h2, h3, h4, h5, h6⟩ := G.T.tab dL hm
    rw [hn2] at h1
    exact ⟨a', o', fd', c', P', h1, h2, h3, h4, .of h5 h6, h6.2⟩
  exact T.call fn S R inS G.T.g G.T.b G.T.builtins G.T.nolimit (G.T.seer hi) gens obj iv (Nat.le_trans len hn2) bind hT nT C G.T.bmain fun H q => good _ H a ns len q
/-- a def of the written part, and what the head tells of it -/
theorem DefTab.of {K : PySem.W.Frag} {mg : Str → Option Value} {h : Heap} {x : Str} {f c P : Addr} {fd : FuncData} {e oc : Value} {dd od : Option Addr} {vs : Array Value} {sl osl : Array (Option Value)} (D : DefTab mg h x) (KX : K.In h) (hm : mg x = some (.ref f)) (lk : K.lookup f = some ⟨oc, od, .func fd, osl⟩) (hc : fd.code = .ref c)
    (kc : K.lookup c = some ⟨e, dd, .fields vs, sl⟩) (hv : vs[11]? = some (.ref P)) : h.get? P = some { cls := .none, data := .fields #[] } ∧ PySem.W.CodeHd h c P := by
  obtain ⟨f', o', fd', c', P', h1, h2, h3, h4, h5, h6⟩ := D
  rw [hm] at h1
  cases h1
  rw [KX _ _ lk] at h2
  cases h2
  cases h3
  rw [hc] at h4
  cases h4
  obtain ⟨o2, us, file, tf, flags, tg, inF, text, tt, e1, r1, r2, r3, rest⟩ := id h5
  rw [KX _ _ kc] at e1
  cases e1
  cases r2
  rw [hv] at r3
  cases r3
  exact ⟨h6, h5⟩
end Hg
set_option maxHeartbeats 2000000
namespace Hg
open PySem PySem.Spec PyProof.Rows L2
/-! the two lambdas of k20's _law_sizes_differ -/
end Hg
set_option maxHeartbeats 4000000
namespace K49
open PySem PySem.Spec PyProof.Rows L2 Hg
section
variable {P : Program} {w : World} {K : PySem.W.Frag} {mg : Str → Option Value} {base : Heap}
open Tk
theorem ok__letters {f : Addr} {fd : FuncData} (F : DefK K mg "_letters" st__letters ["text", "start"] f fd) (Z : Zs mg) (CG : CGs K mg) {f__run_end : Addr} {fd__run_end : FuncData} (D__run_end : DefK K mg "_run_end" st__run_end ["text", "start", "characters"] f__run_end fd__run_end) (G__run_end : FnOk P w K mg base CX0 1 f__run_end fd__run_end ["text", "start", "characters"] (sp__run_end K)) {CN fN cN kN : Addr} {fdN : FuncData} (T : OwnC P K mg "QuerySyntax" nf_QuerySyntax "QuerySyntax.__init__" CN fN cN kN fdN ["self", "position"]) (hns : PySem.W.nsIn K mainGlobals "QuerySyntax" = some (some (.ref CN))) (GI : FnOk P w K mg base CX0 2 fN fdN ["self", "position"] (sp_ini CN ["position"] K)) :
    FnOk P w K mg base (L2.CX P w) 4 f fd ["text", "start"] (sp__lettersX K) := by
  refine F.fn.okX sc__letters (fun vs H Q E h => by first | exact listedM_len h | (obtain ⟨rfl, _⟩ := h; rfl) | (obtain ⟨_, rfl, _⟩ := h; rfl) | (obtain ⟨_, _, rfl, _⟩ := h; rfl) | (obtain ⟨_, _, _, rfl, _⟩ := h; rfl) | (obtain ⟨_, _, _, _, rfl, _⟩ := h; rfl) | (obtain ⟨_, _, _, _, _, rfl, _⟩ := h; rfl) | (obtain ⟨_, _, _, _, _, _, rfl, _⟩ := h; rfl) | (obtain ⟨_, _, _, _, _, _, _, rfl, _⟩ := h; rfl) | (obtain ⟨_, _, _, _, _, _, _, _, rfl, _⟩ := h; rfl) | (obtain ⟨_, _, _, _, _, _, _, _, _, rfl, _⟩ := h; rfl) | (obtain ⟨_, _, _, _, _, _, _, _, _, _, rfl, _⟩ := h; rfl) | (obtain ⟨_, _, _, _, _, _, _, _, _, _, _, rfl, _⟩ := h; rfl) | (obtain ⟨_, _, _, _, _, _, _, _, _, _, _, _, rfl, _⟩ := h; rfl) | (obtain ⟨_, _, _, _, _, _, _, _, _, _, _, _, _, rfl, _⟩ := h; rfl) | (obtain ⟨_, _, _, _, _, _, _, _, _, _, _, _, _, _, rfl, _⟩ := h; rfl) | (obtain ⟨_, _, _, _, _, _, _, _, _, _, _, _, _, _, _, rfl, _⟩ := h; rfl) | (obtain ⟨_, _, _, _, _, _, _, _, _, _, _, _, _, _, _, _, rfl, _⟩ := h; rfl) | (obtain ⟨_, _, _, _, _, _, _, _, _, _, _, _, _, _, _, _, _, rfl, _⟩ := h; rfl) | (obtain ⟨_, _, _, _, _, _, _, _, _, _, _, _, _, _, _, _, _, _, rfl, _⟩ := h; rfl) | (obtain ⟨_, _, _, _, _, _, _, _, _, _, _, _, _, _, _, _, _, _, _, rfl, _⟩ := h; rfl) | (obtain ⟨_, _, _, _, _, _, _, _, _, _, _, _, _, _, _, _, _, _, _, _, rfl, _⟩ := h; rfl) | (obtain ⟨_, _, _, _, _, _, _, _, _, _, _, _, _, _, _, _, _, _, _, _, _, rfl, _⟩ := h; rfl) | (obtain ⟨_, _, _, _, _, _, _, _, _, _, _, _, _, _, _, _, _, _, _, _, _, _, rfl, _⟩ := h; rfl) | (obtain ⟨_, _, _, _, _, _, _, _, _, _, _, _, _, _, _, _, _, _, _, _, _, _, _, rfl, _⟩ := h; rfl)) (fun cdv A outer s H vs Q E hr h => ?_)
  obtain ⟨T', i, rfl, hl, hi, kq, ke⟩ := h
  refine ⟨_, (pss_cons (ps_set (i := 2) sc__letters.nd rfl (.inl rfl) (pe_call G__run_end (hr.mono (by decide)) rfl D__run_end.mg D__run_end.fn.kp D__run_end.bd .nil pass0 (pa_cons (pv 0) (pa_cons (pv 1) (pa_cons (pe_glob (v := c_NAME_CHARACTERS) rfl CG.NAME_CHARACTERS_ ⟨_, rfl⟩) pa_nil)))))
      (pss_cons (ps_set (i := 3) sc__letters.nd rfl (.inl rfl) (pe_slice kSlS (pv 0) (po_some (pv 1)) (po_some (pv 2))))
      (pss_cons (ps_if (pt_cmpR op_gt (pe_callB call_len_str (by rfl) Z.len_ PyProof.Rows.Boot.«len» (pa_cons (pv 3) pa_nil)) (pe_glob (v := c_LONGEST) rfl CG.LONGEST_ ⟨_, rfl⟩) (nomark _)) (pss_one (ps_raise rfl (takes_of rfl rfl rfl rfl) (pmk_oex T.err.oex T.iC T.tI GI (hr.mono (by decide)) T.bd .nil pass0 rfl T.mg (pa_cons (pv 1) pa_nil)))) pss_nil)
      (pss_cons (ps_set (i := 4) sc__letters.nd rfl (.inl rfl) (pe_ifExp (pt_cmpR (kIn (K := K)) (pv 3) (pe_glob (v := .ref CG.RESERVED_a) rfl CG.RESERVED_ rfl) (by rfl)) pe_str pe_str))
      (pss_one (ps_ret (pe_tup (pa_cons (pv 4) (pa_cons (pv 3) (pa_cons (pv 2) pa_nil)))))))))), ?_⟩
  have hrl := runN_le NCH (T'.drop i)
  rw [List.length_drop] at hrl
  have htk : ((T'.drop i).take (i + runN NCH (T'.drop i) - i)) = (T'.drop i).take (runN NCH (T'.drop i)) := by rw [Nat.add_sub_cancel_left]
  unfold tokL at kq ke
  refine ⟨_, rfl, _, rfl, T', NCH, i, rfl, hl, by omega, ?_⟩
  refine ⟨_, rfl, _, rfl, _, rfl, _, rfl, _, rfl, sl_s (by omega) ?_⟩
  rw [htk]
  refine ⟨_, rfl, _, rfl, by rw [tx_len, sizeLine_eq, List.length_take]; omega, _, _, rfl, rfl, _, rfl, iteD (fun c => ?_) fun c => ?_⟩
  · rw [tx_len, List.length_take, List.length_drop] at c
    have c' : 12 < runN NCH (T'.drop i) := by omega
    rw [if_pos c'] at ke
    exact ⟨_, rfl, mkD1 (.int _) (by simp [wk]) fun dx2 H2 v' e2 hd2 t => ke rfl dx2 H2 v' CN hns e2 hd2 t⟩
  rw [tx_len, List.length_take, List.length_drop] at c
  have c' : ¬ 12 < runN NCH (T'.drop i) := by omega
  rw [if_neg c'] at kq
  refine ⟨_, rfl, ?_⟩
  dsimp only [tC]
  refine in_l (ls := RES) (.inr (CG.RESERVED_q _)) ⟨_, rfl, iteD (fun r => ?_) fun r => ?_⟩
  · rw [if_pos r] at kq
    exact ⟨_, rfl, _, rfl, _, rfl, by show 3 ≤ sizeLine; decide, fun p hp => kq _ _ _ rfl _ p (Ex.new hp) hp upd_same⟩
  · rw [if_neg r] at kq
    exact ⟨_, rfl, _, rfl, _, rfl, by show 3 ≤ sizeLine; decide, fun p hp => kq _ _ _ rfl _ p (Ex.new hp) hp upd_same⟩
theorem ok__digits {f : Addr} {fd : FuncData} (F : DefK K mg "_digits" st__digits ["text", "start"] f fd) (Z : Zs mg) (CG : CGs K mg) {f__run_end : Addr} {fd__run_end : FuncData} (D__run_end : DefK K mg "_run_end" st__run_end ["text", "start", "characters"] f__run_end fd__run_end) (G__run_end : FnOk P w K mg base CX0 1 f__run_end fd__run_end ["text", "start", "characters"] (sp__run_end K)) {CN fN cN kN : Addr} {fdN : FuncData} (T : OwnC P K mg "QuerySyntax" nf_QuerySyntax "QuerySyntax.__init__" CN fN cN kN fdN ["self", "position"]) (hns : PySem.W.nsIn K mainGlobals "QuerySyntax" = some (some (.ref CN))) (GI : FnOk P w K mg base CX0 2 fN fdN ["self", "position"] (sp_ini CN ["position"] K)) :
    FnOk P w K mg base (L2.CX P w) 4 f fd ["text", "start"] (sp__digitsX K) := by
  refine F.fn.okX sc__digits (fun vs H Q E h => by first | exact listedM_len h | (obtain ⟨rfl, _⟩ := h; rfl) | (obtain ⟨_, rfl, _⟩ := h; rfl) | (obtain ⟨_, _, rfl, _⟩ := h; rfl) | (obtain ⟨_, _, _, rfl, _⟩ := h; rfl) | (obtain ⟨_, _, _, _, rfl, _⟩ := h; rfl) | (obtain ⟨_, _, _, _, _, rfl, _⟩ := h; rfl) | (obtain ⟨_, _, _, _, _, _, rfl, _⟩ := h; rfl) | (obtain ⟨_, _, _, _, _, _, _, rfl, _⟩ := h; rfl) | (obtain ⟨_, _, _, _, _, _, _, _, rfl, _⟩ := h; rfl) | (obtain ⟨_, _, _, _, _, _, _, _, _, rfl, _⟩ := h; rfl) | (obtain ⟨_, _, _, _, _, _, _, _, _, _, rfl, _⟩ := h; rfl) | (obtain ⟨_, _, _, _, _, _, _, _, _, _, _, rfl, _⟩ := h; rfl) | (obtain ⟨_, _, _, _, _, _, _, _, _, _, _, _, rfl, _⟩ := h; rfl) | (obtain ⟨_, _, _, _, _, _, _, _, _, _, _, _, _, rfl, _⟩ := h; rfl) | (obtain ⟨_, _, _, _, _, _, _, _, _, _, _, _, _, _, rfl, _⟩ := h; rfl) | (obtain ⟨_, _, _, _, _, _, _, _, _, _, _, _, _, _, _, rfl, _⟩ := h; rfl) | (obtain ⟨_, _, _, _, _, _, _, _, _, _, _, _, _, _, _, _, rfl, _⟩ := h; rfl) | (obtain ⟨_, _, _, _, _, _, _, _, _, _, _, _, _, _, _, _, _, rfl, _⟩ := h; rfl) | (obtain ⟨_, _, _, _, _, _, _, _, _, _, _, _, _, _, _, _, _, _, rfl, _⟩ := h; rfl) | (obtain ⟨_, _, _, _, _, _, _, _, _, _, _, _, _, _, _, _, _, _, _, rfl, _⟩ := h; rfl) | (obtain ⟨_, _, _, _, _, _, _, _, _, _, _, _, _, _, _, _, _, _, _, _, rfl, _⟩ := h; rfl) | (obtain ⟨_, _, _, _, _, _, _, _, _, _, _, _, _, _, _, _, _, _, _, _, _, rfl, _⟩ := h; rfl) | (obtain ⟨_, _, _, _, _, _, _, _, _, _, _, _, _, _, _, _, _, _, _, _, _, _, rfl, _⟩ := h; rfl) | (obtain ⟨_, _, _, _, _, _, _, _, _, _, _, _, _, _, _, _, _, _, _, _, _, _, _, rfl, _⟩ := h; rfl)) (fun cdv A outer s H vs Q E hr h => ?_)
  obtain ⟨⟨T', i, rfl, hl, hi, kq, ke⟩, T2, i2, ch, e2, hch, hdg⟩ := h
  obtain ⟨rfl, rfl⟩ : T' = T2 ∧ i = i2 := by
    have h1 := List.cons.inj e2
    have h2 := List.cons.inj h1.2
    exact ⟨tx_inj (V.str.inj h1.1), by have := V.int.inj h2.1; omega⟩
  clear e2
  refine ⟨_, (pss_cons (ps_set (i := 2) sc__digits.nd rfl (.inl rfl) (pe_call G__run_end (hr.mono (by decide)) rfl D__run_end.mg D__run_end.fn.kp D__run_end.bd .nil pass0 (pa_cons (pv 0) (pa_cons (pv 1) (pa_cons (pe_glob (v := c_DIGITS) rfl CG.DIGITS_ ⟨_, rfl⟩) pa_nil)))))
      (pss_cons (ps_set (i := 3) sc__digits.nd rfl (.inl rfl) (pe_op op_sub (pv 2) (pv 1)))
      (pss_cons (ps_if (PW.pt (pw_or (pt_cmpR op_gt (pv 3) (pe_glob (v := c_MOST_DIGITS) rfl CG.MOST_DIGITS_ ⟨_, rfl⟩) (nomark _)) (pw_or1 (PW.pt (pw_and (pt_cmpR op_gt (pv 3) pe_int (nomark _)) (pw_and1 (pt_cmpR (kEq (K := K) hr.units) (pe_ix (kIx (K := K)) (pv 0) (pv 1) (fun _ _ => rfl)) pe_str (nomark _)))))))) (pss_one (ps_raise rfl (takes_of rfl rfl rfl rfl) (pmk_oex T.err.oex T.iC T.tI GI (hr.mono (by decide)) T.bd .nil pass0 rfl T.mg (pa_cons (pv 1) pa_nil)))) pss_nil)
      (pss_one (ps_ret (pe_tup (pa_cons pe_str (pa_cons (pe_callTy call_int_str (by rfl) Z.int_ PyProof.Rows.Boot.«int» (pa_cons (pe_slice kSlS (pv 0) (po_some (pv 1)) (po_some (pv 2))) pa_nil)) (pa_cons (pv 2) pa_nil))))))))), ?_⟩
  have hrl := runN_le DIG (T'.drop i)
  rw [List.length_drop] at hrl
  have hdrop : T'.drop i = ch :: T'.drop (i + 1) := by
    rw [List.drop_eq_getElem_cons hi]
    rw [List.getElem?_eq_getElem hi] at hch
    rw [Option.some.inj hch]
  have hp : 0 < runN DIG (T'.drop i) := by rw [hdrop]; exact runN_pos hdg
  have bad := tokD_bad (r := T'.drop (i + 1)) hdg
  rw [← hdrop] at bad
  have htk : ((T'.drop i).take (i + runN DIG (T'.drop i) - i)) = (T'.drop i).take (runN DIG (T'.drop i)) := by rw [Nat.add_sub_cancel_left]
  have hcount : ((i + runN DIG (T'.drop i) : Nat) : Int) - (i : Int) = (runN DIG (T'.drop i) : Nat) := by omega
  refine ⟨_, rfl, _, rfl, T', DIG, i, rfl, hl, by omega, ?_⟩
  refine ⟨_, rfl, _, rfl, _, _, rfl, rfl, ?_⟩
  unfold gName
  dsimp only
  rw [hcount]
  refine cut (fun σ' H' => tokD (T'.drop i) ≠ none ∧ σ' = [some (.str (tx T')), some (.int i), some (.int ((i + runN DIG (T'.drop i) : Nat) : Int)), some (.int (runN DIG (T'.drop i) : Nat))] ∧ H' = H) ?_ ?_
  · rintro σ' H' ⟨good, rfl, rfl⟩
    have ng : ¬ (6 < runN DIG (T'.drop i) ∨ (1 < runN DIG (T'.drop i) ∧ ch = 48)) := fun z => good (bad.mpr z)
    obtain ⟨vv, hvv, _⟩ := int_of (cs := (T'.drop i).take (runN DIG (T'.drop i))) take_run (fun e => by have := congrArg List.length e; rw [List.length_take, List.length_drop] at this; simp at this; omega) (by rw [List.length_take]; omega)
    have ht : tokD (T'.drop i) = (some ("integer", V.int vv, runN DIG (T'.drop i)) : Option (Str × V × Nat)) := by
      unfold tokD
      rw [if_neg (fun z => ng (z.imp id fun ⟨a, b⟩ => ⟨a, by rw [hdrop, List.getElem?_cons_zero] at b; exact Option.some.inj b⟩)), hvv]
      rfl
    refine ⟨_, rfl, _, rfl, _, rfl, _, rfl, _, rfl, sl_s (by omega) ?_⟩
    rw [htk]
    refine ⟨_, _, rfl, hvv, by rw [tx_len, List.length_take]; omega, _, rfl, by show 3 ≤ sizeLine; decide, fun p hp => kq _ _ _ ht _ p (Ex.new hp) hp upd_same⟩
  intro N hN
  have et : decide (V.str (tx [ch]) = V.str (tx [48])) = decide (ch = 48) := by rw [tx_eq]; simp
  refine ⟨_, rfl, _, _, rfl, rfl, _, rfl, iteD (fun c1 => ?_) fun c1 => ?_⟩
  · have b := bad.mpr (.inl (by omega))
    exact ⟨_, rfl, mkD1 (.int _) (by simp [wk]) fun dx2 H2 v' e2 hd2 t => ke b dx2 H2 v' CN hns e2 hd2 t⟩
  refine ⟨_, rfl, _, _, rfl, rfl, _, rfl, iteD (fun c2 => ?_) fun c2 => ?_⟩
  · refine ⟨_, rfl, _, rfl, ixs hch (by omega) (.inl ⟨rfl, _, rfl, ?_⟩)⟩
    show if decide (V.str (tx [ch]) = V.str (tx [48])) = true then _ else _
    rw [et]
    refine iteD (fun c3 => ?_) fun c3 => ?_
    · have b := bad.mpr (.inr ⟨by omega, c3⟩)
      exact ⟨_, rfl, mkD1 (.int _) (by simp [wk]) fun dx2 H2 v' e2 hd2 t => ke b dx2 H2 v' CN hns e2 hd2 t⟩
    · exact hN _ _ ⟨fun z => by rcases bad.mp z with z | z <;> omega, rfl, rfl⟩
  · exact iteF (hN _ _ ⟨fun z => by rcases bad.mp z with z | z <;> omega, rfl, rfl⟩)
end
end K49
set_option maxHeartbeats 4000000
namespace K49
open PySem PySem.Spec PyProof.Rows L2 Hg
section
variable {P : Program} {w : World} {K : PySem.W.Frag} {mg : Str → Option Value} {base : Heap}
open Tk
theorem ok__word {f : Addr} {fd : FuncData} (F : DefK K mg "_word" st__word ["text", "start"] f fd) (Z : Zs mg) (CG : CGs K mg) {f_is_word : Addr} {fd_is_word : FuncData} (D_is_word : DefK K mg "is_word" st_is_word ["thing"] f_is_word fd_is_word) (G_is_word : FnOk P w K mg base CX0 1 f_is_word fd_is_word ["thing"] (sp_is_word K)) {CN fN cN kN : Addr} {fdN : FuncData} (T : OwnC P K mg "QuerySyntax" nf_QuerySyntax "QuerySyntax.__init__" CN fN cN kN fdN ["self", "position"]) (hns : PySem.W.nsIn K mainGlobals "QuerySyntax" = some (some (.ref CN))) (GI : FnOk P w K mg base CX0 2 fN fdN ["self", "position"] (sp_ini CN ["position"] K)) :
    FnOk P w K mg base (L2.CX P w) 4 f fd ["text", "start"] (sp__wordX K) := by
  refine F.fn.okX sc__word (fun vs H Q E h => by first | exact listedM_len h | (obtain ⟨rfl, _⟩ := h; rfl) | (obtain ⟨_, rfl, _⟩ := h; rfl) | (obtain ⟨_, _, rfl, _⟩ := h; rfl) | (obtain ⟨_, _, _, rfl, _⟩ := h; rfl) | (obtain ⟨_, _, _, _, rfl, _⟩ := h; rfl) | (obtain ⟨_, _, _, _, _, rfl, _⟩ := h; rfl) | (obtain ⟨_, _, _, _, _, _, rfl, _⟩ := h; rfl) | (obtain ⟨_, _, _, _, _, _, _, rfl, _⟩ := h; rfl) | (obtain ⟨_, _, _, _, _, _, _, _, rfl, _⟩ := h; rfl) | (obtain ⟨_, _, _, _, _, _, _, _, _, rfl, _⟩ := h; rfl) | (obtain ⟨_, _, _, _, _, _, _, _, _, _, rfl, _⟩ := h; rfl) | (obtain ⟨_, _, _, _, _, _, _, _, _, _, _, rfl, _⟩ := h; rfl) | (obtain ⟨_, _, _, _, _, _, _, _, _, _, _, _, rfl, _⟩ := h; rfl) | (obtain ⟨_, _, _, _, _, _, _, _, _, _, _, _, _, rfl, _⟩ := h; rfl) | (obtain ⟨_, _, _, _, _, _, _, _, _, _, _, _, _, _, rfl, _⟩ := h; rfl) | (obtain ⟨_, _, _, _, _, _, _, _, _, _, _, _, _, _, _, rfl, _⟩ := h; rfl) | (obtain ⟨_, _, _, _, _, _, _, _, _, _, _, _, _, _, _, _, rfl, _⟩ := h; rfl) | (obtain ⟨_, _, _, _, _, _, _, _, _, _, _, _, _, _, _, _, _, rfl, _⟩ := h; rfl) | (obtain ⟨_, _, _, _, _, _, _, _, _, _, _, _, _, _, _, _, _, _, rfl, _⟩ := h; rfl) | (obtain ⟨_, _, _, _, _, _, _, _, _, _, _, _, _, _, _, _, _, _, _, rfl, _⟩ := h; rfl) | (obtain ⟨_, _, _, _, _, _, _, _, _, _, _, _, _, _, _, _, _, _, _, _, rfl, _⟩ := h; rfl) | (obtain ⟨_, _, _, _, _, _, _, _, _, _, _, _, _, _, _, _, _, _, _, _, _, rfl, _⟩ := h; rfl) | (obtain ⟨_, _, _, _, _, _, _, _, _, _, _, _, _, _, _, _, _, _, _, _, _, _, rfl, _⟩ := h; rfl) | (obtain ⟨_, _, _, _, _, _, _, _, _, _, _, _, _, _, _, _, _, _, _, _, _, _, _, rfl, _⟩ := h; rfl)) (fun cdv A outer s H vs Q E hr h => ?_)
  obtain ⟨⟨T', i, rfl, hl, hi, kq, ke⟩, T2, i2, e2, hch⟩ := h
  obtain ⟨rfl, rfl⟩ : T' = T2 ∧ i = i2 := by
    have h1 := List.cons.inj e2
    have h2 := List.cons.inj h1.2
    exact ⟨tx_inj (V.str.inj h1.1), by have := V.int.inj h2.1; omega⟩
  clear e2
  refine ⟨_, (pss_cons (ps_set (i := 2) sc__word.nd rfl (.inl rfl) (pe_bm PySem.F.plainAttrs_str PySem.F.slot_str_find PySem.F.type_str_find mt_find3 (pv 0) (pa_cons pe_str (pa_cons (pe_op (kAdd (K := K)) (pv 1) pe_int) pa_nil))))
      (pss_cons (ps_if (PW.pt (pw_or (pt_cmpR op_lt (pv 2) pe_int (nomark _)) (pw_or1 (pt_not (pt_val (pe_call G_is_word (hr.mono (by decide)) rfl D_is_word.mg D_is_word.fn.kp D_is_word.bd .nil pass0 (pa_cons (pe_slice kSlS (pv 0) (po_some (pe_op (kAdd (K := K)) (pv 1) pe_int)) (po_some (pv 2))) pa_nil))))))) (pss_one (ps_raise rfl (takes_of rfl rfl rfl rfl) (pmk_oex T.err.oex T.iC T.tI GI (hr.mono (by decide)) T.bd .nil pass0 rfl T.mg (pa_cons (pv 1) pa_nil)))) pss_nil)
      (pss_one (ps_ret (pe_tup (pa_cons pe_str (pa_cons (pe_slice kSlS (pv 0) (po_some (pe_op (kAdd (K := K)) (pv 1) pe_int)) (po_some (pv 2))) (pa_cons (pe_op (kAdd (K := K)) (pv 2) pe_int) pa_nil)))))))), ?_⟩
  unfold tokW at kq ke
  dsimp only at kq ke
  rw [List.drop_drop] at kq ke
  generalize hw : ((T'.drop (i + 1)).takeWhile fun c => !decide (c = 34)) = w at kq ke
  have wle : w.length ≤ (T'.drop (i + 1)).length := by rw [← hw]; exact (List.takeWhile_prefix _).length_le
  have nin : 34 ∉ w := by
    intro h
    rw [← hw] at h
    have := takeWhile_all h
    simp at this
  refine ⟨_, rfl, rfl, _, rfl, .inl ⟨_, _, rfl, rfl, tx T', tx [34], ((i + 1 : Nat) : Int), rfl, rfl, ?_⟩⟩
  by_cases c1 : w.length < (T'.drop (i + 1)).length
  · have hlt : ((T'.drop (i + 1)).takeWhile fun c => !decide (c = 34)).length < (T'.drop (i + 1)).length := by rw [hw]; exact c1
    obtain ⟨ch, t, es, hch'⟩ := takeWhile_split _ hlt
    rw [hw] at es
    have ech : ch = 34 := by simpa using hch'
    subst ech
    have hf := find_tx (i := i + 1) (by omega) es nin
    have hsl : ((T'.drop (i + 1)).take (i + 1 + w.length - (i + 1))) = w := by
      rw [Nat.add_sub_cancel_left, es, List.take_left]
    rw [hf]
    refine ⟨_, rfl, _, _, rfl, rfl, _, rfl, iteDF (by omega) ?_⟩
    refine ⟨_, rfl, _, rfl, .inl ⟨_, _, rfl, rfl, _, rfl, _, rfl, _, rfl, sl_s (a := i + 1) (b := i + 1 + w.length) (by omega) ?_⟩⟩
    rw [hsl]
    rw [List.length_drop] at c1 wle
    refine ⟨w, rfl, by omega, fun H' e => ?_⟩
    by_cases c2 : isW w = true
    · have g : w.length + 1 < (T'.drop i).length ∧ isW w = true := ⟨by rw [List.length_drop]; omega, c2⟩
      rw [if_pos g] at kq
      rw [c2]
      refine ⟨_, rfl, iteF ?_⟩
      refine ⟨_, rfl, _, rfl, .inl ⟨_, _, rfl, rfl, _, rfl, _, rfl, _, rfl, sl_s (a := i + 1) (b := i + 1 + w.length) (by omega) ?_⟩⟩
      rw [hsl]
      refine ⟨_, rfl, .inl ⟨_, _, rfl, rfl, by show 3 ≤ sizeLine; decide, fun p hp => kq _ _ _ rfl _ p (e.trans (Ex.new hp)) (e.free hp) ?_⟩⟩
      rw [upd_same]
      congr 4
      have ee : (((i + 1 + w.length : Nat) : Int) + 1) = ((i + (w.length + 2) : Nat) : Int) := by omega
      show [V.int (((i + 1 + w.length : Nat) : Int) + 1)] = _
      rw [ee]
    · have g : ¬ (w.length + 1 < (T'.drop i).length ∧ isW w = true) := fun z => c2 z.2
      rw [if_neg g] at ke
      rw [Bool.eq_false_iff.mpr c2]
      refine ⟨_, rfl, iteT ?_⟩
      exact ⟨_, rfl, mkD1 (.int _) (by simp [wk]) fun dx2 H2 v' e2 hd2 t => ke rfl dx2 H2 v' CN hns (e.trans e2) hd2 t⟩
  · have g : ¬ (w.length + 1 < (T'.drop i).length ∧ isW w = true) := fun z => by
      have := z.1
      rw [List.length_drop] at this c1
      omega
    rw [if_neg g] at ke
    have none34 : 34 ∉ T'.drop (i + 1) := fun h => by
      have := takeWhile_eq (p := fun c => !decide (c = 34)) (r := T'.drop (i + 1)) (by rw [hw]; omega) 34 h
      simp at this
    rw [find_no (i := i + 1) (by omega) none34]
    refine ⟨_, rfl, _, _, rfl, rfl, _, rfl, iteDT (by decide) ?_⟩
    exact ⟨_, rfl, mkD1 (.int _) (by simp [wk]) fun dx2 H2 v' e2 hd2 t => ke rfl dx2 H2 v' CN hns e2 hd2 t⟩
end
end K49
set_option maxHeartbeats 4000000
namespace K49
open PySem PySem.Spec PyProof.Rows L2 Hg
section
variable {P : Program} {w : World} {K : PySem.W.Frag} {mg : Str → Option Value} {base : Heap}
open Tk
theorem ok__token {f : Addr} {fd : FuncData} (F : DefK K mg "_token" st__token ["text", "start"] f fd) (Z : Zs mg) (CG : CGs K mg) {f__letters : Addr} {fd__letters : FuncData} (D__letters : DefK K mg "_letters" st__letters ["text", "start"] f__letters fd__letters) (G__letters : FnOk P w K mg base (L2.CX P w) 4 f__letters fd__letters ["text", "start"] (sp__lettersX K)) {f__digits : Addr} {fd__digits : FuncData} (D__digits : DefK K mg "_digits" st__digits ["text", "start"] f__digits fd__digits) (G__digits : FnOk P w K mg base (L2.CX P w) 4 f__digits fd__digits ["text", "start"] (sp__digitsX K)) {f__word : Addr} {fd__word : FuncData} (D__word : DefK K mg "_word" st__word ["text", "start"] f__word fd__word) (G__word : FnOk P w K mg base (L2.CX P w) 4 f__word fd__word ["text", "start"] (sp__wordX K)) {CN fN cN kN : Addr} {fdN : FuncData} (T : OwnC P K mg "QuerySyntax" nf_QuerySyntax "QuerySyntax.__init__" CN fN cN kN fdN ["self", "position"]) (hns : PySem.W.nsIn K mainGlobals "QuerySyntax" = some (some (.ref CN))) (GI : FnOk P w K mg base CX0 2 fN fdN ["self", "position"] (sp_ini CN ["position"] K)) :
    FnOk P w K mg base (L2.CX P w) 5 f fd ["text", "start"] (sp__tokenX K) := by
  refine F.fn.okX sc__token (fun vs H Q E h => by first | exact listedM_len h | (obtain ⟨rfl, _⟩ := h; rfl) | (obtain ⟨_, rfl, _⟩ := h; rfl) | (obtain ⟨_, _, rfl, _⟩ := h; rfl) | (obtain ⟨_, _, _, rfl, _⟩ := h; rfl) | (obtain ⟨_, _, _, _, rfl, _⟩ := h; rfl) | (obtain ⟨_, _, _, _, _, rfl, _⟩ := h; rfl) | (obtain ⟨_, _, _, _, _, _, rfl, _⟩ := h; rfl) | (obtain ⟨_, _, _, _, _, _, _, rfl, _⟩ := h; rfl) | (obtain ⟨_, _, _, _, _, _, _, _, rfl, _⟩ := h; rfl) | (obtain ⟨_, _, _, _, _, _, _, _, _, rfl, _⟩ := h; rfl) | (obtain ⟨_, _, _, _, _, _, _, _, _, _, rfl, _⟩ := h; rfl) | (obtain ⟨_, _, _, _, _, _, _, _, _, _, _, rfl, _⟩ := h; rfl) | (obtain ⟨_, _, _, _, _, _, _, _, _, _, _, _, rfl, _⟩ := h; rfl) | (obtain ⟨_, _, _, _, _, _, _, _, _, _, _, _, _, rfl, _⟩ := h; rfl) | (obtain ⟨_, _, _, _, _, _, _, _, _, _, _, _, _, _, rfl, _⟩ := h; rfl) | (obtain ⟨_, _, _, _, _, _, _, _, _, _, _, _, _, _, _, rfl, _⟩ := h; rfl) | (obtain ⟨_, _, _, _, _, _, _, _, _, _, _, _, _, _, _, _, rfl, _⟩ := h; rfl) | (obtain ⟨_, _, _, _, _, _, _, _, _, _, _, _, _, _, _, _, _, rfl, _⟩ := h; rfl) | (obtain ⟨_, _, _, _, _, _, _, _, _, _, _, _, _, _, _, _, _, _, rfl, _⟩ := h; rfl) | (obtain ⟨_, _, _, _, _, _, _, _, _, _, _, _, _, _, _, _, _, _, _, rfl, _⟩ := h; rfl) | (obtain ⟨_, _, _, _, _, _, _, _, _, _, _, _, _, _, _, _, _, _, _, _, rfl, _⟩ := h; rfl) | (obtain ⟨_, _, _, _, _, _, _, _, _, _, _, _, _, _, _, _, _, _, _, _, _, rfl, _⟩ := h; rfl) | (obtain ⟨_, _, _, _, _, _, _, _, _, _, _, _, _, _, _, _, _, _, _, _, _, _, rfl, _⟩ := h; rfl) | (obtain ⟨_, _, _, _, _, _, _, _, _, _, _, _, _, _, _, _, _, _, _, _, _, _, _, rfl, _⟩ := h; rfl)) (fun cdv A outer s H vs Q E hr h => ?_)
  obtain ⟨T', i, rfl, hl, hi, kq, ke⟩ := h
  refine ⟨_, (pss_cons (ps_set (i := 2) sc__token.nd rfl (.inl rfl) (pe_ix (kIx (K := K)) (pv 0) (pv 1) (fun _ _ => rfl)))
      (pss_cons (ps_if (pt_cmpR op_in_sign (pv 2) (pe_glob (v := c_LETTERS) rfl CG.LETTERS_ ⟨_, rfl⟩) (by rfl)) (pss_one (ps_ret (pe_call G__letters (hr.mono (by decide)) rfl D__letters.mg D__letters.fn.kp D__letters.bd .nil (passes_call (takes_of rfl rfl rfl rfl) (fun _ _ _ _ h => h)) (pa_cons (pv 0) (pa_cons (pv 1) pa_nil))))) pss_nil)
      (pss_cons (ps_if (pt_cmpR op_in_sign (pv 2) (pe_glob (v := c_DIGITS) rfl CG.DIGITS_ ⟨_, rfl⟩) (by rfl)) (pss_one (ps_ret (pe_call G__digits (hr.mono (by decide)) rfl D__digits.mg D__digits.fn.kp D__digits.bd .nil (passes_call (takes_of rfl rfl rfl rfl) (fun _ _ _ _ h => h)) (pa_cons (pv 0) (pa_cons (pv 1) pa_nil))))) pss_nil)
      (pss_cons (ps_if (pt_cmpR (kEq (K := K) hr.units) (pv 2) pe_str (nomark _)) (pss_one (ps_ret (pe_call G__word (hr.mono (by decide)) rfl D__word.mg D__word.fn.kp D__word.bd .nil (passes_call (takes_of rfl rfl rfl rfl) (fun _ _ _ _ h => h)) (pa_cons (pv 0) (pa_cons (pv 1) pa_nil))))) pss_nil)
      (pss_cons (ps_if (pt_cmpR (kIn (K := K)) (pe_slice kSlS (pv 0) (po_some (pv 1)) (po_some (pe_op (kAdd (K := K)) (pv 1) pe_int))) (pe_glob (v := .ref CG.LONG_SYMBOLS_a) rfl CG.LONG_SYMBOLS_ rfl) (by rfl)) (pss_one (ps_ret (pe_tup (pa_cons pe_str (pa_cons (pe_slice kSlS (pv 0) (po_some (pv 1)) (po_some (pe_op (kAdd (K := K)) (pv 1) pe_int))) (pa_cons (pe_op (kAdd (K := K)) (pv 1) pe_int) pa_nil)))))) pss_nil)
      (pss_cons (ps_if (pt_cmpR op_in_sign (pv 2) (pe_glob (v := c_SHORT_SYMBOLS) rfl CG.SHORT_SYMBOLS_ ⟨_, rfl⟩) (by rfl)) (pss_one (ps_ret (pe_tup (pa_cons pe_str (pa_cons (pv 2) (pa_cons (pe_op (kAdd (K := K)) (pv 1) pe_int) pa_nil)))))) pss_nil)
      (pss_one (ps_raise rfl (takes_of rfl rfl rfl rfl) (pmk_oex T.err.oex T.iC T.tI GI (hr.mono (by decide)) T.bd .nil pass0 rfl T.mg (pa_cons (pv 1) pa_nil)))))))))), ?_⟩
  obtain ⟨ch, hch⟩ : ∃ ch, T'[i]? = some ch := ⟨T'[i], by simp [hi]⟩
  have hdrop : T'.drop i = ch :: T'.drop (i + 1) := by
    rw [List.drop_eq_getElem_cons hi]
    rw [List.getElem?_eq_getElem hi] at hch
    rw [Option.some.inj hch]
  refine ⟨_, rfl, _, rfl, ixs hch (by omega) ?_⟩
  have et0 : tokR (T'.drop i) = if ch ∈ LET then tokL (T'.drop i) else if ch ∈ DIG then tokD (T'.drop i) else if ch = 34 then tokW (T'.drop i) else if (T'.drop i).take 2 ∈ LSY then some ("symbol", .str (tx ((T'.drop i).take 2)), 2) else if ch ∈ SSY then some ("symbol", .str (tx [ch]), 1) else none := by
    rw [hdrop]; rfl
  rw [et0] at kq ke
  refine ⟨_, rfl, ch, _, rfl, rfl, _, rfl, iteD (fun c1 => ?_) fun c1 => ?_⟩
  · have c1 : ch ∈ LET := by simpa using c1
    rw [if_pos c1] at kq ke
    exact ⟨_, rfl, _, rfl, T', i, rfl, hl, hi, kq, ke⟩
  have c1 : ch ∉ LET := by simpa using c1
  rw [if_neg c1] at kq ke
  refine ⟨_, rfl, ch, _, rfl, rfl, _, rfl, iteD (fun c2 => ?_) fun c2 => ?_⟩
  · have c2 : ch ∈ DIG := by simpa using c2
    rw [if_pos c2] at kq ke
    exact ⟨_, rfl, _, rfl, ⟨T', i, rfl, hl, hi, kq, ke⟩, T', i, ch, rfl, hch, c2⟩
  have c2 : ch ∉ DIG := by simpa using c2
  rw [if_neg c2] at kq ke
  refine ⟨_, rfl, .inl ⟨rfl, _, rfl, ?_⟩⟩
  have et : decide (V.str (tx [ch]) = V.str (tx [34])) = decide (ch = 34) := by rw [tx_eq]; simp
  show if decide (V.str (tx [ch]) = V.str (tx [34])) = true then _ else _
  rw [et]
  refine iteD (fun c3 => ?_) fun c3 => ?_
  · rw [if_pos c3] at kq ke
    exact ⟨_, rfl, _, rfl, ⟨T', i, rfl, hl, hi, kq, ke⟩, T', i, rfl, by rw [hch, c3]⟩
  rw [if_neg c3] at kq ke
  refine ⟨_, rfl, _, rfl, _, rfl, _, rfl, .inl ⟨_, _, rfl, rfl, _, rfl, sl_s (a := i) (b := i + 2) (by omega) ?_⟩⟩
  dsimp only [tC]
  rw [Nat.add_sub_cancel_left]
  refine in_l (ls := LSY) (.inr (CG.LONG_SYMBOLS_q _)) ⟨_, rfl, iteD (fun c4 => ?_) fun c4 => ?_⟩
  · rw [if_pos c4] at kq
    refine ⟨_, rfl, _, rfl, _, rfl, _, rfl, .inl ⟨_, _, rfl, rfl, _, rfl, sl_s (a := i) (b := i + 2) (by omega) ?_⟩⟩
    rw [Nat.add_sub_cancel_left]
    exact ⟨_, rfl, .inl ⟨_, _, rfl, rfl, by show 3 ≤ sizeLine; decide, fun p hp => kq _ _ _ rfl _ p (Ex.new hp) hp upd_same⟩⟩
  rw [if_neg c4] at kq ke
  refine ⟨_, rfl, ch, _, rfl, rfl, _, rfl, iteD (fun c5 => ?_) fun c5 => ?_⟩
  · have c5 : ch ∈ SSY := by simpa using c5
    rw [if_pos c5] at kq
    exact ⟨_, rfl, _, rfl, .inl ⟨_, _, rfl, rfl, by show 3 ≤ sizeLine; decide, fun p hp => kq _ _ _ rfl _ p (Ex.new hp) hp upd_same⟩⟩
  · have c5 : ch ∉ SSY := by simpa using c5
    rw [if_neg c5] at ke
    exact ⟨_, rfl, mkD1 (.int _) (by simp [wk]) fun dx2 H2 v' e2 hd2 t => ke rfl dx2 H2 v' CN hns e2 hd2 t⟩
end
end K49
set_option maxHeartbeats 4000000
namespace K49
open PySem PySem.Spec PyProof.Rows L2 Hg
section
variable {P : Program} {w : World} {K : PySem.W.Frag} {mg : Str → Option Value} {base : Heap}
open Tk
theorem ok_tokens {f : Addr} {fd : FuncData} (F : DefK K mg "tokens" st_tokens ["text"] f fd) (Z : Zs mg) (CG : CGs K mg) {f__token : Addr} {fd__token : FuncData} (D__token : DefK K mg "_token" st__token ["text", "start"] f__token fd__token) (G__token : FnOk P w K mg base (L2.CX P w) 5 f__token fd__token ["text", "start"] (sp__tokenX K)) :
    FnOk P w K mg base (L2.CX P w) 6 f fd ["text"] (sp_tokensX K) := by
  refine F.fn.okX sc_tokens (fun vs H Q E h => by first | exact listedM_len h | (obtain ⟨rfl, _⟩ := h; rfl) | (obtain ⟨_, rfl, _⟩ := h; rfl) | (obtain ⟨_, _, rfl, _⟩ := h; rfl) | (obtain ⟨_, _, _, rfl, _⟩ := h; rfl) | (obtain ⟨_, _, _, _, rfl, _⟩ := h; rfl) | (obtain ⟨_, _, _, _, _, rfl, _⟩ := h; rfl) | (obtain ⟨_, _, _, _, _, _, rfl, _⟩ := h; rfl) | (obtain ⟨_, _, _, _, _, _, _, rfl, _⟩ := h; rfl) | (obtain ⟨_, _, _, _, _, _, _, _, rfl, _⟩ := h; rfl) | (obtain ⟨_, _, _, _, _, _, _, _, _, rfl, _⟩ := h; rfl) | (obtain ⟨_, _, _, _, _, _, _, _, _, _, rfl, _⟩ := h; rfl) | (obtain ⟨_, _, _, _, _, _, _, _, _, _, _, rfl, _⟩ := h; rfl) | (obtain ⟨_, _, _, _, _, _, _, _, _, _, _, _, rfl, _⟩ := h; rfl) | (obtain ⟨_, _, _, _, _, _, _, _, _, _, _, _, _, rfl, _⟩ := h; rfl) | (obtain ⟨_, _, _, _, _, _, _, _, _, _, _, _, _, _, rfl, _⟩ := h; rfl) | (obtain ⟨_, _, _, _, _, _, _, _, _, _, _, _, _, _, _, rfl, _⟩ := h; rfl) | (obtain ⟨_, _, _, _, _, _, _, _, _, _, _, _, _, _, _, _, rfl, _⟩ := h; rfl) | (obtain ⟨_, _, _, _, _, _, _, _, _, _, _, _, _, _, _, _, _, rfl, _⟩ := h; rfl) | (obtain ⟨_, _, _, _, _, _, _, _, _, _, _, _, _, _, _, _, _, _, rfl, _⟩ := h; rfl) | (obtain ⟨_, _, _, _, _, _, _, _, _, _, _, _, _, _, _, _, _, _, _, rfl, _⟩ := h; rfl) | (obtain ⟨_, _, _, _, _, _, _, _, _, _, _, _, _, _, _, _, _, _, _, _, rfl, _⟩ := h; rfl) | (obtain ⟨_, _, _, _, _, _, _, _, _, _, _, _, _, _, _, _, _, _, _, _, _, rfl, _⟩ := h; rfl) | (obtain ⟨_, _, _, _, _, _, _, _, _, _, _, _, _, _, _, _, _, _, _, _, _, _, rfl, _⟩ := h; rfl) | (obtain ⟨_, _, _, _, _, _, _, _, _, _, _, _, _, _, _, _, _, _, _, _, _, _, _, rfl, _⟩ := h; rfl)) (fun cdv A outer s H vs Q E hr h => ?_)
  obtain ⟨T', ts, er, rfl, hl, hL, kq, ke⟩ := h
  refine ⟨_, (pss_cons (ps_set (i := 1) sc_tokens.nd rfl (.inl rfl) (pe_lst pa_nil))
      (pss_cons (ps_set (i := 2) sc_tokens.nd rfl (.inl rfl) pe_int)
      (pss_cons (ps_while (passes_of rfl) (pt_cmpR op_lt (pv 2) (pe_callB call_len_str (by rfl) Z.len_ PyProof.Rows.Boot.«len» (pa_cons (pv 0) pa_nil)) (nomark _)) (pss_one (ps_if (pt_cmpR (kEq (K := K) hr.units) (pe_ix (kIx (K := K)) (pv 0) (pv 2) (fun _ _ => rfl)) pe_str (nomark _)) (pss_one (ps_aug (i := 2) sc_tokens.nd rfl (.inl rfl) pe_int ip_add)) (pss_cons (ps_asg (pe_call G__token (hr.mono (by decide)) rfl D__token.mg D__token.fn.kp D__token.bd .nil (passes_call (takes_of rfl rfl rfl rfl) (fun _ _ _ _ h => h)) (pa_cons (pv 0) (pa_cons (pv 2) pa_nil))) (kPgT (K := K) (n := 3) rfl (pgs_cons (pg_name (i := 3) sc_tokens.nd rfl (.inl rfl)) (pgs_cons (pg_name (i := 4) sc_tokens.nd rfl (.inl rfl)) (pgs_cons (pg_name (i := 5) sc_tokens.nd rfl (.inl rfl)) pgs_nil)))))
      (pss_cons (ps_expr (pe_bm PySem.F.plainAttrs_list PySem.F.slot_list_append PySem.F.type_list_append mt_append (pv 1) (pa_cons (pe_tup (pa_cons (pv 3) (pa_cons (pv 4) (pa_cons (pv 2) pa_nil)))) pa_nil)))
      (pss_one (ps_set (i := 2) sc_tokens.nd rfl (.inl rfl) (pv 5))))))))
      (pss_one (ps_ret (pv 1)))))), ?_⟩
  refine ⟨Nat.zero_le _, fun L hn => ⟨fun m σ H' => ∃ (pos : Nat) (ds rest : List Tk) (xs : List V) (v3 v4 v5 : Option V), σ = [some (.str (tx T')), some (.ref L), some (.int (pos : Int)), v3, v4, v5] ∧ Ex H H' ∧ H' L = some (.lst xs) ∧ TksIn H' xs ds ∧ LexR pos (T'.drop pos) rest er ∧ ds ++ rest = ts ∧ (xs.length ≤ pos ∧ xs.length ≤ T'.length) ∧ m = T'.length - pos,
    ⟨_, 0, [], ts, [], _, _, _, rfl, Ex.new hn, upd_same, .nil, hL, rfl, ⟨Nat.le_refl _, Nat.zero_le _⟩, rfl⟩, ?_⟩⟩
  rintro m σ H' ⟨pos, ds, rest, xs, v3, v4, v5, rfl, ex, hLl, htk, hlx, hdr, hxl, rfl⟩
  refine ⟨_, rfl, _, rfl, _, rfl, by rw [tx_len, sizeLine_eq]; omega, _, _, rfl, rfl, _, rfl, iteD (fun c => ?_) fun c => ?_⟩
  · rw [tx_len] at c
    have hpos : pos < T'.length := by omega
    refine ⟨fun σ' H' => ∃ m', m' < T'.length - pos ∧ _, fun _ _ h => h, ?_⟩
    obtain ⟨ch, hch⟩ : ∃ ch, T'[pos]? = some ch := ⟨T'[pos], by simp [hpos]⟩
    have hdrop : T'.drop pos = ch :: T'.drop (pos + 1) := by
      rw [List.drop_eq_getElem_cons hpos]
      rw [List.getElem?_eq_getElem hpos] at hch
      rw [Option.some.inj hch]
    rw [hdrop] at hlx
    refine ⟨_, rfl, _, rfl, ixs hch (by omega) (.inl ⟨rfl, _, rfl, ?_⟩)⟩
    have et : decide (V.str (tx [ch]) = V.str (tx [32])) = decide (ch = 32) := by rw [tx_eq]; simp
    show if decide (V.str (tx [ch]) = V.str (tx [32])) = true then _ else _
    rw [et]
    refine iteD (fun c2 => ?_) fun c2 => ?_
    · cases hlx with
      | sp h =>
        exact ⟨_, rfl, _, _, rfl, rfl, T'.length - (pos + 1), by omega, pos + 1, ds, rest, xs, _, _, _, rfl, ex, hLl, htk, h, hdr, by omega, rfl⟩
      | tok h1 => exact absurd c2 h1
      | bad h1 => exact absurd c2 h1
    · cases hlx with
      | sp h => exact absurd rfl c2
      | bad h1 h2 =>
        refine ⟨_, rfl, _, rfl, T', pos, rfl, hl, hpos, fun k v n h => (by rw [hdrop, h2] at h; cases h), fun _ => fun dx2 H2 v' CN hns e2 hd2 t => ke pos rfl dx2 H2 v' CN hns (fun a o h => ?_) hd2 t⟩
        exact e2 _ _ (ex _ _ h)
      | tok h1 h2 h3 h4 =>
        rename_i n k v ts'
        refine ⟨_, rfl, _, rfl, T', pos, rfl, hl, hpos, fun k' v' n' h H1 p e1 hn1 hp => ?_, fun h => (by rw [hdrop, h2] at h; cases h)⟩
        rw [hdrop, h2] at h
        cases h
        have hL1 := e1 _ _ hLl
        refine ⟨p, _, rfl, SqT.of hp, rfl, _, _, rfl, _, _, rfl, _, _, rfl, rfl, ?_⟩
        refine ⟨_, rfl, .inl ⟨rfl, _, SqL.of hL1⟩, _, rfl, _, rfl, _, rfl, by show 3 ≤ sizeLine; decide, fun p2 hp2 => ?_⟩
        have e2 := Ex.new (o := .tup [.str k, v, .int (pos : Int)]) hp2
        have hL2 := e2 _ _ hL1
        refine ⟨L, _, _, rfl, rfl, hL2, by rw [sizeLine_eq]; omega, ?_⟩
        refine ⟨_, rfl, T'.length - (pos + n), by omega, pos + n, ds ++ [(k, v, pos)], ts', xs ++ [.ref p2], _, _, _, rfl, fun a o h => ?_, upd_same, ?_, ?_, by rw [List.append_assoc]; exact hdr, by simp only [List.length_append, List.length_cons, List.length_nil]; omega, rfl⟩
        · exact (upd_ne (fun z => by rw [z, hn] at h; cases h)).trans (e2 _ _ (e1 _ _ (ex _ _ h)))
        · refine TksIn.snoc ⟨tokR_flat h2, p2, rfl, ?_⟩ (((htk.mono fun a xs h => e1 _ _ h).mono fun a xs h => e2 _ _ h).mono (tk_put hL2))
          exact tk_put hL2 _ _ upd_same
        · have ee : T'.drop (pos + n) = (ch :: T'.drop (pos + 1)).drop n := by rw [← hdrop, List.drop_drop]
          rw [ee]
          exact h4
  · rw [tx_len] at c
    have e0 : T'.drop pos = [] := List.drop_of_length_le (by omega)
    rw [e0] at hlx
    cases hlx
    rw [List.append_nil] at hdr
    subst hdr
    have hx5 : xs.length ≤ 5000 := by omega
    exact ⟨_, rfl, kq rfl H' L xs ex hn hLl hx5 htk⟩
end
end K49
set_option maxHeartbeats 4000000
namespace Hg
open PySem PySem.Spec PyProof.Rows L2
/-! ### a thing of tuples, each tuple in it perhaps as a list -/
end Hg
set_option maxHeartbeats 4000000
namespace Hg
open PySem PySem.Spec PyProof.Rows L2
/-! ### things of tuples by the widths of their levels; the last level holds no tuples -/
def drwW : List Nat → Nat
  | [] => 0
  | [_] => 0
  | w :: v :: ws => w * drwW (v :: ws) + 1
def lvlW : List Nat → PyData → Prop
  | [], _ => False
  | w :: ws, .tuple ds => ws ≠ [] ∧ ds.length ≤ w ∧ ∀ d ∈ ds, lvlW ws d
  | _ :: _, .int _ => True
  | _ :: _, .str _ => True
  | _ :: _, _ => False
end Hg
set_option maxHeartbeats 4000000
namespace Hn
end Hn
namespace Hg
open PySem PySem.Spec PyProof.Rows L2
end Hg
namespace Hg
open PySem PySem.Spec PyProof.Rows L2
end Hg
namespace Hn
end Hn
namespace Hg
open PySem PySem.Spec PyProof.Rows L2
end Hg
set_option maxHeartbeats 4000000
namespace Hg
open PySem PySem.Spec PyProof.Rows L2
/-! ### numbers of k81: bases with numbers below 2 ^ 160, size at most 5 -/
end Hg
namespace Hg
open PySem PySem.Spec PyProof.Rows L2
theorem dv_eL {n i : Nat} (hi : i < n) (w : Hn.Vc) : Hn.dv n (Hn.fv (Hn.eL n i)) w = w i := by
  unfold Hn.dv
  rw [Hn.fv_eL hi]
  show Hn.sm n (fun k => (if k = i then 1 else 0) * w k) = w i
  rw [Hn.sm_one hi (fun k _ hne => by rw [if_neg hne, Int.zero_mul]), if_pos rfl, Int.one_mul]
end Hg
namespace Hg
open PySem PySem.Spec PyProof.Rows L2
end Hg
set_option maxHeartbeats 4000000
namespace Hg
open PySem PySem.Spec PyProof.Rows L2
/-! ### there is one dual -/
structure DualW (n : Nat) (R E : List (List Int)) (s : Int) (D : List (List Int)) : Prop where
  exact : Hn.Hnf n (Hn.VanP n R) E
  pos : 0 < s
  dvd : ∀ r ∈ R, ∀ d ∈ D, s ∣ Hn.dv n (Hn.fv d) (Hn.fv r)
  com : ∀ c : Int, c ∣ s → (∀ r ∈ D, ∀ j, c ∣ Hn.fv r j) → c ∣ 1
  base : Hn.Hnf n (Hn.Sp (Hn.RL D)) D
  col : ∀ ds, Hn.EchR n ds E → ∀ d ∈ D, ∀ c ∈ ds, Hn.fv d c = 0
  all : ∀ (u : Hn.Vc) (q : Int), q ≠ 0 → (∀ j, n ≤ j → u j = 0) → (∀ ds, Hn.EchR n ds E → ∀ c ∈ ds, u c = 0) → (∀ r ∈ R, q ∣ Hn.dv n u (Hn.fv r)) → ∃ w, Hn.Sp (Hn.RL D) w ∧ ∀ j, s * u j = q * w j
theorem DualR.w {n : Nat} {R E D : List (List Int)} {s : Int} (h : DualR n R E s D) (rl : ∀ r ∈ R, r.length = n) : DualW n R E s D :=
  ⟨h.exact, h.pos, fun r hr d hd => ((h.lat (Hn.fv r) fun j hj => Hn.fv_out (by rw [rl r hr]; exact hj)).mp (.of ⟨r, hr, rfl⟩)).2 d hd, h.com, h.base, h.col, h.all⟩
theorem DualW.to {n : Nat} {R E D D' : List (List Int)} {s s' : Int} (h : DualW n R E s D) (h' : DualW n R E s' D') {d : List Int} (hd : d ∈ D) : ∃ w, Hn.Sp (Hn.RL D') w ∧ ∀ j, s' * Hn.fv d j = s * w j := by
  have p := h.pos
  refine h'.all (Hn.fv d) s (by omega) (fun j hj => Hn.fv_out ?_) (fun ds e c hc => h.col ds e d hd c hc) fun r hr => h.dvd r hr d hd
  rw [h.base.rlen d hd]; exact hj
theorem DualW.uniq {n : Nat} {R E E' D D' : List (List Int)} {s s' : Int} (h : DualW n R E s D) (h' : DualW n R E' s' D') : E = E' ∧ s = s' ∧ D = D' := by
  have eE := h.exact.uniq h'.exact
  subst eE
  refine ⟨rfl, ?_⟩
  have p := h.pos
  have p' := h'.pos
  obtain ⟨x, y, e⟩ := Hn.gcd_comb s s'
  obtain ⟨a, ha⟩ : ((Int.gcd s s' : Nat) : Int) ∣ s := Int.gcd_dvd_left ..
  obtain ⟨b, hb⟩ : ((Int.gcd s s' : Nat) : Int) ∣ s' := Int.gcd_dvd_right ..
  have g0 : 0 < ((Int.gcd s s' : Nat) : Int) := by
    have : Int.gcd s s' ≠ 0 := fun h => by
      rw [Int.gcd_eq_zero_iff] at h
      omega
    omega
  generalize ((Int.gcd s s' : Nat) : Int) = g at e ha hb g0
  have e1 : x * a + y * b = 1 := by
    have : g * (x * a + y * b) = g * 1 := by
      rw [ha, hb] at e
      rw [Int.mul_one]
      have : x * (g * a) + y * (g * b) = g * (x * a + y * b) := by grind
      omega
    exact Int.eq_of_mul_eq_mul_left (by omega) this
  have k1 : ∀ d ∈ D, ∃ w, Hn.Sp (Hn.RL D') w ∧ ∀ j, b * Hn.fv d j = a * w j := fun d hd => by
    obtain ⟨w, hw, ew⟩ := h.to h' hd
    refine ⟨w, hw, fun j => Int.eq_of_mul_eq_mul_left (show g ≠ 0 by omega) ?_⟩
    have := ew j
    rw [ha, hb] at this
    rw [← Int.mul_assoc, ← Int.mul_assoc]; exact this
  have k2 : ∀ d ∈ D', ∃ w, Hn.Sp (Hn.RL D) w ∧ ∀ j, a * Hn.fv d j = b * w j := fun d hd => by
    obtain ⟨w, hw, ew⟩ := h'.to h hd
    refine ⟨w, hw, fun j => Int.eq_of_mul_eq_mul_left (show g ≠ 0 by omega) ?_⟩
    have := ew j
    rw [ha, hb] at this
    rw [← Int.mul_assoc, ← Int.mul_assoc]; exact this
  have a1 : a ∣ 1 := h.com a ⟨g, by rw [ha, Int.mul_comm]⟩ fun d hd j => by
    obtain ⟨w, _, ew⟩ := k1 d hd
    refine ⟨x * Hn.fv d j + y * w j, ?_⟩
    have h1 := ew j
    have h2 : (x * a + y * b) * Hn.fv d j = Hn.fv d j := by rw [e1, Int.one_mul]
    grind
  have b1 : b ∣ 1 := h'.com b ⟨g, by rw [hb, Int.mul_comm]⟩ fun d hd j => by
    obtain ⟨w, _, ew⟩ := k2 d hd
    refine ⟨y * Hn.fv d j + x * w j, ?_⟩
    have h1 := ew j
    have h2 : (x * a + y * b) * Hn.fv d j = Hn.fv d j := by rw [e1, Int.one_mul]
    grind
  have one : ∀ {c : Int}, c ∣ 1 → 0 < g * c → c = 1 := fun {c} h1 h2 => by
    have h3 := Int.le_of_dvd (by decide) h1
    have h4 : 0 < c := Int.pos_of_mul_pos_left (by rw [Int.mul_comm] at h2; exact h2) g0
    omega
  have ea := one a1 (by rw [← ha]; exact p)
  have eb := one b1 (by rw [← hb]; exact p')
  subst ea
  subst eb
  refine ⟨by rw [ha, hb], h.base.same h'.base (fun d hd => ?_) fun d hd => ?_⟩
  · obtain ⟨w, hw, ew⟩ := k1 d hd
    exact hw.cast fun j => by have := ew j; omega
  · obtain ⟨w, hw, ew⟩ := k2 d hd
    exact hw.cast fun j => by have := ew j; omega
/-- rows divided by a common divisor -/
def divL (c : Int) (C : List (List Int)) : List (List Int) := C.map fun r => r.map fun x => x.fdiv c
theorem fv_divr {c : Int} (c0 : 0 < c) {r : List Int} (h : ∀ j, c ∣ Hn.fv r j) (j : Nat) : Hn.fv r j = c * Hn.fv (r.map fun x => x.fdiv c) j := by
  rw [Hn.fv_map (f := fun x => x.fdiv c) (by simp)]
  obtain ⟨w, hw⟩ := h j
  rw [hw, Hn.fdiv_du (by omega)]
theorem unscale {n : Nat} {V : Hn.Vc → Prop} {C : List (List Int)} {c : Int} (hC : Hn.Hnf n V C) (c0 : 0 < c) (h : ∀ r ∈ C, ∀ j, c ∣ Hn.fv r j) : Hn.Hnf n (Hn.Sp (Hn.RL (divL c C))) (divL c C) := by
  obtain ⟨cs, e⟩ := hC.ech
  have red := hC.red e
  have at_ : ∀ (i : Nat) (d : List Int), (divL c C)[i]? = some d → ∃ r, C[i]? = some r ∧ d.length = r.length ∧ ∀ j, Hn.fv r j = c * Hn.fv d j := fun i d hd => by
    unfold divL at hd
    rw [List.getElem?_map] at hd
    obtain ⟨r, hr, rfl⟩ := Option.map_eq_some_iff.mp hd
    exact ⟨r, hr, List.length_map _, fv_divr c0 (h r (List.mem_of_getElem? hr))⟩
  have E : Hn.EchR n cs (divL c C) := by
    refine ⟨by rw [e.len, divL, List.length_map], e.asc, e.lt, fun i p d hp hd => ?_⟩
    obtain ⟨r, hr, hl, hv⟩ := at_ i d hd
    obtain ⟨r1, r2, r3⟩ := e.row i p r hp hr
    refine ⟨by rw [hl, r1], fun j hj => ?_, ?_⟩
    · have := r2 j hj
      rw [hv] at this
      exact (Int.mul_eq_zero.mp this).resolve_left (by omega)
    · rw [hv, Int.mul_comm] at r3
      exact Int.pos_of_mul_pos_left r3 c0
  refine E.hnf fun i j p d d' hij hp hd hd' => ?_
  obtain ⟨r, hr, _, hv⟩ := at_ i d hd
  obtain ⟨r', hr', _, hv'⟩ := at_ j d' hd'
  obtain ⟨h1, h2⟩ := red i j p r r' hij hp hr hr'
  rw [hv] at h1 h2
  rw [hv'] at h2
  exact ⟨Int.nonneg_of_mul_nonneg_right h1 c0 |> fun h => h, Int.lt_of_mul_lt_mul_left h2 (by omega)⟩
/-- the dual out of rows that are not yet reduced -/
theorem DualW.raw {n : Nat} {R E C : List (List Int)} {S0 c s : Int} {V : Hn.Vc → Prop} (hE : Hn.Hnf n (Hn.VanP n R) E) (hC : Hn.Hnf n V C) (S1 : 0 < S0) (c0 : 0 < c) (hs : S0 = c * s) (hcd : ∀ r ∈ C, ∀ j, c ∣ Hn.fv r j)
    (mx : ∀ c' : Int, c' ∣ S0 → (∀ r ∈ C, ∀ j, c' ∣ Hn.fv r j) → c' ∣ c) (dvd : ∀ r ∈ R, ∀ d ∈ C, S0 ∣ Hn.dv n (Hn.fv d) (Hn.fv r)) (col : ∀ ds, Hn.EchR n ds E → ∀ d ∈ C, ∀ p ∈ ds, Hn.fv d p = 0)
    (all : ∀ (u : Hn.Vc) (q : Int), q ≠ 0 → (∀ j, n ≤ j → u j = 0) → (∀ ds, Hn.EchR n ds E → ∀ c ∈ ds, u c = 0) → (∀ r ∈ R, q ∣ Hn.dv n u (Hn.fv r)) → ∃ w, Hn.Sp (Hn.RL C) w ∧ ∀ j, S0 * u j = q * w j) : DualW n R E s (divL c C) := by
  have fw : ∀ d ∈ divL c C, ∃ r ∈ C, ∀ j, Hn.fv r j = c * Hn.fv d j := fun d hd => by
    obtain ⟨r, hr, rfl⟩ := List.mem_map.mp hd
    exact ⟨r, hr, fv_divr c0 (hcd r hr)⟩
  have bw : ∀ r ∈ C, ∃ d ∈ divL c C, ∀ j, Hn.fv r j = c * Hn.fv d j := fun r hr => ⟨_, List.mem_map.mpr ⟨r, hr, rfl⟩, fv_divr c0 (hcd r hr)⟩
  have spd : ∀ {w}, Hn.Sp (Hn.RL C) w → ∃ w', Hn.Sp (Hn.RL (divL c C)) w' ∧ ∀ j, w j = c * w' j := fun {w} h => by
    induction h with
    | zero => exact ⟨_, .zero, fun j => by simp⟩
    | @add u v k hu _ ih =>
      obtain ⟨r, hr, rfl⟩ := hu
      obtain ⟨d, hd, e⟩ := bw r hr
      obtain ⟨v', hv', e'⟩ := ih
      exact ⟨_, .add k ⟨d, hd, rfl⟩ hv', fun j => by show k * Hn.fv r j + v j = c * (k * Hn.fv d j + v' j); rw [e, e']; grind⟩
  refine ⟨hE, ?_, fun r hr d hd => ?_, fun t h1 h2 => ?_, unscale hC c0 hcd, fun ds e d hd p hp => ?_, fun u q q0 h1 h2 h3 => ?_⟩
  · rw [hs, Int.mul_comm] at S1
    exact Int.pos_of_mul_pos_left S1 c0
  · obtain ⟨g, hg, e⟩ := fw d hd
    have h1 := dvd r hr g hg
    have h2 : Hn.dv n (Hn.fv g) (Hn.fv r) = c * Hn.dv n (Hn.fv d) (Hn.fv r) := by
      unfold Hn.dv
      rw [← Hn.sm_mul]
      exact Hn.sm_congr fun i _ => by rw [e, Int.mul_assoc]
    rw [h2, hs] at h1
    exact (Int.mul_dvd_mul_iff_left (by omega)).mp h1
  · have := mx (c * t) (by rw [hs]; exact Int.mul_dvd_mul (Int.dvd_refl _) h1) fun r hr j => by
      obtain ⟨d, hd, e⟩ := bw r hr
      rw [e]
      exact Int.mul_dvd_mul (Int.dvd_refl _) (h2 d hd j)
    have h3 : c * t ∣ c * 1 := by rw [Int.mul_one]; exact this
    exact (Int.mul_dvd_mul_iff_left (by omega)).mp h3
  · obtain ⟨r, hr, e'⟩ := fw d hd
    have := col ds e r hr p hp
    rw [e'] at this
    exact (Int.mul_eq_zero.mp this).resolve_left (by omega)
  · obtain ⟨w, hw, ew⟩ := all u q q0 h1 h2 h3
    obtain ⟨w', hw', e'⟩ := spd hw
    refine ⟨w', hw', fun j => Int.eq_of_mul_eq_mul_left (show c ≠ 0 by omega) ?_⟩
    have := ew j
    rw [e', hs] at this
    rw [← Int.mul_assoc, this]; grind
end Hg
set_option maxHeartbeats 4000000
namespace Hn
theorem ech_pin {n : Nat} {ds : List Nat} {E : List (List Int)} (e : EchR n ds E) {y : Vc} (hy : Sp (RL E) y) (h0 : ∀ c ∈ ds, y c = 0) (j : Nat) : y j = 0 := by
  obtain ⟨z, hz⟩ := RL_coef hy
  have el := e.len
  have key : ∀ s, s < E.length → z s = 0 := by
    intro s
    induction s using Nat.strongRecOn with
    | ind s ih =>
      intro hs
      have hc : ds[s]? = some (ds.getD s 0) := by rw [List.getD_eq_getElem?_getD, List.getElem?_eq_getElem (by omega)]; rfl
      have hr : E[s]? = some E[s] := List.getElem?_eq_getElem hs
      obtain ⟨_, _, rp⟩ := e.row s _ _ hc hr
      have h1 := hz (ds.getD s 0)
      rw [h0 _ (List.mem_of_getElem? hc), sm_one hs (fun t ht hne => ?_), gt_at hr] at h1
      · exact (Int.mul_eq_zero.mp h1.symm).resolve_right (by omega)
      · rcases Nat.lt_or_gt_of_ne hne with h | h
        · rw [ih t h (by omega), Int.zero_mul]
        · have hc' : ds[t]? = some (ds.getD t 0) := by rw [List.getD_eq_getElem?_getD, List.getElem?_eq_getElem (by omega)]; rfl
          have hr' : E[t]? = some E[t] := List.getElem?_eq_getElem ht
          obtain ⟨_, r0, _⟩ := e.row t _ _ hc' hr'
          have p := List.pairwise_iff_getElem.mp e.asc s t (by omega) (by omega) h
          rw [(List.getElem?_eq_some_iff.mp hc).2, (List.getElem?_eq_some_iff.mp hc').2] at p
          rw [gt_at hr', r0 _ p, Int.mul_zero]
  rw [hz j]
  exact sm_zero fun s hs => by rw [key s hs, Int.zero_mul]
theorem sp_dv0 {n : Nat} {E : List (List Int)} {v y : Vc} (h : ∀ e ∈ E, dv n (fv e) v = 0) (hy : Sp (RL E) y) : dv n y v = 0 := by
  induction hy with
  | zero => exact sm_zero fun i _ => by simp
  | @add u w k hu _ ih =>
    obtain ⟨r, hr, rfl⟩ := hu
    rw [dv_addl, ih, h r hr]; simp
end Hn
namespace Hg
open PySem PySem.Spec PyProof.Rows L2
/-- the dual of a frame's lattice by the frame's forms -/
structure FrRaw (n : Nat) (U F : List (List Int)) (ds : List Int) (R E G : List (List Int)) (g f : Int) (cl : Nat → Hn.Vc) : Prop where
  frm : Hn.Frm n U F
  dl : ds.length = n
  d0 : ∀ d ∈ ds, 0 ≤ d
  hR : ∀ v, Hn.Sp (Hn.RL R) v ↔ Hn.Sp (Hn.RL (Hn.timesL ds U)) v
  hE : Hn.Hnf n (Hn.VanP n R) E
  g0 : 0 < g
  gd : ∀ i, i < n → 0 < ds.getD i 0 → ds.getD i 0 ∣ g
  f0 : 0 < f
  ce : ∀ i, i < n → ∃ e, Hn.Sp (Hn.RL E) e ∧ ∀ j, cl i j = f * Hn.gt F i j + e j
  cz : ∀ i, i < n → ∀ qs, Hn.EchR n qs E → ∀ c ∈ qs, cl i c = 0
  g1 : ∀ r ∈ G, ∃ i, i < n ∧ 0 < ds.getD i 0 ∧ ∀ j, Hn.fv r j = g / ds.getD i 0 * cl i j
  g2 : ∀ i, i < n → 0 < ds.getD i 0 → ∃ r ∈ G, ∀ j, Hn.fv r j = g / ds.getD i 0 * cl i j
section
variable {n : Nat} {U F R E G C : List (List Int)} {ds : List Int} {g f : Int} {cl : Nat → Hn.Vc}
theorem FrRaw.inR (h : FrRaw n U F ds R E G g f cl) (v : Hn.Vc) : Hn.Sp (Hn.RL R) v ↔ (∀ j, n ≤ j → v j = 0) ∧ ∀ i, i < n → ds.getD i 0 ∣ Hn.dv n (Hn.gt F i) v := (h.hR v).trans (h.frm.lat h.dl v)
theorem FrRaw.van (h : FrRaw n U F ds R E G g f cl) {v : Hn.Vc} (hv : Hn.Sp (Hn.RL R) v) : ∀ e ∈ E, Hn.dv n (Hn.fv e) v = 0 := fun e he => by
  have hx := (h.hE.span _).mpr (.of ⟨e, he, rfl⟩)
  rw [Hn.dv_comm]
  exact Hn.sp_dv0 (fun r hr => by rw [Hn.dv_comm, Hn.dv_comm]; exact hx.2 r hr) hv
theorem FrRaw.dvd (h : FrRaw n U F ds R E G g f cl) (hC : ∀ v, Hn.Sp (Hn.RL C) v ↔ Hn.Sp (Hn.RL G) v) : ∀ r ∈ R, ∀ d ∈ C, g * f ∣ Hn.dv n (Hn.fv d) (Hn.fv r) := by
  intro r hr d hd
  have hv : Hn.Sp (Hn.RL R) (Hn.fv r) := .of ⟨r, hr, rfl⟩
  have key : ∀ w, Hn.Sp (Hn.RL G) w → g * f ∣ Hn.dv n w (Hn.fv r) := fun w hw => by
    induction hw with
    | zero => exact ⟨0, by rw [Int.mul_zero]; exact Hn.sm_zero fun i _ => by simp⟩
    | @add u w k hu _ ih =>
      obtain ⟨q, hq, rfl⟩ := hu
      rw [Hn.dv_addl]
      refine Int.dvd_add (Int.dvd_mul_of_dvd_right ?_) ih
      obtain ⟨i, hi, dp, eq⟩ := h.g1 q hq
      obtain ⟨e, he, ee⟩ := h.ce i hi
      obtain ⟨k', hk⟩ := h.gd i hi dp
      obtain ⟨z, hz⟩ := ((h.inR _).mp hv).2 i hi
      have e0 : Hn.dv n e (Hn.fv r) = 0 := Hn.sp_dv0 (h.van hv) he
      have e1 : Hn.dv n (Hn.fv q) (Hn.fv r) = k' * (f * Hn.dv n (Hn.gt F i) (Hn.fv r) + Hn.dv n e (Hn.fv r)) := by
        have hfe : (fun j => f * Hn.gt F i j + e j) = cl i := (funext fun j => (ee j)).symm
        rw [← Hn.dv_addl, hfe]
        unfold Hn.dv
        rw [← Hn.sm_mul]
        refine Hn.sm_congr fun j _ => ?_
        rw [eq, hk, Int.mul_ediv_cancel_left _ (by omega), Int.mul_assoc]
      rw [e1, e0, hz, hk]
      exact ⟨z, by grind⟩
  exact key _ ((hC _).mp (.of ⟨d, hd, rfl⟩))
theorem FrRaw.col (h : FrRaw n U F ds R E G g f cl) (hC : ∀ v, Hn.Sp (Hn.RL C) v ↔ Hn.Sp (Hn.RL G) v) : ∀ qs, Hn.EchR n qs E → ∀ d ∈ C, ∀ p ∈ qs, Hn.fv d p = 0 := by
  intro qs eE d hd p hp
  refine ((hC _).mp (.of ⟨d, hd, rfl⟩)).at0 fun u ⟨q, hq, e⟩ => ?_
  obtain ⟨i, hi, _, eq⟩ := h.g1 q hq
  rw [e, eq, h.cz i hi qs eE p hp, Int.mul_zero]
theorem FrRaw.all (h : FrRaw n U F ds R E G g f cl) (hC : ∀ v, Hn.Sp (Hn.RL C) v ↔ Hn.Sp (Hn.RL G) v) (u : Hn.Vc) (q : Int) (q0 : q ≠ 0) (hu : ∀ j, n ≤ j → u j = 0) (hc : ∀ qs, Hn.EchR n qs E → ∀ c ∈ qs, u c = 0) (hr : ∀ r ∈ R, q ∣ Hn.dv n u (Hn.fv r)) :
    ∃ w, Hn.Sp (Hn.RL C) w ∧ ∀ j, g * f * u j = q * w j := by
  have dn : ∀ i, i < n → 0 ≤ ds.getD i 0 := fun i hi => by
    rw [List.getD_eq_getElem?_getD, List.getElem?_eq_getElem (by rw [h.dl]; exact hi)]
    exact h.d0 _ (List.getElem_mem _)
  have all_ : ∀ x, Hn.Sp (Hn.RL R) x → q ∣ Hn.dv n u x := fun x hx => by
    induction hx with
    | zero => exact ⟨0, by rw [Int.mul_zero]; exact Hn.sm_zero fun i _ => by simp⟩
    | @add a b k ha _ ih =>
      obtain ⟨r, hr', rfl⟩ := ha
      rw [Hn.dv_comb]
      exact Int.dvd_add (Int.dvd_mul_of_dvd_right (hr r hr')) ih
  obtain ⟨qs, eE⟩ := h.hE.ech
  have full := h.frm.swap.full (x := u) hu
  have tq : ∀ i, i < n → q ∣ ds.getD i 0 * Hn.dv n (Hn.gt U i) u := fun i hi => by
    have h1 : Hn.Sp (Hn.RL R) (fun j => ds.getD i 0 * Hn.gt U i j) := (h.hR _).mpr ((h.frm.lat h.dl _).mpr ((h.frm.fpU hi).mpr (Int.dvd_refl _)))
    have h2 := all_ _ h1
    have h3 : Hn.dv n u (fun j => ds.getD i 0 * Hn.gt U i j) = ds.getD i 0 * Hn.dv n (Hn.gt U i) u := by
      rw [Hn.dv_comm (f := Hn.gt U i)]
      unfold Hn.dv
      rw [← Hn.sm_mul]
      exact Hn.sm_congr fun j _ => by grind
    rwa [h3] at h2
  have y0 : ∀ j, f * u j - Hn.sm n (fun i => (if 0 < ds.getD i 0 then Hn.dv n (Hn.gt U i) u else 0) * cl i j) = 0 := by
    refine Hn.ech_pin eE ?_ fun c hcq => ?_
    · have ex : ∀ i, ∃ e, i < n → Hn.Sp (Hn.RL E) e ∧ ∀ j, cl i j = f * Hn.gt F i j + e j := fun i => by
        by_cases hi : i < n
        · obtain ⟨e, he⟩ := h.ce i hi
          exact ⟨e, fun _ => he⟩
        · exact ⟨fun _ => 0, fun h => absurd h hi⟩
      have he := fun i => Classical.choose_spec (ex i)
      have hs : Hn.Sp (Hn.RL E) fun j => Hn.sm n fun i => (1 : Int) * (if 0 < ds.getD i 0 then (0 - Hn.dv n (Hn.gt U i) u) * Classical.choose (ex i) j else f * Hn.dv n (Hn.gt U i) u * Hn.gt F i j) := Hn.Sp.sumz (us := fun i j => if 0 < ds.getD i 0 then (0 - Hn.dv n (Hn.gt U i) u) * Classical.choose (ex i) j else f * Hn.dv n (Hn.gt U i) u * Hn.gt F i j) (fun _ => 1) fun i hi => .inr (by
        by_cases hd : 0 < ds.getD i 0
        · simp only [if_pos hd]
          exact (he i hi).1.mul _
        · simp only [if_neg hd]
          have dz : ds.getD i 0 = 0 := by have := dn i hi; omega
          suffices hs : Hn.VanP n R (Hn.gt F i) from ((h.hE.span _).mp hs).mul _
          refine ⟨fun j hj => Hn.gt_out h.frm.fs hj, fun r hr => ?_⟩
          have := ((h.inR _).mp (.of ⟨r, hr, rfl⟩)).2 i hi
          rw [dz] at this
          rw [Hn.dv_comm]
          exact Int.zero_dvd.mp this)
      refine hs.cast fun j => ?_
      rw [full j]
      have e1 : f * Hn.sm n (fun i => Hn.dv n (Hn.gt U i) u * Hn.gt F i j) = Hn.sm n fun i => f * (Hn.dv n (Hn.gt U i) u * Hn.gt F i j) := (Hn.sm_mul _ _ _).symm
      rw [e1]
      have e2 := Hn.sm_add (k := n) (f := fun i => (1 : Int) * (if 0 < ds.getD i 0 then (0 - Hn.dv n (Hn.gt U i) u) * Classical.choose (ex i) j else f * Hn.dv n (Hn.gt U i) u * Hn.gt F i j)) (g := fun i => (if 0 < ds.getD i 0 then Hn.dv n (Hn.gt U i) u else 0) * cl i j)
      have e3 : Hn.sm n (fun i => (1 : Int) * (if 0 < ds.getD i 0 then (0 - Hn.dv n (Hn.gt U i) u) * Classical.choose (ex i) j else f * Hn.dv n (Hn.gt U i) u * Hn.gt F i j) + (if 0 < ds.getD i 0 then Hn.dv n (Hn.gt U i) u else 0) * cl i j) = Hn.sm n fun i => f * (Hn.dv n (Hn.gt U i) u * Hn.gt F i j) := Hn.sm_congr fun i hi => by
        by_cases hd : 0 < ds.getD i 0
        · rw [if_pos hd, if_pos hd, (he i hi).2 j]; grind
        · rw [if_neg hd, if_neg hd]; grind
      omega
    · show f * u c - Hn.sm n (fun i => (if 0 < ds.getD i 0 then Hn.dv n (Hn.gt U i) u else 0) * cl i c) = 0
      rw [hc qs eE c hcq, Hn.sm_zero fun i hi => by rw [h.cz i hi qs eE c hcq, Int.mul_zero]]; simp
  refine ⟨fun j => Hn.sm n fun i => (if 0 < ds.getD i 0 then ds.getD i 0 * Hn.dv n (Hn.gt U i) u / q else 0) * (g / ds.getD i 0 * cl i j), ?_, fun j => ?_⟩
  · refine Hn.Sp.sumz (us := fun i j => g / ds.getD i 0 * cl i j) _ fun i hi => ?_
    by_cases hd : 0 < ds.getD i 0
    · obtain ⟨r, hr', e⟩ := h.g2 i hi hd
      exact .inr (((hC _).mpr (.of ⟨r, hr', rfl⟩)).cast fun j => e j)
    · exact .inl (if_neg hd)
  · have h1 : f * u j = Hn.sm n fun i => (if 0 < ds.getD i 0 then Hn.dv n (Hn.gt U i) u else 0) * cl i j := by have := y0 j; omega
    rw [Int.mul_assoc, h1, ← Hn.sm_mul, ← Hn.sm_mul]
    refine Hn.sm_congr fun i hi => ?_
    by_cases hd : 0 < ds.getD i 0
    · rw [if_pos hd, if_pos hd]
      obtain ⟨z, hz⟩ := tq i hi
      obtain ⟨k, hk⟩ := h.gd i hi hd
      rw [hz, Int.mul_ediv_cancel_left _ q0, hk, Int.mul_ediv_cancel_left _ (by omega)]
      grind
    · rw [if_neg hd, if_neg hd]; simp
end
end Hg
set_option maxHeartbeats 4000000
namespace Hg
open PySem PySem.Spec PyProof.Rows L2
end Hg
namespace Hg
open PySem PySem.Spec PyProof.Rows L2
end Hg
set_option maxHeartbeats 4000000
namespace Hg
open PySem PySem.Spec PyProof.Rows L2
def rowsD (E : List (List Int)) : PyData := .tuple (E.map fun r => PyData.tuple (r.map PyData.int))
end Hg
namespace Hg
open PySem PySem.Spec PyProof.Rows L2
end Hg
set_option maxHeartbeats 4000000
namespace Hn
/-! ### a number as a product of powers without common divisors -/
def prQ : List (Nat × Nat) → Nat
  | [] => 1
  | x :: L => x.2 * prQ L
theorem prQ_snoc {x : Nat × Nat} : ∀ {L : List (Nat × Nat)}, prQ (L ++ [x]) = prQ L * x.2
  | [] => by simp [prQ]
  | y :: L => by
    show y.2 * prQ (L ++ [x]) = y.2 * prQ L * x.2
    rw [prQ_snoc, Nat.mul_assoc]
structure PQ (N : Nat) (L : List (Nat × Nat)) : Prop where
  prod : prQ L = N
  cop : L.Pairwise fun x y => Nat.Coprime x.2 y.2
  two : ∀ x ∈ L, 2 ≤ x.1 ∧ 2 ≤ x.2
  le : ∀ x ∈ L, x.1 ≤ x.2
  pw : ∀ x ∈ L, ∃ e, x.2 = x.1 ^ (e + 1)
  mn : ∀ x ∈ L, ∀ g, 2 ≤ g → g < x.1 → g ≤ 1000 → ¬ g ∣ x.1
  asc : L.Pairwise fun x y => x.1 < y.1
/-- while the number is divided by the factors from 2 on: f is next, m is left -/
structure PI (N f m : Nat) (L : List (Nat × Nat)) : Prop where
  prod : m * prQ L = N
  m1 : 1 ≤ m
  cop : L.Pairwise fun x y => Nat.Coprime x.2 y.2
  two : ∀ x ∈ L, 2 ≤ x.1 ∧ 2 ≤ x.2
  cm : ∀ x ∈ L, Nat.Coprime x.2 m
  no : ∀ g, 2 ≤ g → g < f → ¬ g ∣ m
  len : L.length + 2 ≤ f
  le : ∀ x ∈ L, x.1 ≤ x.2
  lt : ∀ x ∈ L, x.1 < f
  pw : ∀ x ∈ L, ∃ e, x.2 = x.1 ^ (e + 1)
  mn : ∀ x ∈ L, ∀ g, 2 ≤ g → g < x.1 → ¬ g ∣ x.1
  asc : L.Pairwise fun x y => x.1 < y.1
theorem PI.skip {N f m : Nat} {L : List (Nat × Nat)} (h : PI N f m L) (hf : ¬ f ∣ m) : PI N (f + 1) m L :=
  ⟨h.prod, h.m1, h.cop, h.two, h.cm, fun g h1 h2 => by
    by_cases e : g = f
    · rw [e]; exact hf
    · exact h.no g h1 (by omega), by have := h.len; omega, h.le, fun x hx => Nat.lt_succ_of_lt (h.lt x hx), h.pw, h.mn, h.asc⟩
/-- m = q * m', q a power of f, m' no multiple of f -/
theorem PI.more {N f m m' e : Nat} {L : List (Nat × Nat)} (h : PI N f m L) (f2 : 2 ≤ f) (hm : m = f ^ (e + 1) * m') (hf : ¬ f ∣ m') : PI N (f + 1) m' (L ++ [(f, f ^ (e + 1))]) := by
  have m1 : 1 ≤ m' := by
    have := h.m1
    refine Nat.one_le_iff_ne_zero.mpr fun hz => ?_
    rw [hm, hz, Nat.mul_zero] at this
    omega
  have q2 : 2 ≤ f ^ (e + 1) := by
    rw [Nat.pow_succ]
    exact Nat.le_trans (by omega : 2 ≤ 1 * f) (Nat.mul_le_mul_right _ (Nat.one_le_pow _ _ (by omega)))
  have dm : m' ∣ m := ⟨f ^ (e + 1), by rw [hm, Nat.mul_comm]⟩
  have cf : Nat.Coprime f m' := by
    refine Classical.byContradiction fun hne => ?_
    have g0 : 0 < Nat.gcd f m' := Nat.gcd_pos_of_pos_left _ (by omega)
    have g1 : Nat.gcd f m' ≠ 1 := hne
    have gl : Nat.gcd f m' ≤ f := Nat.le_of_dvd (by omega) (Nat.gcd_dvd_left _ _)
    rcases Nat.lt_or_eq_of_le gl with hl | hl
    · exact h.no _ (by omega) hl (Nat.dvd_trans (Nat.gcd_dvd_right _ _) dm)
    · exact hf (by rw [← hl]; exact Nat.gcd_dvd_right _ _)
  refine ⟨?_, m1, ?_, ?_, ?_, fun g h1 h2 => ?_, by rw [List.length_append]; have := h.len; simp; omega, fun x hx => ?_, fun x hx => ?_, fun x hx => ?_, fun x hx => ?_, ?_⟩
  · rw [prQ_snoc, ← h.prod, hm]
    show m' * (prQ L * f ^ (e + 1)) = f ^ (e + 1) * m' * prQ L
    grind
  · refine List.pairwise_append.mpr ⟨h.cop, List.pairwise_singleton _ _, fun x hx y hy => ?_⟩
    rw [List.mem_singleton.mp hy]
    exact Nat.Coprime.coprime_dvd_right ⟨m', hm⟩ (h.cm x hx)
  · intro x hx
    rcases List.mem_append.mp hx with hx | hx
    · exact h.two x hx
    · rw [List.mem_singleton.mp hx]; exact ⟨f2, q2⟩
  · intro x hx
    rcases List.mem_append.mp hx with hx | hx
    · exact Nat.Coprime.coprime_dvd_right dm (h.cm x hx)
    · rw [List.mem_singleton.mp hx]
      exact Nat.Coprime.pow_left _ cf
  · by_cases e : g = f
    · rw [e]; exact hf
    · exact fun hg => h.no g h1 (by omega) (Nat.dvd_trans hg dm)
  · rcases List.mem_append.mp hx with hx | hx
    · exact h.le x hx
    · rw [List.mem_singleton.mp hx]
      show f ≤ f ^ (e + 1)
      rw [Nat.pow_succ]
      exact Nat.le_trans (by omega : f ≤ 1 * f) (Nat.mul_le_mul_right _ (Nat.one_le_pow _ _ (by omega)))
  · rcases List.mem_append.mp hx with hx | hx
    · exact Nat.lt_succ_of_lt (h.lt x hx)
    · rw [List.mem_singleton.mp hx]; exact Nat.lt_succ_self _
  · rcases List.mem_append.mp hx with hx | hx
    · exact h.pw x hx
    · rw [List.mem_singleton.mp hx]; exact ⟨e, rfl⟩
  · rcases List.mem_append.mp hx with hx | hx
    · exact h.mn x hx
    · rw [List.mem_singleton.mp hx]
      intro g h1 h2 hd
      exact h.no g h1 h2 (Nat.dvd_trans hd ⟨f ^ e * m', by rw [hm, Nat.pow_succ, Nat.mul_comm (f ^ e) f, Nat.mul_assoc]⟩)
  · refine List.pairwise_append.mpr ⟨h.asc, List.pairwise_singleton _ _, fun x hx y hy => ?_⟩
    rw [List.mem_singleton.mp hy]
    exact h.lt x hx
theorem cop_prQ {m : Nat} : ∀ {L : List (Nat × Nat)}, (∀ y ∈ L, Nat.Coprime m y.2) → Nat.Coprime m (prQ L)
  | [], _ => Nat.coprime_one_right m
  | y :: L, h => Nat.Coprime.mul_right (h y (.head _)) (cop_prQ fun z hz => h z (List.mem_cons_of_mem _ hz))
/-- the sum of a lattice and the multiples of another one -/
def LoP (R S : Vc → Prop) (q : Int) (v : Vc) : Prop := ∃ r s : Vc, R r ∧ S s ∧ ∀ j, v j = r j + q * s j
theorem LoP.mul {R S : Vc → Prop} (hR : Lat R) (hS : Lat S) (sub : ∀ v, R v → S v) {a b : Nat} (c : Nat.Coprime a b) {v : Vc} (ha : LoP R S a v) (hb : LoP R S b v) : LoP R S ((a * b : Nat) : Int) v := by
  obtain ⟨r1, s1, h1, h2, e1⟩ := ha
  obtain ⟨r2, s2, h3, h4, e2⟩ := hb
  obtain ⟨x, y, e⟩ := gcd_comb (a : Int) (b : Int)
  have g1 : ((Int.gcd (a : Int) (b : Int) : Nat) : Int) = 1 := by
    show ((Nat.gcd a b : Nat) : Int) = 1
    rw [show Nat.gcd a b = 1 from c]; rfl
  rw [g1] at e
  refine ⟨fun j => x * a * r2 j + y * b * r1 j, fun j => x * s2 j + y * s1 j, ?_, ?_, fun j => ?_⟩
  · exact hR.c _ _ _ h3 (hR.mul _ h1)
  · exact hS.c _ _ _ h4 (hS.mul _ h2)
  · have h5 : v j = (x * a + y * b) * v j := by rw [e, Int.one_mul]
    have h6 := e1 j
    have h7 := e2 j
    have e3 : (x * a + y * b) * v j = x * a * v j + y * b * v j := by grind
    rw [h5, e3]
    conv => lhs; rw [h7]
    have e4 : y * ↑b * (r2 j + ↑b * s2 j) = y * ↑b * v j := by rw [h7]
    rw [e4, h6, Int.natCast_mul]
    grind
/-- what lies in the sum of the lattice with the multiples by every power lies in it -/
theorem LoP.all {R S : Vc → Prop} (hR : Lat R) (hS : Lat S) (sub : ∀ v, R v → S v) {v : Vc} (hv : S v) : ∀ {L : List (Nat × Nat)}, (L.Pairwise fun x y => Nat.Coprime x.2 y.2) → (∀ x ∈ L, LoP R S (x.2 : Nat) v) → LoP R S ((prQ L : Nat) : Int) v
  | [], _, _ => ⟨fun _ => 0, v, hR.z, hv, fun j => by simp [prQ]⟩
  | x :: L, hp, h => by
    obtain ⟨p1, p2⟩ := List.pairwise_cons.mp hp
    have ih := LoP.all hR hS sub hv p2 fun y hy => h y (List.mem_cons_of_mem _ hy)
    exact LoP.mul hR hS sub (cop_prQ fun y hy => p1 y hy) (h x (.head _)) ih
theorem LoP.back {R S : Vc → Prop} (hR : Lat R) (hS : Lat S) (sub : ∀ v, R v → S v) {N : Nat} {L : List (Nat × Nat)} (hN : ∀ v, S v → R fun j => (N : Int) * v j) (pq : PQ N L) (v : Vc) : R v ↔ S v ∧ ∀ x ∈ L, LoP R S (x.2 : Nat) v := by
  constructor
  · exact fun h => ⟨sub v h, fun x _ => ⟨v, fun _ => 0, h, hS.z, fun j => by simp⟩⟩
  · rintro ⟨h1, h2⟩
    obtain ⟨r, s, hr, hs, e⟩ := LoP.all hR hS sub h1 pq.cop h2
    rw [pq.prod] at e
    exact Lat.cast (hR.add hr (hN s hs)) fun j => (e j).symm
end Hn
namespace Hg
open PySem PySem.Spec PyProof.Rows L2
/-- a list of pairs of numbers -/
def PrsAt (H : Hp) (as : List Addr) (L : List (Nat × Nat)) : Prop := as.length = L.length ∧ ∀ (i : Nat) (a : Addr) (x : Nat × Nat), as[i]? = some a → L[i]? = some x → H a = some (.tup [.int (x.1 : Nat), .int (x.2 : Nat)])
theorem PrsAt.mono {H H' : Hp} {as : List Addr} {L : List (Nat × Nat)} (h : PrsAt H as L) (k : ∀ a xs, H a = some (.tup xs) → H' a = some (.tup xs)) : PrsAt H' as L := ⟨h.1, fun i a x h1 h2 => k _ _ (h.2 i a x h1 h2)⟩
theorem PrsAt.snoc {H : Hp} {as : List Addr} {L : List (Nat × Nat)} {a : Addr} {x : Nat × Nat} (h : PrsAt H as L) (ha : H a = some (.tup [.int (x.1 : Nat), .int (x.2 : Nat)])) : PrsAt H (as ++ [a]) (L ++ [x]) := by
  refine ⟨by rw [List.length_append, List.length_append, h.1]; rfl, fun i b y h1 h2 => ?_⟩
  by_cases hi : i < as.length
  · rw [List.getElem?_append_left hi] at h1
    rw [List.getElem?_append_left (by rw [← h.1]; exact hi)] at h2
    exact h.2 i b y h1 h2
  · rw [List.getElem?_append_right (by omega)] at h1
    rw [List.getElem?_append_right (by rw [← h.1]; omega), ← h.1] at h2
    have h0 : i - as.length = 0 := by have := (List.getElem?_eq_some_iff.mp h1).1; simp at this; omega
    rw [h0] at h1 h2
    cases h1
    cases h2
    exact ha
end Hg
set_option maxHeartbeats 4000000
namespace Hg
open PySem PySem.Spec PyProof.Rows L2
/-- a lattice by its saturation and one lattice for each power -/
structure LocR (n : Nat) (R S : List (List Int)) (L : List (Nat × Nat)) (Ps : List (List (List Int))) : Prop where
  sat : Hn.Hnf n (Hn.SatP n R) S
  sub : ∀ v, Hn.Sp (Hn.RL R) v → Hn.Sp (Hn.RL S) v
  idx : ∃ N : Nat, 1 ≤ N ∧ (∀ v, Hn.Sp (Hn.RL S) v → Hn.Sp (Hn.RL R) fun j => (N : Int) * v j) ∧ Hn.PQ N L
  len : Ps.length = L.length
  part : ∀ (i : Nat) (x : Nat × Nat) (P : List (List Int)), L[i]? = some x → Ps[i]? = some P → Hn.Hnf n (Hn.LoP (Hn.Sp (Hn.RL R)) (Hn.Sp (Hn.RL S)) (x.2 : Nat)) P
  cnt : ∃ N : Nat, Hn.PQ N L ∧ Hn.Idx (Hn.Sp (Hn.RL S)) (Hn.Sp (Hn.RL R)) N
theorem LocR.lat {n : Nat} {R S : List (List Int)} {L : List (Nat × Nat)} {Ps : List (List (List Int))} (h : LocR n R S L Ps) (v : Hn.Vc) : (Hn.Sp (Hn.RL S) v ∧ ∀ P ∈ Ps, Hn.Sp (Hn.RL P) v) ↔ Hn.Sp (Hn.RL R) v := by
  obtain ⟨N, _, hN, pq⟩ := h.idx
  rw [Hn.LoP.back (Hn.Lat.sp _) (Hn.Lat.sp _) h.sub hN pq v]
  refine and_congr_right fun _ => ⟨fun hp x hx => ?_, fun hp P hP => ?_⟩
  · obtain ⟨i, hi⟩ := List.mem_iff_getElem?.mp hx
    have il := (List.getElem?_eq_some_iff.mp hi).1
    have hP : Ps[i]? = some (Ps[i]'(by rw [h.len]; exact il)) := List.getElem?_eq_getElem _
    exact ((h.part i x _ hi hP).span v).mpr (hp _ (List.mem_of_getElem? hP))
  · obtain ⟨i, hi⟩ := List.mem_iff_getElem?.mp hP
    have il := (List.getElem?_eq_some_iff.mp hi).1
    have hx : L[i]? = some (L[i]'(by rw [← h.len]; exact il)) := List.getElem?_eq_getElem _
    exact ((h.part i _ P hx hi).span v).mp (hp _ (List.mem_of_getElem? hx))
/-- parts in tuples -/
def PartsAt (H : Hp) (ts : List Addr) (L : List (Nat × Nat)) (Ps : List (List (List Int))) : Prop := ts.length = Ps.length ∧ Ps.length = L.length ∧ ∀ (i : Nat) (t : Addr) (x : Nat × Nat) (P : List (List Int)), ts[i]? = some t → L[i]? = some x → Ps[i]? = some P → ∃ (b : Addr) (bs : List Addr), H t = some (.tup [.int (x.1 : Nat), .ref b]) ∧ H b = some (.tup (bs.map V.ref)) ∧ RowsIn H bs P
theorem PartsAt.mono {H H' : Hp} {ts : List Addr} {L : List (Nat × Nat)} {Ps : List (List (List Int))} (h : PartsAt H ts L Ps) (k : ∀ a xs, H a = some (.tup xs) → H' a = some (.tup xs)) : PartsAt H' ts L Ps :=
  ⟨h.1, h.2.1, fun i t x P h1 h2 h3 => let ⟨b, bs, a1, a2, a3⟩ := h.2.2 i t x P h1 h2 h3; ⟨b, bs, k _ _ a1, k _ _ a2, a3.mono k⟩⟩
theorem PartsAt.snoc {H : Hp} {ts : List Addr} {L : List (Nat × Nat)} {Ps : List (List (List Int))} {t b : Addr} {bs : List Addr} {x : Nat × Nat} {P : List (List Int)} (h : PartsAt H ts L Ps) (ht : H t = some (.tup [.int (x.1 : Nat), .ref b])) (hb : H b = some (.tup (bs.map V.ref))) (hP : RowsIn H bs P) : PartsAt H (ts ++ [t]) (L ++ [x]) (Ps ++ [P]) := by
  refine ⟨by rw [List.length_append, List.length_append, h.1]; rfl, by rw [List.length_append, List.length_append, h.2.1]; rfl, fun i u y P' h1 h2 h3 => ?_⟩
  have l1 := h.1
  have l2 := h.2.1
  by_cases hi : i < ts.length
  · rw [List.getElem?_append_left hi] at h1
    rw [List.getElem?_append_left (by omega)] at h2 h3
    exact h.2.2 i u y P' h1 h2 h3
  · rw [List.getElem?_append_right (by omega)] at h1 h2 h3
    have h0 : i - ts.length = 0 := by have := (List.getElem?_eq_some_iff.mp h1).1; simp at this; omega
    rw [h0] at h1
    rw [show i - L.length = 0 by omega] at h2
    rw [show i - Ps.length = 0 by omega] at h3
    cases h1
    cases h2
    cases h3
    exact ⟨b, bs, ht, hb, hP⟩
/-- parts in tuples or lists -/
def PartsK (K : PySem.W.Frag) (H : Hp) (ts : List V) (Ps : List (List (List Int))) : Prop := ts.length = Ps.length ∧ ∀ (i : Nat) (v : V) (P : List (List Int)), ts[i]? = some v → Ps[i]? = some P → ∃ (kt kb : Bool) (t b : Addr) (w : V) (ys : List V), v = .ref t ∧ SqK K kt H t [w, .ref b] ∧ SqK K kb H b ys ∧ RowsK K H ys P
theorem PartsK.ex {K : PySem.W.Frag} {H H' : Hp} {ts : List V} {Ps : List (List (List Int))} (e : Ex H H') (h : PartsK K H ts Ps) : PartsK K H' ts Ps :=
  ⟨h.1, fun i v P h1 h2 => let ⟨kt, kb, t, b, w, ys, a1, a2, a3, a4⟩ := h.2 i v P h1 h2; ⟨kt, kb, t, b, w, ys, a1, e.seq a2, e.seq a3, a4.ex e⟩⟩
structure BlOk (n b : Nat) (S : List (List Int)) (Ps : List (List (List Int))) : Prop where
  ss : ∃ V0, Hn.Hnf n V0 S
  pb : ∀ P ∈ Ps, P.length ≤ 100 ∧ ∀ r ∈ P, r.length = n ∧ Hn.bnd (2 ^ b) (Hn.fv r)
  mb : ∀ t C, t ≤ Ps.length → Hn.Hnf n (fun v => Hn.Sp (Hn.RL S) v ∧ ∀ P ∈ Ps.take t, Hn.Sp (Hn.RL P) v) C → ∀ r ∈ C, Hn.bnd (2 ^ b) (Hn.fv r)
  m : rm (n + n) (2 ^ b)
end Hg
set_option maxHeartbeats 4000000
namespace Hg
open PySem PySem.Spec PyProof.Rows L2
end Hg
namespace Hn
end Hn
set_option maxHeartbeats 4000000
namespace Hg
open PySem PySem.Spec PyProof.Rows L2
/-- a representation, in tuples or lists, and what the way back wants -/
def RepK (K : PySem.W.Frag) (H : Hp) (v : V) (n : Nat) (R : List (List Int)) : Prop := ∃ (k : Bool) (rep : Addr), v = .ref rep ∧
  ((∃ (b : Addr) (kb : Bool) (ys : List V), SqK K k H rep [.str "primal", .ref b] ∧ SqK K kb H b ys ∧ RowsK K H ys R) ∨
   (∃ (ke kd : Bool) (ea da : Addr) (s a1 b1 a2 b2 c : Nat) (es ds : List V) (E D : List (List Int)), SqK K k H rep [.str "dual", .ref ea, .int (s : Nat), .ref da] ∧ SqK K ke H ea es ∧ RowsK K H es E ∧ SqK K kd H da ds ∧ RowsK K H ds D ∧ E.length ≤ 100 ∧ D.length ≤ 100 ∧ DualR n R E (s : Nat) D ∧ BaOk n s a1 b1 a2 b2 c E D) ∨
   (∃ (ks kp : Bool) (sa pa : Addr) (b : Nat) (ss ts : List V) (S : List (List Int)) (L : List (Nat × Nat)) (Ps : List (List (List Int))), SqK K k H rep [.str "local", .ref sa, .ref pa] ∧ SqK K ks H sa ss ∧ RowsK K H ss S ∧ SqK K kp H pa ts ∧ PartsK K H ts Ps ∧ Ps.length ≤ 2000 ∧ LocR n R S L Ps ∧ BlOk n b S Ps))
theorem RepK.ex {K : PySem.W.Frag} {H H' : Hp} {v : V} {n : Nat} {R : List (List Int)} (e : Ex H H') (h : RepK K H v n R) : RepK K H' v n R := by
  obtain ⟨k, rep, rfl, h⟩ := h
  refine ⟨k, rep, rfl, ?_⟩
  rcases h with ⟨b, kb, ys, h1, h2, h3⟩ | ⟨ke, kd, ea, da, s, a1, b1, a2, b2, c, es, ds, E, D, h1, h2, h3, h4, h5, h6⟩ | ⟨ks, kp, sa, pa, b, ss, ts, S, L, Ps, h1, h2, h3, h4, h5, h6⟩
  · exact .inl ⟨b, kb, ys, e.seq h1, e.seq h2, h3.ex e⟩
  · exact .inr (.inl ⟨ke, kd, ea, da, s, a1, b1, a2, b2, c, es, ds, E, D, e.seq h1, e.seq h2, h3.ex e, e.seq h4, h5.ex e, h6⟩)
  · exact .inr (.inr ⟨ks, kp, sa, pa, b, ss, ts, S, L, Ps, e.seq h1, e.seq h2, h3.ex e, e.seq h4, h5.ex e, h6⟩)
end Hg
set_option maxHeartbeats 4000000
namespace Hg
open PySem PySem.Spec PyProof.Rows L2
/-! ### k83: three ways, one grain -/
end Hg
set_option maxHeartbeats 4000000
namespace Hn
/-! ### the product of the moduli; lattices between a frame's lattice and its saturation -/
end Hn
namespace Hg
open PySem PySem.Spec PyProof.Rows L2
/-! ### the numbers for frames with n <= 4 and moduli to 994009 -/
end Hg
set_option maxHeartbeats 4000000
namespace Hg
open PySem PySem.Spec PyProof.Rows L2
/-! ### representations as data -/
def primalD (R : List (List Int)) : PyData := .tuple [.str "primal", rowsD R]
/-! ### what is shown -/
structure Way (n : Nat) (R : List (List Int)) (d : PyData) : Prop where
  rep : ∀ (K : PySem.W.Frag) (H : Hp) (v : V) (d' : PyData), Dp K H v d' → fz d' = d → RepK K H v n R
  lv : ∃ ws : List Nat, ws.length ≤ 6 ∧ drwW ws ≤ 44104 ∧ (∀ w ∈ ws, w ≤ 10000) ∧ lvlW ws d
  shw : ∀ d', fz d' = d → Shw d' 4400000 ∧ d'.depth ≤ 6
/-! ### primal representations compared -/
/-! ### the list of the ways -/
def WaysP (n : Nat) (R : List (List Int)) (i : Nat) (acc : List V) (G : Hp) : Prop := acc.length = i ∧ (∀ x ∈ acc, ∃ d, Tp G x d ∧ Way n R d) ∧ ∀ x, acc[0]? = some x → Tp G x (primalD R)
theorem WaysP.mono {n : Nat} {R : List (List Int)} {i : Nat} {acc : List V} {G G' : Hp} (h : WaysP n R i acc G) (k : ∀ a ys, G a = some (.tup ys) → G' a = some (.tup ys)) : WaysP n R i acc G' :=
  ⟨h.1, fun x hx => let ⟨d, t, w⟩ := h.2.1 x hx; ⟨d, Tp.mono k _ _ t, w⟩, fun x hx => Tp.mono k _ _ (h.2.2 x hx)⟩
theorem WaysP.snoc {n : Nat} {R : List (List Int)} {i : Nat} {acc : List V} {G : Hp} {x : V} {d : PyData} (h : WaysP n R i acc G) (t : Tp G x d) (w : Way n R d) (h0 : i = 0 → d = primalD R) : WaysP n R (i + 1) (acc ++ [x]) G := by
  refine ⟨by rw [List.length_append, h.1]; rfl, fun y hy => ?_, fun y hy => ?_⟩
  · rcases List.mem_append.mp hy with hy | hy
    · exact h.2.1 y hy
    · rw [List.mem_singleton.mp hy]; exact ⟨d, t, w⟩
  · cases acc with
    | nil => cases hy; rw [← h0 h.1.symm]; exact t
    | cons a as => exact h.2.2 y hy
end Hg
set_option maxHeartbeats 4000000
namespace Hn
/-! ### primes and exact powers -/
def Pr (p : Nat) : Prop := 2 ≤ p ∧ ∀ g, 2 ≤ g → g < p → ¬ g ∣ p
theorem Pr.cop {p a : Nat} (hp : Pr p) (h : ¬ p ∣ a) : Nat.Coprime p a := by
  refine Classical.byContradiction fun hne => ?_
  have g0 : 0 < Nat.gcd p a := Nat.gcd_pos_of_pos_left _ (by have := hp.1; omega)
  have g1 : Nat.gcd p a ≠ 1 := hne
  have gl : Nat.gcd p a ≤ p := Nat.le_of_dvd (by have := hp.1; omega) (Nat.gcd_dvd_left _ _)
  rcases Nat.lt_or_eq_of_le gl with hl | hl
  · exact hp.2 _ (by omega) hl (Nat.gcd_dvd_left _ _)
  · exact h (by rw [← hl]; exact Nat.gcd_dvd_right _ _)
theorem Pr.mul {p a b : Nat} (hp : Pr p) (h : p ∣ a * b) : p ∣ a ∨ p ∣ b := by
  by_cases ha : p ∣ a
  · exact .inl ha
  · exact .inr ((hp.cop ha).dvd_of_dvd_mul_left h)
theorem Pr.pow {p a : Nat} (hp : Pr p) : ∀ {e : Nat}, p ∣ a ^ e → p ∣ a
  | 0, h => by
    rw [Nat.pow_zero] at h
    have := Nat.le_of_dvd (by omega) h
    have := hp.1
    omega
  | e + 1, h => by
    rw [Nat.pow_succ] at h
    rcases hp.mul h with h | h
    · exact Pr.pow hp h
    · exact h
theorem Pr.eq {p q : Nat} (hp : Pr p) (hq : Pr q) (h : p ∣ q) : p = q := by
  have := Nat.le_of_dvd (by have := hq.1; omega) h
  rcases Nat.lt_or_eq_of_le this with hl | hl
  · exact absurd h (hq.2 p hp.1 hl)
  · exact hl
theorem Pr.least : ∀ (m : Nat), 2 ≤ m → ∃ p, Pr p ∧ p ∣ m := fun m => by
  induction m using Nat.strongRecOn with
  | ind m ih =>
    intro h
    by_cases hp : Pr m
    · exact ⟨m, hp, Nat.dvd_refl m⟩
    · have : ∃ g, 2 ≤ g ∧ g < m ∧ g ∣ m := Classical.byContradiction fun hn => hp ⟨h, fun g h1 h2 h3 => hn ⟨g, h1, h2, h3⟩⟩
      obtain ⟨g, h1, h2, h3⟩ := this
      obtain ⟨p, p1, p2⟩ := ih g h2 h1
      exact ⟨p, p1, Nat.dvd_trans p2 h3⟩
/-- no prime above 1000 -/
def Smo (N : Nat) : Prop := ∀ p, Pr p → p ∣ N → p ≤ 1000
theorem prQ_pr {p : Nat} (hp : Pr p) : ∀ {L : List (Nat × Nat)}, p ∣ prQ L → ∃ x ∈ L, p ∣ x.2
  | [], h => by
    have := Nat.le_of_dvd (by decide : 0 < 1) (h : p ∣ 1)
    have := hp.1
    omega
  | x :: L, h => by
    rcases hp.mul (h : p ∣ x.2 * prQ L) with h | h
    · exact ⟨x, .head _, h⟩
    · obtain ⟨y, hy, h⟩ := prQ_pr hp h
      exact ⟨y, .tail _ hy, h⟩
theorem prQ_cof {x : Nat × Nat} : ∀ {L : List (Nat × Nat)}, (L.Pairwise fun x y => Nat.Coprime x.2 y.2) → x ∈ L → ∃ M, prQ L = x.2 * M ∧ Nat.Coprime x.2 M
  | y :: L, h, hx => by
    obtain ⟨h1, h2⟩ := List.pairwise_cons.mp h
    rcases List.mem_cons.mp hx with rfl | hx
    · exact ⟨prQ L, rfl, cop_prQ fun z hz => h1 z hz⟩
    · obtain ⟨M, e, c⟩ := prQ_cof h2 hx
      refine ⟨y.2 * M, ?_, Nat.Coprime.mul_right (h1 x hx).symm c⟩
      show y.2 * prQ L = _
      rw [e, Nat.mul_left_comm]
theorem PQ.dvd {N : Nat} {L : List (Nat × Nat)} (pq : PQ N L) {x : Nat × Nat} (hx : x ∈ L) : x.1 ∣ N := by
  obtain ⟨M, e, _⟩ := prQ_cof pq.cop hx
  obtain ⟨k, hk⟩ := pq.pw x hx
  rw [← pq.prod, e, hk, Nat.pow_succ]
  exact ⟨x.1 ^ k * M, by rw [Nat.mul_comm (x.1 ^ k) x.1, Nat.mul_assoc]⟩
theorem PQ.pr {N : Nat} {L : List (Nat × Nat)} (pq : PQ N L) (hs : Smo N) {x : Nat × Nat} (hx : x ∈ L) : Pr x.1 ∧ x.1 ≤ 1000 := by
  obtain ⟨p, p1, p2⟩ := Pr.least x.1 (pq.two x hx).1
  have pl := hs p p1 (Nat.dvd_trans p2 (pq.dvd hx))
  have : p ≤ x.1 := Nat.le_of_dvd (by have := (pq.two x hx).1; omega) p2
  rcases Nat.lt_or_eq_of_le this with hl | hl
  · exact absurd p2 (pq.mn x hx p p1.1 hl (by omega))
  · exact ⟨hl ▸ p1, hl ▸ pl⟩
theorem PQ.mem {N : Nat} {L : List (Nat × Nat)} (pq : PQ N L) (hs : Smo N) {p : Nat} (hp : Pr p) : p ∣ N ↔ p ∈ L.map Prod.fst := by
  constructor
  · intro h
    rw [← pq.prod] at h
    obtain ⟨x, hx, h⟩ := prQ_pr hp h
    obtain ⟨e, he⟩ := pq.pw x hx
    rw [he] at h
    exact List.mem_map.mpr ⟨x, hx, (hp.eq (pq.pr hs hx).1 (hp.pow h)).symm⟩
  · intro h
    obtain ⟨x, hx, rfl⟩ := List.mem_map.mp h
    exact pq.dvd hx
theorem asc_ext : ∀ {A B : List Nat}, A.Pairwise (· < ·) → B.Pairwise (· < ·) → (∀ x, x ∈ A ↔ x ∈ B) → A = B
  | [], [], _, _, _ => rfl
  | [], b :: B, _, _, h => absurd ((h b).mpr (.head _)) (by simp)
  | a :: A, [], _, _, h => absurd ((h a).mp (.head _)) (by simp)
  | a :: A, b :: B, hA, hB, h => by
    obtain ⟨a1, a2⟩ := List.pairwise_cons.mp hA
    obtain ⟨b1, b2⟩ := List.pairwise_cons.mp hB
    have ab : a = b := by
      have h1 := (h a).mp (.head _)
      have h2 := (h b).mpr (.head _)
      rcases List.mem_cons.mp h1 with h1 | h1
      · exact h1
      · rcases List.mem_cons.mp h2 with h2 | h2
        · exact h2.symm
        · have := a1 b h2
          have := b1 a h1
          omega
    subst ab
    congr 1
    refine asc_ext a2 b2 fun x => ⟨fun hx => ?_, fun hx => ?_⟩
    · rcases List.mem_cons.mp ((h x).mp (.tail _ hx)) with e | e
      · have := a1 x hx; omega
      · exact e
    · rcases List.mem_cons.mp ((h x).mpr (.tail _ hx)) with e | e
      · have := b1 x hx; omega
      · exact e
/-! ### local parts of a frame's lattice -/
theorem Frm.loc {n : Nat} {U F : List (List Int)} (h : Frm n U F) {d : Nat → Int} {q : Int} (v : Vc) : LoP (FP n F d) (FP n F fun i => if d i = 0 then 0 else 1) q v ↔ FP n F (fun i => (Int.gcd (d i) (if d i = 0 then 0 else q) : Int)) v := by
  constructor
  · rintro ⟨r, s, hr, hs, e⟩
    refine ⟨fun j hj => by rw [e j, hr.1 j hj, hs.1 j hj]; simp, fun i hi => ?_⟩
    have ev : dv n (gt F i) v = q * dv n (gt F i) s + dv n (gt F i) r := by
      rw [← dv_comb]
      congr 1
      funext j
      rw [e j]; omega
    have h1 := hr.2 i hi
    have h2 := hs.2 i hi
    dsimp only at h2 ⊢
    rw [ev]
    by_cases h0 : d i = 0
    · rw [if_pos h0] at h2 ⊢
      rw [h0] at h1 ⊢
      rw [Int.zero_dvd.mp h1, Int.zero_dvd.mp h2]
      simp
    · rw [if_neg h0]
      refine Int.dvd_add (Int.dvd_mul_of_dvd_left (Int.gcd_dvd_right ..)) (Int.dvd_trans (Int.gcd_dvd_left ..) h1)
  · rintro ⟨h0, hv⟩
    have key : ∀ i, ∃ ab : Int × Int, i < n → ab.1 * d i + q * ab.2 = dv n (gt F i) v ∧ (d i = 0 → ab.2 = 0) := fun i => by
      by_cases hi : i < n
      · have := hv i hi
        dsimp only at this
        obtain ⟨w, hw⟩ := this
        by_cases hd : d i = 0
        · rw [if_pos hd, hd] at hw
          exact ⟨(0, 0), fun _ => ⟨by rw [hw]; simp, fun _ => rfl⟩⟩
        · rw [if_neg hd] at hw
          obtain ⟨x, y, e⟩ := gcd_comb (d i) q
          exact ⟨(x * w, y * w), fun _ => ⟨by rw [hw, ← e]; grind, fun h => absurd h hd⟩⟩
      · exact ⟨(0, 0), fun h => absurd h hi⟩
    obtain ⟨ab, hab⟩ := Classical.axiomOfChoice key
    refine ⟨fun j => sm n fun i => ((ab i).1 * d i) * gt U i j, fun j => sm n fun i => (ab i).2 * gt U i j, ⟨fun j hj => ?_, fun i hi => ?_⟩, ⟨fun j hj => ?_, fun i hi => ?_⟩, fun j => ?_⟩
    · exact sm_zero fun i _ => by rw [gt_out h.us hj, Int.mul_zero]
    · rw [h.coord (t := fun i => (ab i).1 * d i) (fun j => rfl) hi]
      exact Int.dvd_mul_left _ _
    · exact sm_zero fun i _ => by rw [gt_out h.us hj, Int.mul_zero]
    · rw [h.coord (t := fun i => (ab i).2) (fun j => rfl) hi]
      dsimp only
      split
      · rename_i hd; rw [(hab i hi).2 hd]; exact Int.dvd_refl _
      · exact Int.one_dvd _
    · rw [h.full h0 j, ← sm_mul, ← sm_add]
      refine sm_congr fun i hi => ?_
      rw [← (hab i hi).1]
      grind
/-- the primes of the index of a frame's lattice in its saturation -/
theorem cP_pr {ds : List Int} (d0 : ∀ d ∈ ds, 0 ≤ d) {p : Nat} (hp : Pr p) : ∀ k, k ≤ ds.length → ∃ N : Nat, cP (ds.map fun d => if d = 0 then 0 else 1) ds k = N ∧ (p ∣ N → ∃ d ∈ ds, d ≠ 0 ∧ (p : Int) ∣ d)
  | 0, _ => ⟨1, rfl, fun h => by
    have := Nat.le_of_dvd (by decide : 0 < 1) h
    have := hp.1
    omega⟩
  | k + 1, hk => by
    obtain ⟨N, e, hN⟩ := cP_pr d0 hp k (by omega)
    have hd : ds[k]? = some (ds[k]'(by omega)) := List.getElem?_eq_getElem _
    generalize ds[k]'(by omega) = d at hd
    have dm := List.mem_of_getElem? hd
    have e1 : ds.getD k 0 = d := by rw [List.getD_eq_getElem?_getD, hd]; rfl
    have e2 : (ds.map fun d => if d = 0 then (0 : Int) else 1).getD k 0 = if d = 0 then 0 else 1 := by
      rw [List.getD_eq_getElem?_getD, List.getElem?_map, hd]; rfl
    have hd0 := d0 d dm
    by_cases z : d = 0
    · refine ⟨N, ?_, hN⟩
      show cP _ ds k * _ = _
      rw [e, e1, e2, if_pos z, if_neg (by decide)]
      omega
    · obtain ⟨m, rfl⟩ : ∃ m : Nat, d = (m : Int) := ⟨d.toNat, by omega⟩
      refine ⟨N * m, ?_, fun h => ?_⟩
      · show cP _ ds k * _ = _
        rw [e, e1, e2, if_neg z, if_pos (by decide), Int.ediv_one, Int.natCast_mul]
      · rcases hp.mul h with h | h
        · exact hN h
        · exact ⟨_, dm, z, Int.natCast_dvd_natCast.mpr h⟩
theorem Frm.dvd_cnt {n : Nat} {U F R S : List (List Int)} (h : Frm n U F) {ds : List Int} (dl : ds.length = n) (hR : Hnf n (FP n F fun i => ds.getD i 0) R) (hS : Hnf n (SatP n R) S) {N : Nat} (hN : ∀ v, Sp (RL S) v → Sp (RL R) fun j => (N : Int) * v j) {d : Int} (hd : d ∈ ds) (z : d ≠ 0) : d ∣ (N : Int) := by
  obtain ⟨i, hi⟩ := List.mem_iff_getElem?.mp hd
  have il : i < n := by have := (List.getElem?_eq_some_iff.mp hi).1; omega
  have ed : ds.getD i 0 = d := by rw [List.getD_eq_getElem?_getD, hi]; rfl
  have h1 : Sp (RL S) (fun j => 1 * gt U i j) := by
    rw [← hS.span, h.sat hR]
    refine (h.fpU il).mpr ?_
    rw [ed, if_neg z]
    exact Int.dvd_refl _
  have h2 := hN _ h1
  rw [← hR.span] at h2
  have h3 := (h.fpU (e := fun i => ds.getD i 0) (k := (N : Int)) il).mp (h2 |> fun t => by
    have e : (fun j => (N : Int) * (1 * gt U i j)) = fun j => (N : Int) * gt U i j := funext fun j => by rw [Int.one_mul]
    rwa [e] at t)
  rwa [ed] at h3
theorem Frm.cnt {n : Nat} {U F R S : List (List Int)} (h : Frm n U F) {ds : List Int} (dl : ds.length = n) (d0 : ∀ d ∈ ds, 0 ≤ d) (hR : Hnf n (FP n F fun i => ds.getD i 0) R) (hS : Hnf n (SatP n R) S) {N : Nat} (hI : Idx (Sp (RL S)) (Sp (RL R)) N) (hN : ∀ v, Sp (RL S) v → Sp (RL R) fun j => (N : Int) * v j) {p : Nat} (hp : Pr p) : p ∣ N ↔ ∃ d ∈ ds, d ≠ 0 ∧ (p : Int) ∣ d := by
  have g1 : ∀ i, (ds.map fun d => if d = 0 then (0 : Int) else 1).getD i 0 = if ds.getD i 0 = 0 then 0 else 1 := fun i => by
    rw [List.getD_eq_getElem?_getD, List.getD_eq_getElem?_getD, List.getElem?_map]
    cases ds[i]? <;> rfl
  have dn : ∀ i, i < n → 0 ≤ ds.getD i 0 := fun i hi => by
    rw [List.getD_eq_getElem?_getD, List.getElem?_eq_getElem (by rw [dl]; exact hi)]
    exact d0 _ (List.getElem_mem _)
  have h1 : Idx (FP n F fun i => if ds.getD i 0 = 0 then 0 else 1) (FP n F fun i => ds.getD i 0) N := hI.congr (fun v => by rw [← hS.span v, h.sat hR v]) fun v => (hR.span v).symm
  obtain ⟨N', n1, e, h2⟩ := h.idx (ds := ds.map fun d => if d = 0 then (0 : Int) else 1) (es := ds) (fun i _ => by rw [g1]; split <;> decide) dn (fun i _ => by
    rw [g1]
    split
    · rename_i z; rw [z]; exact Int.dvd_refl _
    · exact Int.one_dvd _) (fun i hi hp => by
    rw [g1] at hp
    have := dn i hi
    split at hp <;> omega) n (Nat.le_refl _)
  have h3 : Idx (FP n F fun i => if ds.getD i 0 = 0 then 0 else 1) (FP n F fun i => ds.getD i 0) N' := h2.congr (fun v => fp_congr (fun i x _ => by rw [g1]) v) fun v => fp_congr (fun i x hi => by rw [if_pos hi]) v
  have eN : N = N' := Idx.uniq (Lat.fp n F _) h1 h3
  obtain ⟨N2, e2, hp2⟩ := cP_pr d0 hp n (by omega)
  have : N2 = N := by
    have : (N2 : Int) = N' := by rw [← e2, ← e]
    omega
  subst this
  exact ⟨hp2, fun ⟨d, hd, z, hpd⟩ => Int.natCast_dvd_natCast.mp (Int.dvd_trans hpd (h.dvd_cnt dl hR hS hN hd z))⟩
end Hn
set_option maxHeartbeats 4000000
namespace Hn
/-! ### the powers of a number are unique -/
theorem PQ.uniq {N : Nat} {L M : List (Nat × Nat)} (pq : PQ N L) (pm : PQ N M) (hs : ∀ x ∈ L, x.1 ≤ 1000) : L = M := by
  have pr : ∀ x ∈ L, Pr x.1 := fun x hx => ⟨(pq.two x hx).1, fun g h1 h2 => pq.mn x hx g h1 h2 (by have := hs x hx; omega)⟩
  have sm : Smo N := fun p hp hd => by
    rw [← pq.prod] at hd
    obtain ⟨x, hx, h⟩ := prQ_pr hp hd
    obtain ⟨e, he⟩ := pq.pw x hx
    rw [he] at h
    rw [hp.eq (pr x hx) (hp.pow h)]
    exact hs x hx
  have e1 : L.map Prod.fst = M.map Prod.fst := asc_ext (List.pairwise_map.mpr pq.asc) (List.pairwise_map.mpr pm.asc) fun p => by
    constructor
    · intro h
      have hp : Pr p := by obtain ⟨x, hx, rfl⟩ := List.mem_map.mp h; exact pr x hx
      exact (pm.mem sm hp).mp ((pq.mem sm hp).mpr h)
    · intro h
      have hp : Pr p := by obtain ⟨x, hx, rfl⟩ := List.mem_map.mp h; exact (pm.pr sm hx).1
      exact (pq.mem sm hp).mp ((pm.mem sm hp).mpr h)
  have one : ∀ {A B : List (Nat × Nat)}, PQ N A → PQ N B → ∀ x ∈ A, ∀ y ∈ B, x.1 = y.1 → Pr x.1 → x.2 ∣ y.2 := fun pA pB x hx y hy exy px => by
    obtain ⟨X, hX, cX⟩ := prQ_cof pA.cop hx
    obtain ⟨Y, hY, cY⟩ := prQ_cof pB.cop hy
    obtain ⟨a, ha⟩ := pA.pw x hx
    obtain ⟨b, hb⟩ := pB.pw y hy
    have d1 : x.2 ∣ y.2 * Y := ⟨X, by rw [← hY, pB.prod, ← pA.prod, hX]⟩
    have c1 : Nat.Coprime y.1 Y := Nat.Coprime.coprime_dvd_left (by rw [hb, Nat.pow_succ]; exact Nat.dvd_mul_left _ _) cY
    have c2 : Nat.Coprime x.2 Y := by rw [ha, exy]; exact Nat.Coprime.pow_left _ c1
    exact c2.dvd_of_dvd_mul_right d1
  refine List.ext_getElem? fun i => ?_
  have e2 : (L[i]?).map Prod.fst = (M[i]?).map Prod.fst := by rw [← List.getElem?_map, ← List.getElem?_map, e1]
  cases hL : L[i]? with
  | none =>
    rw [hL] at e2
    cases hM : M[i]? with
    | none => rfl
    | some y => rw [hM] at e2; cases e2
  | some x =>
    rw [hL] at e2
    cases hM : M[i]? with
    | none => rw [hM] at e2; cases e2
    | some y =>
      rw [hM] at e2
      have exy : x.1 = y.1 := Option.some.inj e2
      have mx := List.mem_of_getElem? hL
      have my := List.mem_of_getElem? hM
      have e3 : x.2 = y.2 := Nat.dvd_antisymm (one pq pm x mx y my exy (pr x mx)) (one pm pq y my x mx exy.symm (exy ▸ pr x mx))
      rw [show x = y from Prod.ext exy e3]
/-! ### the numbers for frames with n <= 5 and moduli to 994009 -/
end Hn
namespace Hg
open PySem PySem.Spec PyProof.Rows L2
theorem LocR.uniq {n : Nat} {R S S' : List (List Int)} {L L' : List (Nat × Nat)} {Ps Ps' : List (List (List Int))} (h : LocR n R S L Ps) (g : LocR n R S' L' Ps') (hs : ∀ x ∈ L, x.1 ≤ 1000) : S' = S ∧ L' = L ∧ Ps' = Ps := by
  have e1 : S' = S := g.sat.uniq h.sat
  subst e1
  obtain ⟨N, pq, hI⟩ := h.cnt
  obtain ⟨N', pq', hI'⟩ := g.cnt
  have e2 : N = N' := Hn.Idx.uniq (Hn.Lat.sp _) hI hI'
  subst e2
  have e3 : L = L' := pq.uniq pq' hs
  subst e3
  refine ⟨rfl, rfl, List.ext_getElem? fun i => ?_⟩
  have l1 := h.len
  have l2 := g.len
  by_cases hi : i < L.length
  · have a1 : L[i]? = some L[i] := List.getElem?_eq_getElem hi
    have a2 : Ps[i]? = some (Ps[i]'(by omega)) := List.getElem?_eq_getElem _
    have a3 : Ps'[i]? = some (Ps'[i]'(by omega)) := List.getElem?_eq_getElem _
    rw [a2, a3, (g.part i _ _ a1 a3).uniq (h.part i _ _ a1 a2)]
  · rw [List.getElem?_eq_none (by omega), List.getElem?_eq_none (by omega)]
/-! ### is_representation, all three ways -/
end Hg
namespace Hg
open PySem PySem.Spec PyProof.Rows L2
theorem PartsAt.k {K : PySem.W.Frag} {H : Hp} {ts : List Addr} {L : List (Nat × Nat)} {Ps : List (List (List Int))} (h : PartsAt H ts L Ps) : PartsK K H (ts.map V.ref) Ps := by
  refine ⟨by rw [List.length_map]; exact h.1, fun i v P h1 h2 => ?_⟩
  rw [List.getElem?_map] at h1
  obtain ⟨t, ht, rfl⟩ := Option.map_eq_some_iff.mp h1
  have hi := (List.getElem?_eq_some_iff.mp h2).1
  have hx : L[i]? = some (L[i]'(by have := h.2.1; omega)) := List.getElem?_eq_getElem _
  obtain ⟨b, bs, a1, a2, a3⟩ := h.2.2 i t _ P ht hx h2
  exact ⟨true, true, t, b, _, bs.map V.ref, rfl, SqK.tup a1, SqK.tup a2, a3.k⟩
end Hg
set_option maxHeartbeats 4000000
namespace Hg
open PySem PySem.Spec PyProof.Rows L2
/-! ### k82 -/
/-- a product of two small numbers -/
def SmD (d : Int) : Prop := ∃ a b : Nat, a ≤ 997 ∧ b ≤ 997 ∧ d = ((a * b : Nat) : Int)
theorem SmD.le {d : Int} (h : SmD d) : 0 ≤ d ∧ d ≤ 994009 := by
  obtain ⟨a, b, ha, hb, rfl⟩ := h
  have := Nat.mul_le_mul ha hb
  omega
theorem SmD.pr {d : Int} (h : SmD d) (z : d ≠ 0) {p : Nat} (hp : Hn.Pr p) (hd : (p : Int) ∣ d) : p ≤ 997 := by
  obtain ⟨a, b, ha, hb, rfl⟩ := h
  have ab : a * b ≠ 0 := fun e => z (by rw [e]; rfl)
  have a0 : a ≠ 0 := fun e => ab (by rw [e, Nat.zero_mul])
  have b0 : b ≠ 0 := fun e => ab (by rw [e, Nat.mul_zero])
  rcases hp.mul (Int.natCast_dvd_natCast.mp hd) with h | h
  · have := Nat.le_of_dvd (by omega) h; omega
  · have := Nat.le_of_dvd (by omega) h; omega
def PrL (ds : List Int) (Ps : List Nat) (f : Nat) : Prop := Ps.Pairwise (· < ·) ∧ ∀ q, q ∈ Ps ↔ q < f ∧ Hn.Pr q ∧ ∃ d ∈ ds, 0 < d ∧ (q : Int) ∣ d
theorem PrL.more {ds : List Int} {Ps : List Nat} {f : Nat} (h : PrL ds Ps f) (f2 : 2 ≤ f) {d : Int} (hd : d ∈ ds) (d0 : 0 < d) (fd : (f : Int) ∣ d) (hn : ∀ k ∈ Ps, ¬ k ∣ f) : PrL ds (Ps ++ [f]) (f + 1) := by
  have pf : Hn.Pr f := ⟨f2, fun g g2 gf hg => by
    obtain ⟨p, p1, p2⟩ := Hn.Pr.least g g2
    have pl := Nat.le_of_dvd (by omega) p2
    have pf : p ∣ f := Nat.dvd_trans p2 hg
    exact hn p ((h.2 p).mpr ⟨by omega, p1, d, hd, d0, Int.dvd_trans (Int.natCast_dvd_natCast.mpr pf) fd⟩) pf⟩
  refine ⟨List.pairwise_append.mpr ⟨h.1, List.pairwise_singleton _ _, fun x hx y hy => ?_⟩, fun q => ⟨fun hq => ?_, fun ⟨a, b, c⟩ => ?_⟩⟩
  · rw [List.mem_singleton.mp hy]; exact ((h.2 x).mp hx).1
  · rcases List.mem_append.mp hq with hq | hq
    · obtain ⟨a, b⟩ := (h.2 q).mp hq; exact ⟨by omega, b⟩
    · rw [List.mem_singleton.mp hq]; exact ⟨by omega, pf, d, hd, d0, fd⟩
  · by_cases e : q = f
    · subst e; simp
    · exact List.mem_append_left _ ((h.2 q).mpr ⟨by omega, b, c⟩)
theorem PrL.len {ds : List Int} {Ps : List Nat} {f : Nat} (h : PrL ds Ps f) : Ps.length ≤ f := by
  have : Ps.Nodup := h.1.imp fun a => by omega
  have s : Ps ⊆ List.range f := fun q hq => List.mem_range.mpr ((h.2 q).mp hq).1
  have := this.length_le_of_subset s
  rwa [List.length_range] at this
end Hg
set_option maxHeartbeats 4000000
namespace K49
open PySem PySem.Spec PyProof.Rows L2 Hg
section
variable {P : Program} {w : World} {K : PySem.W.Frag} {mg : Str → Option Value} {base : Heap}
open Tk
theorem ok_l_seen_tokens {f : Addr} {fd : FuncData} (F : DefK K mg "_law_seen_tokens" st_l_seen_tokens ["_law_text"] f fd) (Z : Zs mg) (CG : CGs K mg) {f_tokens : Addr} {fd_tokens : FuncData} (D_tokens : DefK K mg "tokens" st_tokens ["text"] f_tokens fd_tokens) (G_tokens : FnOk P w K mg base (L2.CX P w) 6 f_tokens fd_tokens ["text"] (sp_tokensX K)) {CN fN cN kN : Addr} {fdN : FuncData} (T : OwnC P K mg "QuerySyntax" nf_QuerySyntax "QuerySyntax.__init__" CN fN cN kN fdN ["self", "position"]) (hns : PySem.W.nsIn K mainGlobals "QuerySyntax" = some (some (.ref CN))) (hno : ∀ y ∈ (["position"] : List Str), PySem.W.findIn K (.ref CN) y = some none) (Te : PySem.W.exmOne K (.ref CN) (.ref CN) = some true) :
    FnOk P w K mg base CX0 8 f fd ["_law_text"] (sp_l_seen K) := by
  refine F.fn.ok sc_l_seen_tokens (fun vs H Q E h => by first | exact listedM_len h | (obtain ⟨rfl, _⟩ := h; rfl) | (obtain ⟨_, rfl, _⟩ := h; rfl) | (obtain ⟨_, _, rfl, _⟩ := h; rfl) | (obtain ⟨_, _, _, rfl, _⟩ := h; rfl) | (obtain ⟨_, _, _, _, rfl, _⟩ := h; rfl) | (obtain ⟨_, _, _, _, _, rfl, _⟩ := h; rfl) | (obtain ⟨_, _, _, _, _, _, rfl, _⟩ := h; rfl) | (obtain ⟨_, _, _, _, _, _, _, rfl, _⟩ := h; rfl) | (obtain ⟨_, _, _, _, _, _, _, _, rfl, _⟩ := h; rfl) | (obtain ⟨_, _, _, _, _, _, _, _, _, rfl, _⟩ := h; rfl) | (obtain ⟨_, _, _, _, _, _, _, _, _, _, rfl, _⟩ := h; rfl) | (obtain ⟨_, _, _, _, _, _, _, _, _, _, _, rfl, _⟩ := h; rfl) | (obtain ⟨_, _, _, _, _, _, _, _, _, _, _, _, rfl, _⟩ := h; rfl) | (obtain ⟨_, _, _, _, _, _, _, _, _, _, _, _, _, rfl, _⟩ := h; rfl) | (obtain ⟨_, _, _, _, _, _, _, _, _, _, _, _, _, _, rfl, _⟩ := h; rfl) | (obtain ⟨_, _, _, _, _, _, _, _, _, _, _, _, _, _, _, rfl, _⟩ := h; rfl) | (obtain ⟨_, _, _, _, _, _, _, _, _, _, _, _, _, _, _, _, rfl, _⟩ := h; rfl) | (obtain ⟨_, _, _, _, _, _, _, _, _, _, _, _, _, _, _, _, _, rfl, _⟩ := h; rfl) | (obtain ⟨_, _, _, _, _, _, _, _, _, _, _, _, _, _, _, _, _, _, rfl, _⟩ := h; rfl) | (obtain ⟨_, _, _, _, _, _, _, _, _, _, _, _, _, _, _, _, _, _, _, rfl, _⟩ := h; rfl) | (obtain ⟨_, _, _, _, _, _, _, _, _, _, _, _, _, _, _, _, _, _, _, _, rfl, _⟩ := h; rfl) | (obtain ⟨_, _, _, _, _, _, _, _, _, _, _, _, _, _, _, _, _, _, _, _, _, rfl, _⟩ := h; rfl) | (obtain ⟨_, _, _, _, _, _, _, _, _, _, _, _, _, _, _, _, _, _, _, _, _, _, rfl, _⟩ := h; rfl) | (obtain ⟨_, _, _, _, _, _, _, _, _, _, _, _, _, _, _, _, _, _, _, _, _, _, _, rfl, _⟩ := h; rfl)) (fun cdv A outer s H vs Q E hr h => ?_)
  obtain ⟨T', ts, er, rfl, hl, hL, kq, ke⟩ := h
  refine ⟨_, (pss_cons (ps_set (i := 1) sc_l_seen_tokens.nd rfl (.inl rfl) pe_non)
      (pss_cons (ps_try_as (i := 2) (Wout := fun _ _ _ _ => False) rfl rfl sc_l_seen_tokens.nd rfl rfl ⟨rfl, by decide, Or.inl T.mg⟩ takes0 (fun W pn xe tk _ => pss_one (ps_set (i := 1) sc_l_seen_tokens.nd rfl (Or.inl rfl) (by exact (pe_callS G_tokens (hr.mono (by decide)) rfl D_tokens.mg D_tokens.fn.kp D_tokens.bd (fun σ => passAt tk σ) (by exact (pa_cons (pv 0) pa_nil)))))) (fun a oe cls d pn hz hf => pss_one (ps_set (i := 1) sc_l_seen_tokens.nd rfl (Or.inl rfl) (by exact (kXf (K := K) T.xf (hno _ (by simp)) hz hf (pv 2))))))
      (pss_one (ps_ret (pv 1))))), ?_⟩
  refine ⟨_, rfl, T', ts, er, rfl, hl, hL, fun e H' L xs ex hn hL hx htk => ⟨_, rfl, kq e H' L xs ex hn hL hx htk⟩, fun p e => fun dx2 H2 v' CN' hns' e2 hd2 t => ?_⟩
  have eN : CN' = CN := by
    rw [hns] at hns'
    cases hns'
    rfl
  subst eN
  refine ⟨true, Te, fun _ a0 ha0 => ?_, fun q => Bool.noConfusion q⟩
  cases t
  refine ⟨_, rfl, rfl, rfl, dx2, _, _, rfl, hd2, rfl, ?_⟩
  exact ⟨_, rfl, ke p e H2 e2⟩
end
end K49
set_option maxHeartbeats 4000000
namespace Tk
open PySem PySem.Spec PyProof.Rows L2 Hg
/-! ### k49: the stream beside a table that grows -/
theorem tabs_beside {T : List (Addr × Str)} {H : Hp} {s q : Addr} {B : Nat} {G : Hp} (O : Ov s q B G H) (t : LamX.Tabs T H) : LamX.Tabs T (beside s q H) := by
  obtain ⟨n, c, k, ns, h1, h2, _⟩ := O.str.st
  have bs : ∀ {b : Addr} {u : HO}, H b = some u → (∀ xs, u ≠ .lst xs) → beside s q H b = some u := fun {b u} h ne => by
    have n1 : b ≠ s := fun z => by rw [z, h1] at h; exact ne _ (Option.some.inj h).symm
    have n2 : b ≠ q := fun z => by rw [z, h2] at h; exact ne _ (Option.some.inj h).symm
    unfold beside
    simp [n1, n2, h]
  refine fun p hp => ?_
  obtain ⟨ps, g1, g2, g3⟩ := t p hp
  refine ⟨ps, bs g1 (fun xs => by simp), g2, fun pos cv hc => ?_⟩
  obtain ⟨c, e1, e2⟩ := g3 pos cv hc
  exact ⟨c, e1, bs e2 fun xs z => by unfold LamX.CodeO at z; cases z⟩
theorem ov_extN {s q : Addr} {B : Nat} {G H H' : Hp} (O : Ov s q B G H) (e : LamX.ExtN H H') : Ov s q B (beside s q H') H' := by
  obtain ⟨n, c, k, ns, h1, h2, r⟩ := O.str.st
  have O' : Ov s q B (fun _ => none) H' := ⟨fun a o h => (by cases h), rfl, rfl, O.str.ne, n, c, k, ns, e _ _ h1 (fun ps => by simp), e _ _ h2 (fun ps => by simp), r⟩
  exact O'.all.1
/-! the ten texts -/
def x12 : List Nat := List.replicate 12 120
def tenT : List (List Nat) := [[97, 33], [33], x12, List.replicate 13 120, [57, 57, 57, 57, 57, 57], [49, 48, 48, 48, 48, 48, 48], [34, 34], [34], [48], [48, 49]]
def oneD (k : Str) (v : V) : PyData := .list [tkD (k, v, 0)]
def tenR : List PyData := [.int 1, .int 0, oneD "name" (.str (tx x12)), .int 0, oneD "integer" (.int 999999), .int 0, oneD "word" (.str (tx [])), .int 0, oneD "integer" (.int 0), .int 0]
def resD (ts : List Tk) (e : Option Nat) : PyData := match e with
  | some p => .int (p : Nat)
  | none => .list (ts.map tkD)
theorem ten_lex : ∀ j, j < 10 → ∃ ts e, LexR 0 (tenT.getD j []) ts e ∧ resD ts e = tenR.getD j .none
  | 0, _ => ⟨_, _, .tok (k := "name") (v := .str (tx [97])) (n := 1) (by decide) (by kernel_rfl) (by decide) (.bad (by decide) (by kernel_rfl)), rfl⟩
  | 1, _ => ⟨_, _, .bad (by decide) (by kernel_rfl), rfl⟩
  | 2, _ => ⟨_, _, .tok (k := "name") (v := .str (tx x12)) (n := 12) (by decide) (by kernel_rfl) (by decide) (.nil _), rfl⟩
  | 3, _ => ⟨_, _, .bad (by decide) (by kernel_rfl), rfl⟩
  | 4, _ => ⟨_, _, .tok (k := "integer") (v := .int 999999) (n := 6) (by decide) (by kernel_rfl) (by decide) (.nil _), rfl⟩
  | 5, _ => ⟨_, _, .bad (by decide) (by kernel_rfl), rfl⟩
  | 6, _ => ⟨_, _, .tok (k := "word") (v := .str (tx [])) (n := 2) (by decide) (by kernel_rfl) (by decide) (.nil _), rfl⟩
  | 7, _ => ⟨_, _, .bad (by decide) (by kernel_rfl), rfl⟩
  | 8, _ => ⟨_, _, .tok (k := "integer") (v := .int 0) (n := 1) (by decide) (by kernel_rfl) (by decide) (.nil _), rfl⟩
  | 9, _ => ⟨_, _, .bad (by decide) (by kernel_rfl), rfl⟩
  | n + 10, h => absurd h (by omega)
theorem ten_len : ∀ j, j < 10 → (tenT.getD j []).length ≤ 20 := by decide +kernel
theorem shaped_ten : SeqAt.shaped (.list tenR) = true := by decide +kernel
/-- what lies in a list's tuples is seen without the list that changes -/
theorem toks_er {K : PySem.W.Frag} {H : Hp} {D L : Addr} {xs ys : List V} {ts : List Tk} (hD : H D = some (.lst ys)) (n : L ≠ D) (hL : H L = some (.lst xs)) (h : TksIn H xs ts) : Dp K (er H D) (.ref L) (.list (ts.map tkD)) :=
  .lst (SqL.of (er_of n hL)) (h.mono fun a zs z => er_tup hD z).dp
theorem er_mono {H H' : Hp} {D : Addr} (e : Ex H H') : Ex (er H D) (er H' D) := fun a o h => by
  unfold er at h ⊢
  split at h
  · cases h
  · rename_i n
    rw [if_neg n]
    exact e _ _ h
theorem er_put {H : Hp} {D : Addr} {o : HO} : er (upd H D o) D = er H D := by
  funext a
  unfold er
  split
  · rfl
  · rename_i n
    exact upd_ne n
abbrev o1 : HO := .tup [.str "name", .str (tx (List.replicate 12 [120]).flatten), .int 0]
abbrev o2 : HO := .tup [.str "integer", .int 999999, .int 0]
abbrev o3 : HO := .tup [.str "word", .str "", .int 0]
abbrev o4 : HO := .tup [.str "integer", .int 0, .int 0]
/-- what is due of them, built -/
theorem due_dp {K : PySem.W.Frag} {H : Hp} {t1 l1 t2 l2 t3 l3 t4 l4 d : Addr} (h1 : H t1 = none) (h2 : upd H t1 o1 l1 = none) (h3 : upd (upd H t1 o1) l1 (.lst [.ref t1]) t2 = none) (h4 : upd (upd (upd H t1 o1) l1 (.lst [.ref t1])) t2 o2 l2 = none)
    (h5 : upd (upd (upd (upd H t1 o1) l1 (.lst [.ref t1])) t2 o2) l2 (.lst [.ref t2]) t3 = none) (h6 : upd (upd (upd (upd (upd H t1 o1) l1 (.lst [.ref t1])) t2 o2) l2 (.lst [.ref t2])) t3 o3 l3 = none)
    (h7 : upd (upd (upd (upd (upd (upd H t1 o1) l1 (.lst [.ref t1])) t2 o2) l2 (.lst [.ref t2])) t3 o3) l3 (.lst [.ref t3]) t4 = none) (h8 : upd (upd (upd (upd (upd (upd (upd H t1 o1) l1 (.lst [.ref t1])) t2 o2) l2 (.lst [.ref t2])) t3 o3) l3 (.lst [.ref t3])) t4 o4 l4 = none)
    (h9 : upd (upd (upd (upd (upd (upd (upd (upd H t1 o1) l1 (.lst [.ref t1])) t2 o2) l2 (.lst [.ref t2])) t3 o3) l3 (.lst [.ref t3])) t4 o4) l4 (.lst [.ref t4]) d = none) :
    ∃ H9 : Hp, H9 = upd (upd (upd (upd (upd (upd (upd (upd (upd H t1 o1) l1 (.lst [.ref t1])) t2 o2) l2 (.lst [.ref t2])) t3 o3) l3 (.lst [.ref t3])) t4 o4) l4 (.lst [.ref t4])) d (.lst [.int 1, .int 0, .ref l1, .int 0, .ref l2, .int 0, .ref l3, .int 0, .ref l4, .int 0]) ∧ Dp K H9 (.ref d) (.list tenR) ∧ Ex H H9 := by
  refine ⟨_, rfl, ?_⟩
  have e1 := Ex.new (o := o1) h1
  have g1 : upd H t1 o1 t1 = some o1 := upd_same
  generalize upd H t1 o1 = A1 at *
  have e2 := Ex.new (o := .lst [.ref t1]) h2
  have g2 : upd A1 l1 (.lst [.ref t1]) l1 = some (.lst [.ref t1]) := upd_same
  generalize upd A1 l1 (.lst [.ref t1]) = A2 at *
  have e3 := Ex.new (o := o2) h3
  have g3 : upd A2 t2 o2 t2 = some o2 := upd_same
  generalize upd A2 t2 o2 = A3 at *
  have e4 := Ex.new (o := .lst [.ref t2]) h4
  have g4 : upd A3 l2 (.lst [.ref t2]) l2 = some (.lst [.ref t2]) := upd_same
  generalize upd A3 l2 (.lst [.ref t2]) = A4 at *
  have e5 := Ex.new (o := o3) h5
  have g5 : upd A4 t3 o3 t3 = some o3 := upd_same
  generalize upd A4 t3 o3 = A5 at *
  have e6 := Ex.new (o := .lst [.ref t3]) h6
  have g6 : upd A5 l3 (.lst [.ref t3]) l3 = some (.lst [.ref t3]) := upd_same
  generalize upd A5 l3 (.lst [.ref t3]) = A6 at *
  have e7 := Ex.new (o := o4) h7
  have g7 : upd A6 t4 o4 t4 = some o4 := upd_same
  generalize upd A6 t4 o4 = A7 at *
  have e8 := Ex.new (o := .lst [.ref t4]) h8
  have g8 : upd A7 l4 (.lst [.ref t4]) l4 = some (.lst [.ref t4]) := upd_same
  generalize upd A7 l4 (.lst [.ref t4]) = A8 at *
  have e9 := Ex.new (o := .lst [.int 1, .int 0, .ref l1, .int 0, .ref l2, .int 0, .ref l3, .int 0, .ref l4, .int 0]) h9
  have s8 := e9
  have s7 := e8.trans s8
  have s6 := e7.trans s7
  have s5 := e6.trans s6
  have s4 := e5.trans s5
  have s3 := e4.trans s4
  have s2 := e3.trans s3
  have s1 := e2.trans s2
  refine ⟨.lst (SqL.of upd_same) (.cons (.int _) (.cons (.int _) (.cons (.lst (SqL.of (s2 _ _ g2)) (.cons (.tup (SqT.of (s1 _ _ g1)) (.cons (.str _) (.cons (.str _) (.cons (.int _) .nil)))) .nil)) (.cons (.int _) (.cons (.lst (SqL.of (s4 _ _ g4)) (.cons (.tup (SqT.of (s3 _ _ g3)) (.cons (.str _) (.cons (.int _) (.cons (.int _) .nil)))) .nil)) (.cons (.int _) (.cons (.lst (SqL.of (s6 _ _ g6)) (.cons (.tup (SqT.of (s5 _ _ g5)) (.cons (.str _) (.cons (.str _) (.cons (.int _) .nil)))) .nil)) (.cons (.int _) (.cons (.lst (SqL.of (s8 _ _ g8)) (.cons (.tup (SqT.of (s7 _ _ g7)) (.cons (.str _) (.cons (.int _) (.cons (.int _) .nil)))) .nil)) (.cons (.int _) .nil)))))))))), e1.trans s1⟩
end Tk
set_option maxHeartbeats 4000000
namespace K49
open PySem PySem.Spec PyProof.Rows L2 Hg
section
variable {P : Program} {w : World} {K : PySem.W.Frag} {mg : Str → Option Value} {base : Heap}
open Tk
theorem top_law {fa : Addr} {PT C_QuerySyntax f_QuerySyntax c_QuerySyntax k_QuerySyntax CH : Addr} {fd_QuerySyntax : FuncData} (Z : Zs mg) (CG : CGs K mg) {f_l_draw : Addr} {fd_l_draw : FuncData} (D_l_draw : DefK K mg "_law_draw" st_l_draw ["_law_stream", "_law_many"] f_l_draw fd_l_draw) (G_l_draw : FnOk P w K mg base CX0 1 f_l_draw fd_l_draw ["_law_stream", "_law_many"] (sp_l_draw K)) {f_l_scan : Addr} {fd_l_scan : FuncData} (D_l_scan : DefK K mg "_law_scan" st_l_scan ["_law_text"] f_l_scan fd_l_scan) (G_l_scan : FnOk P w K mg base CX0 4 f_l_scan fd_l_scan ["_law_text"] (sp_l_scan PT K)) {f_l_piece : Addr} {fd_l_piece : FuncData} (D_l_piece : DefK K mg "_law_piece" st_l_piece ["_law_stream"] f_l_piece fd_l_piece) (G_l_piece : FnOk P w K mg base CX0 4 f_l_piece fd_l_piece ["_law_stream"] (sp_l_piece K)) {f_l_seen_tokens : Addr} {fd_l_seen_tokens : FuncData} (D_l_seen_tokens : DefK K mg "_law_seen_tokens" st_l_seen_tokens ["_law_text"] f_l_seen_tokens fd_l_seen_tokens) (G_l_seen_tokens : FnOk P w K mg base CX0 8 f_l_seen_tokens fd_l_seen_tokens ["_law_text"] (sp_l_seen K)) {cd : Value} {s : Shared} {H : Hp} {a : Addr} {ns : List Int} (hr : Room 8 (callerA.deeper (topEnv st_law "law" s fa cd))) (hS : SqL K H a (ns.map V.int)) (hTab : H PT = some (.tbl #[])) (T_QuerySyntax : OwnC P K mg "QuerySyntax" nf_QuerySyntax "QuerySyntax.__init__" C_QuerySyntax f_QuerySyntax c_QuerySyntax k_QuerySyntax fd_QuerySyntax ["self", "position"]) (GI_QuerySyntax : FnOk P w K mg base CX0 2 f_QuerySyntax fd_QuerySyntax ["self", "position"] (sp_ini C_QuerySyntax ["position"] K)) (Tx : ExcC K C_QuerySyntax) (mgH : mg "HushError" = some (.ref CH)) (isH : PySem.W.kitOne K (.ref C_QuerySyntax) (.ref CH) = some true) (isV : PySem.W.kitOne K (.ref C_QuerySyntax) (.type "ValueError") = some true) (hno : ∀ y ∈ (["position"] : List Str), PySem.W.findIn K (.ref C_QuerySyntax) y = some none) :
    ∃ t, PSs (topCx P w K mg base ["_law_script", "_law_stream", "_law_turn", "_law_text", "_law_k", "_law_found", "_law_due", "_law_error"] "law" st_law fa cd s H).nox (defBody st_law) t ∧ t { nx := fun _ _ => False, rt := fun v _ => v = .bl true } (start ["_law_script", "_law_stream", "_law_turn", "_law_text", "_law_k", "_law_found", "_law_due", "_law_error"] [.ref a]) H := by
  refine ⟨_, (pss_cons (ps_set (i := 1) sc_law.nd rfl (.inl rfl) (pe_lst (pa_cons (pe_callTy (kLst (K := K)) (by rfl) Z.list_ PyProof.Rows.Boot.«list» (pa_cons (pv 0) pa_nil)) (pa_cons pe_int (pa_cons pe_int (pa_cons pe_int pa_nil))))))
      (pss_cons (ps_for PassesOwn.never rfl (pi_range1 (by rfl) Z.range_ (pa_cons pe_int pa_nil)) (pg_name (i := 2) sc_law.nd rfl (.inl rfl)) (pss_cons (ps_set (i := 3) sc_law.nd rfl (.inl rfl) pe_str)
      (pss_cons (ps_for PassesOwn.never rfl (pi_range1 (by rfl) Z.range_ (pa_cons (pe_call G_l_draw (hr.mono (by decide)) rfl D_l_draw.mg D_l_draw.fn.kp D_l_draw.bd .nil pass0 (pa_cons (pv 1) (pa_cons pe_int pa_nil))) pa_nil)) (pg_name (i := 4) sc_law.nd rfl (.inl rfl)) (pss_one (ps_set (i := 3) sc_law.nd rfl (.inl rfl) (pe_op (kAdd (K := K)) (pe_op (kAdd (K := K)) (pv 3) (pe_op op_mulS pe_str (pe_ix (kIx (K := K)) (pe_lst (pa_cons pe_int (pa_cons pe_int (pa_cons pe_int (pa_cons pe_int pa_nil))))) (pe_call G_l_draw (hr.mono (by decide)) rfl D_l_draw.mg D_l_draw.fn.kp D_l_draw.bd .nil pass0 (pa_cons (pv 1) (pa_cons pe_int pa_nil))) (fun _ _ => rfl)))) (pe_call G_l_piece (hr.mono (by decide)) rfl D_l_piece.mg D_l_piece.fn.kp D_l_piece.bd .nil pass0 (pa_cons (pv 1) pa_nil))))))
      (pss_one (ps_if (pt_cmpR (kNe (K := K) hr.units) (pe_callB ((kRepr (K := K) rfl hr.units).or SkE.call_repr_int) (by rfl) Z.repr_ PyProof.Rows.Boot.«repr» (pa_cons (pe_call G_l_seen_tokens (hr.mono (by decide)) rfl D_l_seen_tokens.mg D_l_seen_tokens.fn.kp D_l_seen_tokens.bd .nil pass0 (pa_cons (pv 3) pa_nil)) pa_nil)) (pe_callB ((kRepr (K := K) rfl hr.units).or SkE.call_repr_int) (by rfl) Z.repr_ PyProof.Rows.Boot.«repr» (pa_cons (pe_call G_l_scan (hr.mono (by decide)) rfl D_l_scan.mg D_l_scan.fn.kp D_l_scan.bd .nil pass0 (pa_cons (pv 3) pa_nil)) pa_nil)) (nomark _)) (pss_one (ps_ret pe_bl)) pss_nil)))))
      (pss_cons (ps_set (i := 5) sc_law.nd rfl (.inl rfl) (pe_lst pa_nil))
      (pss_cons (ps_for PassesOwn.never rfl (kSeq (K := K) (pe_lst (pa_cons pe_str (pa_cons pe_str (pa_cons (pe_op op_mulS pe_str pe_int) (pa_cons (pe_op op_mulS pe_str pe_int) (pa_cons pe_str (pa_cons pe_str (pa_cons pe_str (pa_cons pe_str (pa_cons pe_str (pa_cons pe_str pa_nil)))))))))))) (pg_name (i := 3) sc_law.nd rfl (.inl rfl)) (pss_one (ps_expr (pe_bm PySem.F.plainAttrs_list PySem.F.slot_list_append PySem.F.type_list_append mt_append (pv 5) (pa_cons (pe_call G_l_seen_tokens (hr.mono (by decide)) rfl D_l_seen_tokens.mg D_l_seen_tokens.fn.kp D_l_seen_tokens.bd .nil pass0 (pa_cons (pv 3) pa_nil)) pa_nil)))))
      (pss_cons (ps_set (i := 6) sc_law.nd rfl (.inl rfl) (pe_lst (pa_cons pe_int (pa_cons pe_int (pa_cons (pe_lst (pa_cons (pe_tup (pa_cons pe_str (pa_cons (pe_op op_mulS pe_str pe_int) (pa_cons pe_int pa_nil)))) pa_nil)) (pa_cons pe_int (pa_cons (pe_lst (pa_cons (pe_tup (pa_cons pe_str (pa_cons pe_int (pa_cons pe_int pa_nil)))) pa_nil)) (pa_cons pe_int (pa_cons (pe_lst (pa_cons (pe_tup (pa_cons pe_str (pa_cons pe_str (pa_cons pe_int pa_nil)))) pa_nil)) (pa_cons pe_int (pa_cons (pe_lst (pa_cons (pe_tup (pa_cons pe_str (pa_cons pe_int (pa_cons pe_int pa_nil)))) pa_nil)) (pa_cons pe_int pa_nil))))))))))))
      (pss_cons (ps_set (i := 7) sc_law.nd rfl (.inl rfl) (pe_mkV T_QuerySyntax.err.oex T_QuerySyntax.iC T_QuerySyntax.tI GI_QuerySyntax (hr.mono (by decide)) T_QuerySyntax.bd rfl T_QuerySyntax.mg (pa_cons pe_int pa_nil)))
      (pss_one (ps_ret (pe_and (pe_cmpR (kEq (K := K) hr.units) (pv 5) (pv 6) (nomark _)) (pe_and (pe_callB call_isX (by rfl) Z.isinstance_ PyProof.Rows.Boot.«isinstance» (pa_cons (pv 7) (pa_cons (pe_glob (v := .ref CH) rfl mgH rfl) pa_nil))) (pe_and (pe_callB call_isX (by rfl) Z.isinstance_ PyProof.Rows.Boot.«isinstance» (pa_cons (pv 7) (pa_cons (pe_bltn (v := .ty "ValueError") (by rfl) Z.ValueError_ PyProof.Rows.Boot.«ValueError» rfl) pa_nil))) (pe_one (pe_cmpR (kEq (K := K) hr.units) (pe_xo (pv 7)) pe_int (nomark _)))))))))))))), ?_⟩
  refine ⟨_, rfl, a, _, rfl, .inl hS, fun q0 hq => ⟨by show 4 ≤ sizeLine; decide, fun s0 hs => ?_⟩⟩
  have O := strm_new hq hs
  have T0 : LamX.Tabs (scT PT) H := fun p hp => by rw [List.mem_singleton.mp hp]; exact LamX.TabS.nil hTab
  generalize upd (upd H q0 (.lst (ns.map V.int))) s0 (.lst [.ref q0, .int 0, .int 0, .int 0]) = H0 at O
  refine ⟨8, rfl, by decide, by decide, for_it (walk_range (lo := 0) (n := 8)) (fun i σ H' => ∃ (v2 v3 v4 v5 v6 v7 : Option V) (G : Hp), σ = [some (.ref a), some (.ref s0), v2, v3, v4, v5, v6, v7] ∧ Ov s0 q0 (1000 * i) G H' ∧ LamX.Tabs (scT PT) G)
    ⟨_, _, _, _, _, _, H, rfl, O, T0⟩ (fun _ _ _ _ _ => trivial) (fun i x σ H' H6 hi p y => ?_) (fun σ H' p => ?_)⟩
  · obtain ⟨v2, v3, v4, v5, v6, v7, G, rfl, O1, T1⟩ := p
    obtain ⟨rfl, rfl⟩ := y
    refine ⟨_, rfl, s0, q0, _, _, 13, rfl, O1, by omega, by decide, by decide, fun n0 H3 n00 n01 O2 => ?_⟩
    obtain ⟨n, rfl⟩ := Int.eq_ofNat_of_zero_le n00
    refine ⟨(n : Int), rfl, by omega, by omega, ?_⟩
    rw [Int.toNat_natCast]
    refine for_it (walk_range (lo := 0) (n := n)) (fun j σ H' => ∃ (U : List Nat) (w4 : Option V), σ = [some (.ref a), some (.ref s0), some (.int (0 + (i : Int))), some (.str (tx U)), w4, v5, v6, v7] ∧ U.length ≤ 17 * j ∧ prn U ∧ Ov s0 q0 (1000 * i + 1 + 40 * j) G H')
      ⟨[], _, rfl, Nat.le_refl _, fun c hc => by simp at hc, O2⟩ (fun _ _ _ _ _ => trivial) (fun j x σ H' H6 hj p y => ?_) (fun σ H' p => ?_)
    · obtain ⟨U, w4, rfl, Ul, Up, O3⟩ := p
      obtain ⟨rfl, rfl⟩ := y
      refine ⟨_, rfl, by show 4 ≤ sizeLine; decide, fun l hl => ⟨_, rfl, s0, q0, _, _, 4, rfl, O3.new (o := .lst [.int 0, .int 0, .int 1, .int 2]) hl, by omega, by decide, by decide, fun r H8 r0 r1 O8 => ?_⟩⟩
      have wk := Ex.new (o := .lst [.int 0, .int 0, .int 1, .int 2]) (O3.sub.free hl)
      obtain ⟨v, hv, hm⟩ := menu (n := 4) r0 r1 (vs := [.int 0, .int 0, .int 1, .int 2]) rfl
      obtain ⟨z, rfl, hz⟩ : ∃ z : Nat, v = .int (z : Int) ∧ z ≤ 2 := by
        simp only [List.mem_cons, List.not_mem_nil, or_false] at hm
        rcases hm with h | h | h | h
        · exact ⟨0, h, by decide⟩
        · exact ⟨0, h, by decide⟩
        · exact ⟨1, h, by decide⟩
        · exact ⟨2, h, by decide⟩
      refine ixl (O8.sub _ _ upd_same) hv ?_
      refine ⟨[32], z, rfl, rfl, by decide, by omega, ?_⟩
      rw [rep1]
      refine cat_s (by rw [List.length_replicate]; omega) ?_
      refine ⟨_, rfl, s0, q0, _, _, rfl, O8, by omega, fun m H9 ml mp O9 => cat_s (by rw [List.length_append, List.length_replicate]; omega) ?_⟩
      refine ⟨_, _, rfl, by rw [List.length_append, List.length_append, List.length_replicate]; omega, prn_app (prn_app Up fun c hc => by rw [List.eq_of_mem_replicate hc]; decide) mp, (O9.weak wk).more (by omega)⟩
    obtain ⟨U, w4, rfl, Ul, Up, O3⟩ := p
    obtain ⟨ts, e, hL⟩ := lexR_ex U.length 0 U (Nat.le_refl _)
    obtain ⟨sm, tl, ep⟩ := lexR_sm hL (fun c hc => by have := Up c hc; omega) (by omega)
    obtain ⟨f1, f2, f3, f4⟩ := data_ok3 sm (by omega)
    have T3 : LamX.Tabs (scT PT) H' := T1.ext O3.sub
    refine ⟨_, rfl, U, ts, e, rfl, by omega, hL, fun e0 H4 L xs ex hn hL4 hx htk => ?_, fun p e1 H4 ex => ?_⟩
    · refine .inl ⟨L, _, rfl, .lst (SqL.of hL4) htk.dp, f1, f2, f3, f4, ?_⟩
      refine ⟨_, rfl, U, ts, e, rfl, by omega, Up, hL, T3.ext ex, fun _ H5 L2 xs2 eN T5 hL5 hx5 htk5 => ?_, fun p' e1 => by rw [e0] at e1; cases e1⟩
      refine .inl ⟨L2, _, rfl, .lst (SqL.of hL5) htk5.dp, f1, f2, f3, f4, .inl ⟨rfl, _, rfl, iteNF rfl ?_⟩⟩
      have O5 := ov_extN (O3.ex ex) eN
      exact ⟨_, _, _, _, _, _, _, rfl, O5.more (by omega), tabs_beside O5 T5⟩
    · have pl := ep p e1
      have lg : ((p : Nat) : Int).natAbs.log2 < 1920 := by
        rw [Int.natAbs_natCast]
        have := log_lt (n := p) (k := 10) (by omega) (by decide)
        omega
      refine .inr ⟨(p : Int), rfl, lg, ?_⟩
      refine ⟨_, rfl, U, ts, e, rfl, by omega, Up, hL, T3.ext ex, fun e0 => by rw [e0] at e1; (cases e1), fun p' e2 H5 eN T5 => ?_⟩
      rw [e1] at e2
      cases e2
      refine .inr ⟨(p : Int), rfl, lg, .inl ⟨rfl, _, rfl, iteNF rfl ?_⟩⟩
      have O5 := ov_extN (O3.ex ex) eN
      exact ⟨_, _, _, _, _, _, _, rfl, O5.more (by omega), tabs_beside O5 T5⟩
  · obtain ⟨v2, v3, v4, v5, v6, v7, G, rfl, O1, T1⟩ := p
    refine ⟨Nat.zero_le _, fun D hD => ?_⟩
    have hD1 : upd H' D (.lst []) D = some (.lst []) := upd_same
    generalize upd H' D (.lst []) = H1 at hD1
    dsimp only [gName]
    refine ⟨[120], 12, rfl, rfl, by decide, by decide, [120], 13, rfl, rfl, by decide, by decide, by show 10 ≤ sizeLine; decide, fun l hl => ⟨false, l, sV tenT, rfl, SqK.lst upd_same, ?_⟩⟩
    have hl1 : upd H1 l (.lst (sV tenT)) l = some (.lst (sV tenT)) := upd_same
    have hD2 : upd H1 l (.lst (sV tenT)) D = some (.lst []) := (Ex.new hl) _ _ hD1
    have nDl : l ≠ D := fun z => by rw [z, hD1] at hl; cases hl
    refine for_it (H := upd H1 l (.lst (sV tenT))) (walk_k (K := K) (k := false) (a := l) (xs := sV tenT)) (fun i σ H' => ∃ (w3 : Option V) (xs : List V), σ = [some (.ref a), some (.ref s0), v2, w3, v4, some (.ref D), v6, v7] ∧ H' l = some (.lst (sV tenT)) ∧ H' D = some (.lst xs) ∧ DpAll K (er H' D) xs (tenR.take i) ∧ xs.length = i)
      ⟨_, [], rfl, hl1, hD2, .nil, rfl⟩ (fun i σ H' hi p => by obtain ⟨_, _, _, h, _⟩ := p; exact SqK.lst h) (fun i y σ H' H3 hi p yy => ?_) (fun σ H' p => ?_)
    · obtain ⟨w3, xs, rfl, hl3, hD3, hds, hxl⟩ := p
      obtain ⟨rfl, hy⟩ := yy
      have hi : i < 10 := hi
      have ey : y = .str (tx (tenT.getD i [])) := by
        rw [List.getElem?_map] at hy
        obtain ⟨t, ht, rfl⟩ := Option.map_eq_some_iff.mp hy
        rw [List.getD_eq_getElem?_getD, ht]; rfl
      subst ey
      obtain ⟨ts, e, hL, hr⟩ := ten_lex i hi
      have tl := ten_len i hi
      have rt : tenR.take (i + 1) = tenR.take i ++ [resD ts e] := by
        rw [hr]
        have : tenR[i]? = some (tenR.getD i .none) := by
          rw [List.getD_eq_getElem?_getD, List.getElem?_eq_getElem (show i < tenR.length from hi)]; rfl
        rw [List.take_succ, this]; rfl
      refine ⟨_, rfl, .inl ⟨rfl, _, SqL.of hD3⟩, _, rfl, _, ts, e, rfl, by omega, hL, fun e0 H4 L ys ex hn hL4 hx htk => ?_, fun p e1 H4 ex => ?_⟩
      · have hD4 := ex _ _ hD3
        refine ⟨D, _, _, rfl, rfl, hD4, by rw [sizeLine_eq]; omega, ?_⟩
        have nL : L ≠ D := fun z => by rw [z, hD3] at hn; cases hn
        refine ⟨_, xs ++ [.ref L], rfl, (upd_ne nDl).trans (ex _ _ hl3), upd_same, ?_, by rw [List.length_append, hxl]; rfl⟩
        rw [er_put, rt]
        have one : Dp K (er H4 D) (V.ref L) (resD ts e) := by rw [e0]; exact toks_er hD4 nL hL4 htk
        exact dpAll_snoc one (dpAll_ex (er_mono ex) _ _ hds)
      · have hD4 := ex _ _ hD3
        refine ⟨D, _, _, rfl, rfl, hD4, by rw [sizeLine_eq]; omega, ?_⟩
        refine ⟨_, xs ++ [.int (p : Nat)], rfl, (upd_ne nDl).trans (ex _ _ hl3), upd_same, ?_, by rw [List.length_append, hxl]; rfl⟩
        rw [er_put, rt]
        have one : Dp K (er H4 D) (V.int (p : Nat)) (resD ts e) := by rw [e1]; exact .int _
        exact dpAll_snoc one (dpAll_ex (er_mono ex) _ _ hds)
    · obtain ⟨w3, xs, rfl, hl3, hD3, hds, hxl⟩ := p
      have hds : DpAll K (er H' D) xs tenR := hds
      have hds := dpAll_ex er_ex _ _ hds
      refine ⟨[120], 12, rfl, rfl, by decide, by decide, by show 3 ≤ sizeLine; decide, fun t1 ht1 => ⟨by show 1 ≤ sizeLine; decide, fun l1 hl1 => ⟨by show 3 ≤ sizeLine; decide, fun t2 ht2 => ⟨by show 1 ≤ sizeLine; decide, fun l2 hl2 => ⟨by show 3 ≤ sizeLine; decide, fun t3 ht3 => ⟨by show 1 ≤ sizeLine; decide, fun l3 hl3' => ⟨by show 3 ≤ sizeLine; decide, fun t4 ht4 => ⟨by show 1 ≤ sizeLine; decide, fun l4 hl4 => ⟨by show 10 ≤ sizeLine; decide, fun d hd => ?_⟩⟩⟩⟩⟩⟩⟩⟩⟩
      obtain ⟨H9, eH9, hdue, e9⟩ := due_dp (K := K) ht1 hl1 ht2 hl2 ht3 hl3' ht4 hl4 hd
      dsimp only [o1, o2, o3, o4] at eH9
      rw [← eH9]
      dsimp only [gName]
      clear eH9
      refine ⟨by show 1 ≤ 1000; decide, fun a9 ha9 => ⟨a9, [.int 3], [.int 3], _, rfl, rfl, ha9, rfl, .cons (.int _) .nil, fun d hd => by rw [List.mem_singleton.mp hd]; decide, fun H10 dx ws gdx e10 ea ed t => ⟨rfl, ?_⟩⟩⟩
      dsimp only [gName]
      have hD10 := e10 _ _ (e9 _ _ hD3)
      have hds10 := dpAll_ex (e9.trans e10) _ _ hds
      have hdue10 := dp_ex e10 _ _ hdue
      refine ⟨_, rfl, _, rfl, .inr ⟨.list tenR, .list tenR, .lst (SqL.of hD10) hds10, hdue10, shaped_ten, shaped_ten, ?_⟩⟩
      rw [SeqAt.eqv_refl _ (SeqAt.canLay_of_shaped shaped_ten)]
      refine ⟨_, rfl, iteT ?_⟩
      refine ⟨_, rfl, a9, C_QuerySyntax, some dx, _, .ref CH, true, rfl, Tx, ea, fun dx' e => by cases e; exact ⟨_, ed⟩, .own CH, isH, ?_⟩
      refine ⟨_, rfl, iteT ?_⟩
      refine ⟨_, rfl, a9, C_QuerySyntax, some dx, _, .type "ValueError", true, rfl, Tx, ea, fun dx' e => by cases e; exact ⟨_, ed⟩, .ty _, isV, ?_⟩
      refine ⟨_, rfl, iteT ?_⟩
      cases t with
      | cons t0 t1 =>
        cases t1
        cases t0
        refine ⟨_, rfl, a9, C_QuerySyntax, dx, _, _, rfl, T_QuerySyntax.xf, hno _ (by simp), ea, ed, rfl, .inl ⟨rfl, ?_⟩⟩
        exact congrArg V.bl (decide_eq_true rfl)
end
end K49
set_option maxHeartbeats 4000000
namespace K49
open PySem PySem.Spec PyProof.Rows L2 Hg
open Tk
theorem all_mk {P : Program} {w : World} {K : PySem.W.Frag} {h : Heap} {mg : Str → Option Value} {fa : Addr} (X : K.In h) (G : h.Ns mainGlobals mg) (hfa : mg "law" = some (.ref fa))
    (HT : ∀ x ∈ (["_law_scan"] : List Str), DefTab mg h x)
    {f_frozen : Addr} {od_frozen an_frozen : Option Addr} {sl_frozen : Array (Option Value)} {oc_frozen kV_frozen dc_frozen pm_frozen cd_frozen ct_frozen : Value}
    {f_is_word : Addr} {od_is_word an_is_word : Option Addr} {sl_is_word : Array (Option Value)} {oc_is_word kV_is_word dc_is_word pm_is_word cd_is_word ct_is_word : Value}
    {f_tokens : Addr} {od_tokens an_tokens : Option Addr} {sl_tokens : Array (Option Value)} {oc_tokens kV_tokens dc_tokens pm_tokens cd_tokens ct_tokens : Value}
    {f__token : Addr} {od__token an__token : Option Addr} {sl__token : Array (Option Value)} {oc__token kV__token dc__token pm__token cd__token ct__token : Value}
    {f__letters : Addr} {od__letters an__letters : Option Addr} {sl__letters : Array (Option Value)} {oc__letters kV__letters dc__letters pm__letters cd__letters ct__letters : Value}
    {f__digits : Addr} {od__digits an__digits : Option Addr} {sl__digits : Array (Option Value)} {oc__digits kV__digits dc__digits pm__digits cd__digits ct__digits : Value}
    {f__word : Addr} {od__word an__word : Option Addr} {sl__word : Array (Option Value)} {oc__word kV__word dc__word pm__word cd__word ct__word : Value}
    {f__run_end : Addr} {od__run_end an__run_end : Option Addr} {sl__run_end : Array (Option Value)} {oc__run_end kV__run_end dc__run_end pm__run_end cd__run_end ct__run_end : Value}
    {f_l_draw : Addr} {od_l_draw an_l_draw : Option Addr} {sl_l_draw : Array (Option Value)} {oc_l_draw kV_l_draw dc_l_draw pm_l_draw cd_l_draw ct_l_draw : Value}
    {f_l_reserved : Addr} {od_l_reserved an_l_reserved : Option Addr} {sl_l_reserved : Array (Option Value)} {oc_l_reserved kV_l_reserved dc_l_reserved pm_l_reserved cd_l_reserved ct_l_reserved : Value}
    {f_l_name : Addr} {od_l_name an_l_name : Option Addr} {sl_l_name : Array (Option Value)} {oc_l_name kV_l_name dc_l_name pm_l_name cd_l_name ct_l_name : Value}
    {f_l_symbols : Addr} {od_l_symbols an_l_symbols : Option Addr} {sl_l_symbols : Array (Option Value)} {oc_l_symbols kV_l_symbols dc_l_symbols pm_l_symbols cd_l_symbols ct_l_symbols : Value}
    {f_l_token : Addr} {od_l_token an_l_token : Option Addr} {sl_l_token : Array (Option Value)} {oc_l_token kV_l_token dc_l_token pm_l_token cd_l_token ct_l_token : Value}
    {f_l_scan : Addr} {od_l_scan an_l_scan : Option Addr} {sl_l_scan : Array (Option Value)} {oc_l_scan kV_l_scan dc_l_scan pm_l_scan cd_l_scan ct_l_scan : Value}
    {f_l_piece : Addr} {od_l_piece an_l_piece : Option Addr} {sl_l_piece : Array (Option Value)} {oc_l_piece kV_l_piece dc_l_piece pm_l_piece cd_l_piece ct_l_piece : Value}
    {f_l_seen_tokens : Addr} {od_l_seen_tokens an_l_seen_tokens : Option Addr} {sl_l_seen_tokens : Array (Option Value)} {oc_l_seen_tokens kV_l_seen_tokens dc_l_seen_tokens pm_l_seen_tokens cd_l_seen_tokens ct_l_seen_tokens : Value}
    {f_l_end_of : Addr} {od_l_end_of an_l_end_of : Option Addr} {sl_l_end_of : Array (Option Value)} {oc_l_end_of kV_l_end_of dc_l_end_of pm_l_end_of cd_l_end_of ct_l_end_of : Value}
    {f_law : Addr} {od_law an_law : Option Addr} {sl_law : Array (Option Value)} {oc_law kV_law dc_law pm_law cd_law ct_law : Value}
    {t_LETTERS : Tok}
    {t_DIGITS : Tok}
    {t_NAME_CHARACTERS : Tok}
    {A_RESERVED : Addr} {o_RESERVED : Obj} {n_RESERVED : Nat} {u0_RESERVED u1_RESERVED u2_RESERVED u3_RESERVED u4_RESERVED u5_RESERVED u6_RESERVED u7_RESERVED u8_RESERVED u9_RESERVED u10_RESERVED u11_RESERVED u12_RESERVED : Tok}
    {t_LONGEST : Tok}
    {A_LONG_SYMBOLS : Addr} {o_LONG_SYMBOLS : Obj} {n_LONG_SYMBOLS : Nat} {u0_LONG_SYMBOLS u1_LONG_SYMBOLS u2_LONG_SYMBOLS : Tok}
    {t_SHORT_SYMBOLS : Tok}
    {t_MOST_DIGITS : Tok}
    {C_QuerySyntax f_QuerySyntax c_QuerySyntax k_QuerySyntax : Addr} {CH : Addr}
    {cA_l_scan PT_l_scan : Addr} {eT_l_scan : Value} {dT_l_scan : Option Addr} {vs_l_scan : Array Value} {slT_l_scan : Array (Option Value)}
    (a_frozen : PySem.W.nsIn K mainGlobals "frozen" = some (some (.ref f_frozen)))
    (l_frozen : K.lookup f_frozen = some ⟨oc_frozen, od_frozen, .func (PySem.W.fnOf "frozen" "frozen" (defArgs st_frozen) (defBody st_frozen) (defScope st_frozen) .none kV_frozen dc_frozen pm_frozen an_frozen cd_frozen ct_frozen), sl_frozen⟩)
    (c_frozen : PySem.W.codeIn K cd_frozen "frozen" = true)
    (k_frozen : PySem.W.keepIn K (.ref f_frozen) = true)
    (a_is_word : PySem.W.nsIn K mainGlobals "is_word" = some (some (.ref f_is_word)))
    (l_is_word : K.lookup f_is_word = some ⟨oc_is_word, od_is_word, .func (PySem.W.fnOf "is_word" "is_word" (defArgs st_is_word) (defBody st_is_word) (defScope st_is_word) .none kV_is_word dc_is_word pm_is_word an_is_word cd_is_word ct_is_word), sl_is_word⟩)
    (c_is_word : PySem.W.codeIn K cd_is_word "is_word" = true)
    (k_is_word : PySem.W.keepIn K (.ref f_is_word) = true)
    (a_tokens : PySem.W.nsIn K mainGlobals "tokens" = some (some (.ref f_tokens)))
    (l_tokens : K.lookup f_tokens = some ⟨oc_tokens, od_tokens, .func (PySem.W.fnOf "tokens" "tokens" (defArgs st_tokens) (defBody st_tokens) (defScope st_tokens) .none kV_tokens dc_tokens pm_tokens an_tokens cd_tokens ct_tokens), sl_tokens⟩)
    (c_tokens : PySem.W.codeIn K cd_tokens "tokens" = true)
    (k_tokens : PySem.W.keepIn K (.ref f_tokens) = true)
    (a__token : PySem.W.nsIn K mainGlobals "_token" = some (some (.ref f__token)))
    (l__token : K.lookup f__token = some ⟨oc__token, od__token, .func (PySem.W.fnOf "_token" "_token" (defArgs st__token) (defBody st__token) (defScope st__token) .none kV__token dc__token pm__token an__token cd__token ct__token), sl__token⟩)
    (c__token : PySem.W.codeIn K cd__token "_token" = true)
    (k__token : PySem.W.keepIn K (.ref f__token) = true)
    (a__letters : PySem.W.nsIn K mainGlobals "_letters" = some (some (.ref f__letters)))
    (l__letters : K.lookup f__letters = some ⟨oc__letters, od__letters, .func (PySem.W.fnOf "_letters" "_letters" (defArgs st__letters) (defBody st__letters) (defScope st__letters) .none kV__letters dc__letters pm__letters an__letters cd__letters ct__letters), sl__letters⟩)
    (c__letters : PySem.W.codeIn K cd__letters "_letters" = true)
    (k__letters : PySem.W.keepIn K (.ref f__letters) = true)
    (a__digits : PySem.W.nsIn K mainGlobals "_digits" = some (some (.ref f__digits)))
    (l__digits : K.lookup f__digits = some ⟨oc__digits, od__digits, .func (PySem.W.fnOf "_digits" "_digits" (defArgs st__digits) (defBody st__digits) (defScope st__digits) .none kV__digits dc__digits pm__digits an__digits cd__digits ct__digits), sl__digits⟩)
    (c__digits : PySem.W.codeIn K cd__digits "_digits" = true)
    (k__digits : PySem.W.keepIn K (.ref f__digits) = true)
    (a__word : PySem.W.nsIn K mainGlobals "_word" = some (some (.ref f__word)))
    (l__word : K.lookup f__word = some ⟨oc__word, od__word, .func (PySem.W.fnOf "_word" "_word" (defArgs st__word) (defBody st__word) (defScope st__word) .none kV__word dc__word pm__word an__word cd__word ct__word), sl__word⟩)
    (c__word : PySem.W.codeIn K cd__word "_word" = true)
    (k__word : PySem.W.keepIn K (.ref f__word) = true)
    (a__run_end : PySem.W.nsIn K mainGlobals "_run_end" = some (some (.ref f__run_end)))
    (l__run_end : K.lookup f__run_end = some ⟨oc__run_end, od__run_end, .func (PySem.W.fnOf "_run_end" "_run_end" (defArgs st__run_end) (defBody st__run_end) (defScope st__run_end) .none kV__run_end dc__run_end pm__run_end an__run_end cd__run_end ct__run_end), sl__run_end⟩)
    (c__run_end : PySem.W.codeIn K cd__run_end "_run_end" = true)
    (k__run_end : PySem.W.keepIn K (.ref f__run_end) = true)
    (a_l_draw : PySem.W.nsIn K mainGlobals "_law_draw" = some (some (.ref f_l_draw)))
    (l_l_draw : K.lookup f_l_draw = some ⟨oc_l_draw, od_l_draw, .func (PySem.W.fnOf "_law_draw" "_law_draw" (defArgs st_l_draw) (defBody st_l_draw) (defScope st_l_draw) .none kV_l_draw dc_l_draw pm_l_draw an_l_draw cd_l_draw ct_l_draw), sl_l_draw⟩)
    (c_l_draw : PySem.W.codeIn K cd_l_draw "_law_draw" = true)
    (k_l_draw : PySem.W.keepIn K (.ref f_l_draw) = true)
    (a_l_reserved : PySem.W.nsIn K mainGlobals "_law_reserved" = some (some (.ref f_l_reserved)))
    (l_l_reserved : K.lookup f_l_reserved = some ⟨oc_l_reserved, od_l_reserved, .func (PySem.W.fnOf "_law_reserved" "_law_reserved" (defArgs st_l_reserved) (defBody st_l_reserved) (defScope st_l_reserved) .none kV_l_reserved dc_l_reserved pm_l_reserved an_l_reserved cd_l_reserved ct_l_reserved), sl_l_reserved⟩)
    (c_l_reserved : PySem.W.codeIn K cd_l_reserved "_law_reserved" = true)
    (k_l_reserved : PySem.W.keepIn K (.ref f_l_reserved) = true)
    (a_l_name : PySem.W.nsIn K mainGlobals "_law_name" = some (some (.ref f_l_name)))
    (l_l_name : K.lookup f_l_name = some ⟨oc_l_name, od_l_name, .func (PySem.W.fnOf "_law_name" "_law_name" (defArgs st_l_name) (defBody st_l_name) (defScope st_l_name) .none kV_l_name dc_l_name pm_l_name an_l_name cd_l_name ct_l_name), sl_l_name⟩)
    (c_l_name : PySem.W.codeIn K cd_l_name "_law_name" = true)
    (k_l_name : PySem.W.keepIn K (.ref f_l_name) = true)
    (a_l_symbols : PySem.W.nsIn K mainGlobals "_law_symbols" = some (some (.ref f_l_symbols)))
    (l_l_symbols : K.lookup f_l_symbols = some ⟨oc_l_symbols, od_l_symbols, .func (PySem.W.fnOf "_law_symbols" "_law_symbols" (defArgs st_l_symbols) (defBody st_l_symbols) (defScope st_l_symbols) .none kV_l_symbols dc_l_symbols pm_l_symbols an_l_symbols cd_l_symbols ct_l_symbols), sl_l_symbols⟩)
    (c_l_symbols : PySem.W.codeIn K cd_l_symbols "_law_symbols" = true)
    (k_l_symbols : PySem.W.keepIn K (.ref f_l_symbols) = true)
    (a_l_token : PySem.W.nsIn K mainGlobals "_law_token" = some (some (.ref f_l_token)))
    (l_l_token : K.lookup f_l_token = some ⟨oc_l_token, od_l_token, .func (PySem.W.fnOf "_law_token" "_law_token" (defArgs st_l_token) (defBody st_l_token) (defScope st_l_token) .none kV_l_token dc_l_token pm_l_token an_l_token cd_l_token ct_l_token), sl_l_token⟩)
    (c_l_token : PySem.W.codeIn K cd_l_token "_law_token" = true)
    (k_l_token : PySem.W.keepIn K (.ref f_l_token) = true)
    (a_l_scan : PySem.W.nsIn K mainGlobals "_law_scan" = some (some (.ref f_l_scan)))
    (l_l_scan : K.lookup f_l_scan = some ⟨oc_l_scan, od_l_scan, .func (PySem.W.fnOf "_law_scan" "_law_scan" (defArgs st_l_scan) (defBody st_l_scan) (defScope st_l_scan) .none kV_l_scan dc_l_scan pm_l_scan an_l_scan cd_l_scan ct_l_scan), sl_l_scan⟩)
    (c_l_scan : PySem.W.codeIn K cd_l_scan "_law_scan" = true)
    (k_l_scan : PySem.W.keepIn K (.ref f_l_scan) = true)
    (a_l_piece : PySem.W.nsIn K mainGlobals "_law_piece" = some (some (.ref f_l_piece)))
    (l_l_piece : K.lookup f_l_piece = some ⟨oc_l_piece, od_l_piece, .func (PySem.W.fnOf "_law_piece" "_law_piece" (defArgs st_l_piece) (defBody st_l_piece) (defScope st_l_piece) .none kV_l_piece dc_l_piece pm_l_piece an_l_piece cd_l_piece ct_l_piece), sl_l_piece⟩)
    (c_l_piece : PySem.W.codeIn K cd_l_piece "_law_piece" = true)
    (k_l_piece : PySem.W.keepIn K (.ref f_l_piece) = true)
    (a_l_seen_tokens : PySem.W.nsIn K mainGlobals "_law_seen_tokens" = some (some (.ref f_l_seen_tokens)))
    (l_l_seen_tokens : K.lookup f_l_seen_tokens = some ⟨oc_l_seen_tokens, od_l_seen_tokens, .func (PySem.W.fnOf "_law_seen_tokens" "_law_seen_tokens" (defArgs st_l_seen_tokens) (defBody st_l_seen_tokens) (defScope st_l_seen_tokens) .none kV_l_seen_tokens dc_l_seen_tokens pm_l_seen_tokens an_l_seen_tokens cd_l_seen_tokens ct_l_seen_tokens), sl_l_seen_tokens⟩)
    (c_l_seen_tokens : PySem.W.codeIn K cd_l_seen_tokens "_law_seen_tokens" = true)
    (k_l_seen_tokens : PySem.W.keepIn K (.ref f_l_seen_tokens) = true)
    (a_l_end_of : PySem.W.nsIn K mainGlobals "_law_end_of" = some (some (.ref f_l_end_of)))
    (l_l_end_of : K.lookup f_l_end_of = some ⟨oc_l_end_of, od_l_end_of, .func (PySem.W.fnOf "_law_end_of" "_law_end_of" (defArgs st_l_end_of) (defBody st_l_end_of) (defScope st_l_end_of) .none kV_l_end_of dc_l_end_of pm_l_end_of an_l_end_of cd_l_end_of ct_l_end_of), sl_l_end_of⟩)
    (c_l_end_of : PySem.W.codeIn K cd_l_end_of "_law_end_of" = true)
    (k_l_end_of : PySem.W.keepIn K (.ref f_l_end_of) = true)
    (a_law : PySem.W.nsIn K mainGlobals "law" = some (some (.ref f_law)))
    (l_law : K.lookup f_law = some ⟨oc_law, od_law, .func (PySem.W.fnOf "law" "law" (defArgs st_law) (defBody st_law) (defScope st_law) .none kV_law dc_law pm_law an_law cd_law ct_law), sl_law⟩)
    (c_law : PySem.W.codeIn K cd_law "law" = true)
    (k_law : PySem.W.keepIn K (.ref f_law) = true)
    (g_LETTERS : PySem.W.nsIn K mainGlobals "LETTERS" = some (some (.str (tx [97, 98, 99, 100, 101, 102, 103, 104, 105, 106, 107, 108, 109, 110, 111, 112, 113, 114, 115, 116, 117, 118, 119, 120, 121, 122]) t_LETTERS)))
    (g_DIGITS : PySem.W.nsIn K mainGlobals "DIGITS" = some (some (.str (tx [48, 49, 50, 51, 52, 53, 54, 55, 56, 57]) t_DIGITS)))
    (g_NAME_CHARACTERS : PySem.W.nsIn K mainGlobals "NAME_CHARACTERS" = some (some (.str (tx [97, 98, 99, 100, 101, 102, 103, 104, 105, 106, 107, 108, 109, 110, 111, 112, 113, 114, 115, 116, 117, 118, 119, 120, 121, 122, 95, 48, 49, 50, 51, 52, 53, 54, 55, 56, 57]) t_NAME_CHARACTERS)))
    (g_RESERVED : PySem.W.nsIn K mainGlobals "RESERVED" = some (some (.ref A_RESERVED)))
    (gl_RESERVED : K.lookup A_RESERVED = some o_RESERVED)
    (gc_RESERVED : o_RESERVED.cls = .type "tuple")
    (gd_RESERVED : o_RESERVED.data = .seq #[.str (tx [115, 101, 108, 101, 99, 116]) u0_RESERVED, .str (tx [115, 117, 109]) u1_RESERVED, .str (tx [99, 111, 117, 110, 116]) u2_RESERVED, .str (tx [102, 114, 111, 109]) u3_RESERVED, .str (tx [97, 116]) u4_RESERVED, .str (tx [100, 97, 121]) u5_RESERVED, .str (tx [97, 115]) u6_RESERVED, .str (tx [119, 104, 101, 114, 101]) u7_RESERVED, .str (tx [98, 121]) u8_RESERVED, .str (tx [97, 110, 100]) u9_RESERVED, .str (tx [111, 114]) u10_RESERVED, .str (tx [110, 111, 116]) u11_RESERVED, .str (tx [105, 110]) u12_RESERVED] n_RESERVED)
    (g_LONGEST : PySem.W.nsIn K mainGlobals "LONGEST" = some (some (.int (12) t_LONGEST)))
    (g_LONG_SYMBOLS : PySem.W.nsIn K mainGlobals "LONG_SYMBOLS" = some (some (.ref A_LONG_SYMBOLS)))
    (gl_LONG_SYMBOLS : K.lookup A_LONG_SYMBOLS = some o_LONG_SYMBOLS)
    (gc_LONG_SYMBOLS : o_LONG_SYMBOLS.cls = .type "tuple")
    (gd_LONG_SYMBOLS : o_LONG_SYMBOLS.data = .seq #[.str (tx [33, 61]) u0_LONG_SYMBOLS, .str (tx [60, 61]) u1_LONG_SYMBOLS, .str (tx [62, 61]) u2_LONG_SYMBOLS] n_LONG_SYMBOLS)
    (g_SHORT_SYMBOLS : PySem.W.nsIn K mainGlobals "SHORT_SYMBOLS" = some (some (.str (tx [40, 41, 44, 46, 43, 45, 42, 61, 60, 62]) t_SHORT_SYMBOLS)))
    (g_MOST_DIGITS : PySem.W.nsIn K mainGlobals "MOST_DIGITS" = some (some (.int (6) t_MOST_DIGITS)))
    (z_ValueError : PySem.W.nsIn K mainGlobals "ValueError" = some none)
    (z_all : PySem.W.nsIn K mainGlobals "all" = some none)
    (z_int : PySem.W.nsIn K mainGlobals "int" = some none)
    (z_isinstance : PySem.W.nsIn K mainGlobals "isinstance" = some none)
    (z_len : PySem.W.nsIn K mainGlobals "len" = some none)
    (z_list : PySem.W.nsIn K mainGlobals "list" = some none)
    (z_max : PySem.W.nsIn K mainGlobals "max" = some none)
    (z_min : PySem.W.nsIn K mainGlobals "min" = some none)
    (z_range : PySem.W.nsIn K mainGlobals "range" = some none)
    (z_repr : PySem.W.nsIn K mainGlobals "repr" = some none)
    (z_str : PySem.W.nsIn K mainGlobals "str" = some none)
    (z_tuple : PySem.W.nsIn K mainGlobals "tuple" = some none)
    (e_l_scan : cd_l_scan = .ref cA_l_scan)
    (t_l_scan : K.lookup cA_l_scan = some ⟨eT_l_scan, dT_l_scan, .fields vs_l_scan, slT_l_scan⟩)
    (v_l_scan : vs_l_scan[11]? = some (.ref PT_l_scan))
    (n_l_scan : K.lookup PT_l_scan = none)
    (opZ : PySem.W.nsIn K cStatics "thirdparty.any" = some none)
    (zsu : PySem.W.nsIn K mainGlobals "super" = some none)
    (topZ : (P.main.scope.names.lookup ("super" : Str)).isSome = false)
    (K_QuerySyntax : OwnK P K "QuerySyntax" nf_QuerySyntax "QuerySyntax.__init__" C_QuerySyntax f_QuerySyntax c_QuerySyntax k_QuerySyntax ["position"])
    (aH : PySem.W.nsIn K mainGlobals "HushError" = some (some (.ref CH)))
    (isH : PySem.W.kitOne K (.ref C_QuerySyntax) (.ref CH) = some true)
    (isV : PySem.W.kitOne K (.ref C_QuerySyntax) (.type "ValueError") = some true)
    : ∃ (fd : FuncData) (cs : List (Addr × Addr)), (∀ (s : Shared) (v : Value), BindsTo s fd ⟨[v], []⟩ [("_law_script", v)]) ∧ Fun K "law" "law" st_law fa fd ∧ (∀ p ∈ cs, h.get? p.2 = some { cls := .none, data := .fields #[] }) ∧ (∀ p ∈ cs, K.lookup p.2 = none) ∧ (∀ p ∈ cs, PySem.W.CodeHd h p.1 p.2) ∧ TopOkT P w K mg cs 8 ["_law_script", "_law_stream", "_law_turn", "_law_text", "_law_k", "_law_found", "_law_due", "_law_error"] "law" st_law fa (fun a ns H => SqL K H a (ns.map V.int)) := by
  have e := hfa.symm.trans (PySem.W.mg_of X G a_law)
  cases e
  have Z : Zs mg := ⟨PySem.W.mg_none_of X G z_ValueError, PySem.W.mg_none_of X G z_all, PySem.W.mg_none_of X G z_int, PySem.W.mg_none_of X G z_isinstance, PySem.W.mg_none_of X G z_len, PySem.W.mg_none_of X G z_list, PySem.W.mg_none_of X G z_max, PySem.W.mg_none_of X G z_min, PySem.W.mg_none_of X G z_range, PySem.W.mg_none_of X G z_repr, PySem.W.mg_none_of X G z_str, PySem.W.mg_none_of X G z_tuple⟩
  have F_frozen := fun_mk (st := st_frozen) l_frozen c_frozen k_frozen
  have D_frozen : DefK K mg "frozen" st_frozen ["thing"] f_frozen _ := ⟨PySem.W.mg_of X G a_frozen, F_frozen, F_frozen.binds (ps := ["thing"]) fun _ _ _ _ _ _ us hl => match us, hl with | [_], _ => rfl⟩
  have F_is_word := fun_mk (st := st_is_word) l_is_word c_is_word k_is_word
  have D_is_word : DefK K mg "is_word" st_is_word ["thing"] f_is_word _ := ⟨PySem.W.mg_of X G a_is_word, F_is_word, F_is_word.binds (ps := ["thing"]) fun _ _ _ _ _ _ us hl => match us, hl with | [_], _ => rfl⟩
  have F_tokens := fun_mk (st := st_tokens) l_tokens c_tokens k_tokens
  have D_tokens : DefK K mg "tokens" st_tokens ["text"] f_tokens _ := ⟨PySem.W.mg_of X G a_tokens, F_tokens, F_tokens.binds (ps := ["text"]) fun _ _ _ _ _ _ us hl => match us, hl with | [_], _ => rfl⟩
  have F__token := fun_mk (st := st__token) l__token c__token k__token
  have D__token : DefK K mg "_token" st__token ["text", "start"] f__token _ := ⟨PySem.W.mg_of X G a__token, F__token, F__token.binds (ps := ["text", "start"]) fun _ _ _ _ _ _ us hl => match us, hl with | [_, _], _ => rfl⟩
  have F__letters := fun_mk (st := st__letters) l__letters c__letters k__letters
  have D__letters : DefK K mg "_letters" st__letters ["text", "start"] f__letters _ := ⟨PySem.W.mg_of X G a__letters, F__letters, F__letters.binds (ps := ["text", "start"]) fun _ _ _ _ _ _ us hl => match us, hl with | [_, _], _ => rfl⟩
  have F__digits := fun_mk (st := st__digits) l__digits c__digits k__digits
  have D__digits : DefK K mg "_digits" st__digits ["text", "start"] f__digits _ := ⟨PySem.W.mg_of X G a__digits, F__digits, F__digits.binds (ps := ["text", "start"]) fun _ _ _ _ _ _ us hl => match us, hl with | [_, _], _ => rfl⟩
  have F__word := fun_mk (st := st__word) l__word c__word k__word
  have D__word : DefK K mg "_word" st__word ["text", "start"] f__word _ := ⟨PySem.W.mg_of X G a__word, F__word, F__word.binds (ps := ["text", "start"]) fun _ _ _ _ _ _ us hl => match us, hl with | [_, _], _ => rfl⟩
  have F__run_end := fun_mk (st := st__run_end) l__run_end c__run_end k__run_end
  have D__run_end : DefK K mg "_run_end" st__run_end ["text", "start", "characters"] f__run_end _ := ⟨PySem.W.mg_of X G a__run_end, F__run_end, F__run_end.binds (ps := ["text", "start", "characters"]) fun _ _ _ _ _ _ us hl => match us, hl with | [_, _, _], _ => rfl⟩
  have F_l_draw := fun_mk (st := st_l_draw) l_l_draw c_l_draw k_l_draw
  have D_l_draw : DefK K mg "_law_draw" st_l_draw ["_law_stream", "_law_many"] f_l_draw _ := ⟨PySem.W.mg_of X G a_l_draw, F_l_draw, F_l_draw.binds (ps := ["_law_stream", "_law_many"]) fun _ _ _ _ _ _ us hl => match us, hl with | [_, _], _ => rfl⟩
  have F_l_reserved := fun_mk (st := st_l_reserved) l_l_reserved c_l_reserved k_l_reserved
  have D_l_reserved : DefK K mg "_law_reserved" st_l_reserved [] f_l_reserved _ := ⟨PySem.W.mg_of X G a_l_reserved, F_l_reserved, F_l_reserved.binds (ps := []) fun _ _ _ _ _ _ us hl => match us, hl with | [], _ => rfl⟩
  have F_l_name := fun_mk (st := st_l_name) l_l_name c_l_name k_l_name
  have D_l_name : DefK K mg "_law_name" st_l_name ["_law_stream"] f_l_name _ := ⟨PySem.W.mg_of X G a_l_name, F_l_name, F_l_name.binds (ps := ["_law_stream"]) fun _ _ _ _ _ _ us hl => match us, hl with | [_], _ => rfl⟩
  have F_l_symbols := fun_mk (st := st_l_symbols) l_l_symbols c_l_symbols k_l_symbols
  have D_l_symbols : DefK K mg "_law_symbols" st_l_symbols [] f_l_symbols _ := ⟨PySem.W.mg_of X G a_l_symbols, F_l_symbols, F_l_symbols.binds (ps := []) fun _ _ _ _ _ _ us hl => match us, hl with | [], _ => rfl⟩
  have F_l_token := fun_mk (st := st_l_token) l_l_token c_l_token k_l_token
  have D_l_token : DefK K mg "_law_token" st_l_token ["_law_stream"] f_l_token _ := ⟨PySem.W.mg_of X G a_l_token, F_l_token, F_l_token.binds (ps := ["_law_stream"]) fun _ _ _ _ _ _ us hl => match us, hl with | [_], _ => rfl⟩
  have F_l_scan := fun_mk (st := st_l_scan) l_l_scan c_l_scan k_l_scan
  have D_l_scan : DefK K mg "_law_scan" st_l_scan ["_law_text"] f_l_scan _ := ⟨PySem.W.mg_of X G a_l_scan, F_l_scan, F_l_scan.binds (ps := ["_law_text"]) fun _ _ _ _ _ _ us hl => match us, hl with | [_], _ => rfl⟩
  have F_l_piece := fun_mk (st := st_l_piece) l_l_piece c_l_piece k_l_piece
  have D_l_piece : DefK K mg "_law_piece" st_l_piece ["_law_stream"] f_l_piece _ := ⟨PySem.W.mg_of X G a_l_piece, F_l_piece, F_l_piece.binds (ps := ["_law_stream"]) fun _ _ _ _ _ _ us hl => match us, hl with | [_], _ => rfl⟩
  have F_l_seen_tokens := fun_mk (st := st_l_seen_tokens) l_l_seen_tokens c_l_seen_tokens k_l_seen_tokens
  have D_l_seen_tokens : DefK K mg "_law_seen_tokens" st_l_seen_tokens ["_law_text"] f_l_seen_tokens _ := ⟨PySem.W.mg_of X G a_l_seen_tokens, F_l_seen_tokens, F_l_seen_tokens.binds (ps := ["_law_text"]) fun _ _ _ _ _ _ us hl => match us, hl with | [_], _ => rfl⟩
  have F_l_end_of := fun_mk (st := st_l_end_of) l_l_end_of c_l_end_of k_l_end_of
  have D_l_end_of : DefK K mg "_law_end_of" st_l_end_of ["_law_text", "_law_at", "_law_inner"] f_l_end_of _ := ⟨PySem.W.mg_of X G a_l_end_of, F_l_end_of, F_l_end_of.binds (ps := ["_law_text", "_law_at", "_law_inner"]) fun _ _ _ _ _ _ us hl => match us, hl with | [_, _, _], _ => rfl⟩
  have F_law := fun_mk (st := st_law) l_law c_law k_law
  have D_law : DefK K mg "law" st_law ["_law_script"] fa _ := ⟨PySem.W.mg_of X G a_law, F_law, F_law.binds (ps := ["_law_script"]) fun _ _ _ _ _ _ us hl => match us, hl with | [_], _ => rfl⟩
  obtain ⟨oc_QuerySyntax, od_QuerySyntax, dc_QuerySyntax, pm_QuerySyntax, ct_QuerySyntax, sl_QuerySyntax, lf_QuerySyntax⟩ := K_QuerySyntax.fn
  have T_QuerySyntax : OwnC P K mg "QuerySyntax" nf_QuerySyntax "QuerySyntax.__init__" C_QuerySyntax f_QuerySyntax c_QuerySyntax k_QuerySyntax _ ["self", "position"] := ⟨⟨K_QuerySyntax.oex, K_QuerySyntax.code, K_QuerySyntax.cell, K_QuerySyntax.cls, K_QuerySyntax.own, K_QuerySyntax.ve, K_QuerySyntax.sup, opZ, PySem.W.mg_none_of X G zsu, topZ⟩, PySem.W.mg_of X G K_QuerySyntax.ns, K_QuerySyntax.iC, K_QuerySyntax.tI, ⟨oc_QuerySyntax, od_QuerySyntax, dc_QuerySyntax, pm_QuerySyntax, ct_QuerySyntax, sl_QuerySyntax, rfl, lf_QuerySyntax⟩, K_QuerySyntax.cdk, .all fun us hl => match us, hl with | [_, _], _ => rfl, K_QuerySyntax.xf, K_QuerySyntax.ex⟩

  have CG : CGs K mg := ⟨t_LETTERS, PySem.W.mg_of X G g_LETTERS, t_DIGITS, PySem.W.mg_of X G g_DIGITS, t_NAME_CHARACTERS, PySem.W.mg_of X G g_NAME_CHARACTERS, A_RESERVED, PySem.W.mg_of X G g_RESERVED, fun H => .inr ⟨o_RESERVED, _, n_RESERVED, gl_RESERVED, gc_RESERVED, gd_RESERVED, by show 13 ≤ sizeLine; decide, (.cons ⟨_, rfl⟩ (.cons ⟨_, rfl⟩ (.cons ⟨_, rfl⟩ (.cons ⟨_, rfl⟩ (.cons ⟨_, rfl⟩ (.cons ⟨_, rfl⟩ (.cons ⟨_, rfl⟩ (.cons ⟨_, rfl⟩ (.cons ⟨_, rfl⟩ (.cons ⟨_, rfl⟩ (.cons ⟨_, rfl⟩ (.cons ⟨_, rfl⟩ (.cons ⟨_, rfl⟩ .nil)))))))))))))⟩, t_LONGEST, PySem.W.mg_of X G g_LONGEST, A_LONG_SYMBOLS, PySem.W.mg_of X G g_LONG_SYMBOLS, fun H => .inr ⟨o_LONG_SYMBOLS, _, n_LONG_SYMBOLS, gl_LONG_SYMBOLS, gc_LONG_SYMBOLS, gd_LONG_SYMBOLS, by show 3 ≤ sizeLine; decide, (.cons ⟨_, rfl⟩ (.cons ⟨_, rfl⟩ (.cons ⟨_, rfl⟩ .nil)))⟩, t_SHORT_SYMBOLS, PySem.W.mg_of X G g_SHORT_SYMBOLS, t_MOST_DIGITS, PySem.W.mg_of X G g_MOST_DIGITS⟩
  have TQ_l_scan := DefTab.of (HT "_law_scan" (by simp)) X (PySem.W.mg_of X G a_l_scan) l_l_scan e_l_scan t_l_scan v_l_scan
  refine ⟨PySem.W.fnOf "law" "law" (defArgs st_law) (defBody st_law) (defScope st_law) .none kV_law dc_law pm_law an_law cd_law ct_law, [(cA_l_scan, PT_l_scan)], fun s v => .of_eq rfl, F_law, fun p hp => by rw [List.mem_singleton.mp hp]; exact TQ_l_scan.1, fun p hp => by rw [List.mem_singleton.mp hp]; exact n_l_scan, fun p hp => by rw [List.mem_singleton.mp hp]; exact TQ_l_scan.2, fun cd base s H a ns KB NB NS TBS hr hS HTB => ?_⟩
  have TB_l_scan := TBS (cA_l_scan, PT_l_scan) (by simp)
  have HT_l_scan := HTB (cA_l_scan, PT_l_scan) (by simp)
  have G_frozen : FnOk P w K mg base CX0 1 f_frozen _ ["thing"] (sp_frozen K) := ok_frozen (P := P) (w := w) (base := base) D_frozen Z CG 
  have GI_QuerySyntax := ok_i_QuerySyntax (P := P) (w := w) (base := base) T_QuerySyntax D_frozen G_frozen K_QuerySyntax.nos
  have G_l_draw : FnOk P w K mg base CX0 1 f_l_draw _ ["_law_stream", "_law_many"] (sp_l_draw K) := ok_l_draw (P := P) (w := w) (base := base)  D_l_draw Z CG  
  have G_l_reserved : FnOk P w K mg base CX0 1 f_l_reserved _ [] (sp_l_reserved K) := ok_l_reserved (P := P) (w := w) (base := base)  D_l_reserved Z CG  
  have G_l_symbols : FnOk P w K mg base CX0 1 f_l_symbols _ [] (sp_l_symbols K) := ok_l_symbols (P := P) (w := w) (base := base)  D_l_symbols Z CG  
  have G_l_end_of : FnOk P w K mg base CX0 1 f_l_end_of _ ["_law_text", "_law_at", "_law_inner"] (sp_l_end_of K) := ok_l_end_of (P := P) (w := w) (base := base)  D_l_end_of Z CG  
  have G_l_scan : FnOk P w K mg base CX0 4 f_l_scan _ ["_law_text"] (sp_l_scan PT_l_scan K) := ok_l_scan (P := P) (w := w) (base := base)  D_l_scan Z CG D_l_reserved G_l_reserved D_l_symbols G_l_symbols D_l_end_of G_l_end_of TB_l_scan e_l_scan
  have G_l_name : FnOk P w K mg base CX0 2 f_l_name _ ["_law_stream"] (sp_l_name K) := ok_l_name (P := P) (w := w) (base := base)  D_l_name Z CG D_l_draw G_l_draw D_l_reserved G_l_reserved 
  have G_l_token : FnOk P w K mg base CX0 3 f_l_token _ ["_law_stream"] (sp_l_token K) := ok_l_token (P := P) (w := w) (base := base)  D_l_token Z CG D_l_draw G_l_draw D_l_reserved G_l_reserved D_l_name G_l_name D_l_symbols G_l_symbols 
  have G_l_piece : FnOk P w K mg base CX0 4 f_l_piece _ ["_law_stream"] (sp_l_piece K) := ok_l_piece (P := P) (w := w) (base := base)  D_l_piece Z CG D_l_draw G_l_draw D_l_token G_l_token 
  have G__run_end : FnOk P w K mg base CX0 1 f__run_end _ ["text", "start", "characters"] (sp__run_end K) := ok__run_end (P := P) (w := w) (base := base)  D__run_end Z CG  
  have G__letters : FnOk P w K mg base (L2.CX P w) 4 f__letters _ ["text", "start"] (sp__lettersX K) := ok__letters (P := P) (w := w) (base := base)  D__letters Z CG D__run_end G__run_end T_QuerySyntax K_QuerySyntax.ns GI_QuerySyntax
  have G__digits : FnOk P w K mg base (L2.CX P w) 4 f__digits _ ["text", "start"] (sp__digitsX K) := ok__digits (P := P) (w := w) (base := base)  D__digits Z CG D__run_end G__run_end T_QuerySyntax K_QuerySyntax.ns GI_QuerySyntax
  have G_is_word : FnOk P w K mg base CX0 1 f_is_word _ ["thing"] (sp_is_word K) := ok_is_word (P := P) (w := w) (base := base)  D_is_word Z CG  
  have G__word : FnOk P w K mg base (L2.CX P w) 4 f__word _ ["text", "start"] (sp__wordX K) := ok__word (P := P) (w := w) (base := base)  D__word Z CG D_is_word G_is_word T_QuerySyntax K_QuerySyntax.ns GI_QuerySyntax
  have G__token : FnOk P w K mg base (L2.CX P w) 5 f__token _ ["text", "start"] (sp__tokenX K) := ok__token (P := P) (w := w) (base := base)  D__token Z CG D__letters G__letters D__digits G__digits D__word G__word T_QuerySyntax K_QuerySyntax.ns GI_QuerySyntax
  have G_tokens : FnOk P w K mg base (L2.CX P w) 6 f_tokens _ ["text"] (sp_tokensX K) := ok_tokens (P := P) (w := w) (base := base)  D_tokens Z CG D__token G__token 
  have G_l_seen_tokens : FnOk P w K mg base CX0 8 f_l_seen_tokens _ ["_law_text"] (sp_l_seen K) := ok_l_seen_tokens (P := P) (w := w) (base := base)  D_l_seen_tokens Z CG D_tokens G_tokens T_QuerySyntax K_QuerySyntax.ns K_QuerySyntax.nos K_QuerySyntax.te
  exact top_law (P := P) (w := w) (base := base)  Z CG D_l_draw G_l_draw D_l_scan G_l_scan D_l_piece G_l_piece D_l_seen_tokens G_l_seen_tokens  hr hS HT_l_scan T_QuerySyntax GI_QuerySyntax K_QuerySyntax.ex (PySem.W.mg_of X G aH) isH isV K_QuerySyntax.nos
theorem walk {l : PySem.W.OpenLaw} {q : Program} {loose : List Str} {XP : (Str → Option Value) → Heap → Prop} {YP : World → Heap → Prop} {d : DefRec} {K : Params → PySem.W.Frag} (hn : l.most = some 63) (hdf : d.params.defaults = []) (hnm : d.name = "law") (hi : importsNone q = true) (hrec : ∀ x ∈ (["_law_scan"] : List Str), ((recsOf q).any fun e => e.name == x) = true)
    (hY : ∀ (w : World) (h : Heap), YP w h → (K w.params).In h)
    (F : ∀ (w : World) (mg : Str → Option Value) (fa : Addr) (h : Heap), (K w.params).In h → h.Ns mainGlobals mg → mg "law" = some (.ref fa) → (∀ x ∈ (["_law_scan"] : List Str), DefTab mg h x) →
      ∃ (fd : FuncData) (cs : List (Addr × Addr)), (∀ (s : Shared) (v : Value), BindsTo s fd ⟨[v], []⟩ [("_law_script", v)]) ∧ Fun (K w.params) "law" "law" st_law fa fd ∧ (∀ p ∈ cs, h.get? p.2 = some { cls := .none, data := .fields #[] }) ∧ (∀ p ∈ cs, (K w.params).lookup p.2 = none) ∧ (∀ p ∈ cs, PySem.W.CodeHd h p.1 p.2) ∧ TopOkT l.prog w (K w.params) mg cs 8 ["_law_script", "_law_stream", "_law_turn", "_law_text", "_law_k", "_law_found", "_law_due", "_law_error"] "law" st_law fa (fun a ns H => SqL (K w.params) H a (ns.map V.int))) :
    PySem.W.WalkO q loose XP YP l.row.toRowW d [] (fun f vs => PySem.call f vs) :=
  top_walkT (names := ["_law_scan"]) hi (n := 63) (k := 8) (N := ["_law_script", "_law_stream", "_law_turn", "_law_text", "_law_k", "_law_found", "_law_due", "_law_error"]) (p := "_law_script") (st := st_law) (ok := fun K a ns H => SqL K H a (ns.map V.int)) hn (by decide) hdf sc_law ⟨rfl, by decide, by decide⟩ hrec hY (fun w mg fa h a b c t => by rw [hnm] at c ⊢; exact F w mg fa h a b c t) fun _ _ _ _ _ h => h
end K49
open PySem PySem.W PyProof.Rows in
set_option maxRecDepth 100000 in
set_option maxHeartbeats 0 in
theorem PySem.Challenge.cw_hushgrain_k49_texts_without_tokens_holds : PySem.Challenge.rw_hushgrain_k49_texts_without_tokens.Holds := by
  w_on; o_law; k_head; (case hw => w_witness2)
  k_fill
  refine K49.walk (l := PySem.Challenge.rw_hushgrain_k49_texts_without_tokens) rfl rfl rfl (by decide) (by decide +kernel) (fun w h Y => PySem.W.km_in_of Y) ?F
  case F =>
    intro w mg fa h KX G hmg HT
    refine' K49.all_mk KX G hmg HT ?a_frozen ?l_frozen ?c_frozen ?k_frozen ?a_is_word ?l_is_word ?c_is_word ?k_is_word ?a_tokens ?l_tokens ?c_tokens ?k_tokens ?a__token ?l__token ?c__token ?k__token ?a__letters ?l__letters ?c__letters ?k__letters ?a__digits ?l__digits ?c__digits ?k__digits ?a__word ?l__word ?c__word ?k__word ?a__run_end ?l__run_end ?c__run_end ?k__run_end ?a_l_draw ?l_l_draw ?c_l_draw ?k_l_draw ?a_l_reserved ?l_l_reserved ?c_l_reserved ?k_l_reserved ?a_l_name ?l_l_name ?c_l_name ?k_l_name ?a_l_symbols ?l_l_symbols ?c_l_symbols ?k_l_symbols ?a_l_token ?l_l_token ?c_l_token ?k_l_token ?a_l_scan ?l_l_scan ?c_l_scan ?k_l_scan ?a_l_piece ?l_l_piece ?c_l_piece ?k_l_piece ?a_l_seen_tokens ?l_l_seen_tokens ?c_l_seen_tokens ?k_l_seen_tokens ?a_l_end_of ?l_l_end_of ?c_l_end_of ?k_l_end_of ?a_law ?l_law ?c_law ?k_law ?g_LETTERS ?g_DIGITS ?g_NAME_CHARACTERS ?g_RESERVED ?gl_RESERVED ?gc_RESERVED ?gd_RESERVED ?g_LONGEST ?g_LONG_SYMBOLS ?gl_LONG_SYMBOLS ?gc_LONG_SYMBOLS ?gd_LONG_SYMBOLS ?g_SHORT_SYMBOLS ?g_MOST_DIGITS ?z_ValueError ?z_all ?z_int ?z_isinstance ?z_len ?z_list ?z_max ?z_min ?z_range ?z_repr ?z_str ?z_tuple ?e_l_scan ?t_l_scan ?v_l_scan ?n_l_scan ?opZ ?zsu ?topZ ?K_QuerySyntax ?aH ?isH ?isV
    (case a_frozen => k_is)
    (case l_frozen => k_is)
    (case c_frozen => k_is)
    (case k_frozen => k_is)
    (case a_is_word => k_is)
    (case l_is_word => k_is)
    (case c_is_word => k_is)
    (case k_is_word => k_is)
    (case a_tokens => k_is)
    (case l_tokens => k_is)
    (case c_tokens => k_is)
    (case k_tokens => k_is)
    (case a__token => k_is)
    (case l__token => k_is)
    (case c__token => k_is)
    (case k__token => k_is)
    (case a__letters => k_is)
    (case l__letters => k_is)
    (case c__letters => k_is)
    (case k__letters => k_is)
    (case a__digits => k_is)
    (case l__digits => k_is)
    (case c__digits => k_is)
    (case k__digits => k_is)
    (case a__word => k_is)
    (case l__word => k_is)
    (case c__word => k_is)
    (case k__word => k_is)
    (case a__run_end => k_is)
    (case l__run_end => k_is)
    (case c__run_end => k_is)
    (case k__run_end => k_is)
    (case a_l_draw => k_is)
    (case l_l_draw => k_is)
    (case c_l_draw => k_is)
    (case k_l_draw => k_is)
    (case a_l_reserved => k_is)
    (case l_l_reserved => k_is)
    (case c_l_reserved => k_is)
    (case k_l_reserved => k_is)
    (case a_l_name => k_is)
    (case l_l_name => k_is)
    (case c_l_name => k_is)
    (case k_l_name => k_is)
    (case a_l_symbols => k_is)
    (case l_l_symbols => k_is)
    (case c_l_symbols => k_is)
    (case k_l_symbols => k_is)
    (case a_l_token => k_is)
    (case l_l_token => k_is)
    (case c_l_token => k_is)
    (case k_l_token => k_is)
    (case a_l_scan => k_is)
    (case l_l_scan => k_is)
    (case c_l_scan => k_is)
    (case k_l_scan => k_is)
    (case a_l_piece => k_is)
    (case l_l_piece => k_is)
    (case c_l_piece => k_is)
    (case k_l_piece => k_is)
    (case a_l_seen_tokens => k_is)
    (case l_l_seen_tokens => k_is)
    (case c_l_seen_tokens => k_is)
    (case k_l_seen_tokens => k_is)
    (case a_l_end_of => k_is)
    (case l_l_end_of => k_is)
    (case c_l_end_of => k_is)
    (case k_l_end_of => k_is)
    (case a_law => k_is)
    (case l_law => k_is)
    (case c_law => k_is)
    (case k_law => k_is)
    (case g_LETTERS => k_is)
    (case g_DIGITS => k_is)
    (case g_NAME_CHARACTERS => k_is)
    (case g_RESERVED => k_is)
    (case gl_RESERVED => k_is)
    (case gc_RESERVED => rfl)
    (case gd_RESERVED => rfl)
    (case g_LONGEST => k_is)
    (case g_LONG_SYMBOLS => k_is)
    (case gl_LONG_SYMBOLS => k_is)
    (case gc_LONG_SYMBOLS => rfl)
    (case gd_LONG_SYMBOLS => rfl)
    (case g_SHORT_SYMBOLS => k_is)
    (case g_MOST_DIGITS => k_is)
    (case z_ValueError => k_is)
    (case z_all => k_is)
    (case z_int => k_is)
    (case z_isinstance => k_is)
    (case z_len => k_is)
    (case z_list => k_is)
    (case z_max => k_is)
    (case z_min => k_is)
    (case z_range => k_is)
    (case z_repr => k_is)
    (case z_str => k_is)
    (case z_tuple => k_is)
    (case e_l_scan => rfl)
    (case t_l_scan => k_is)
    (case v_l_scan => rfl)
    (case n_l_scan => first | kernel_rfl | k_is)
    (case opZ => k_is)
    (case zsu => k_is)
    (case topZ => decide +kernel)
    (case K_QuerySyntax => (refine' Hg.ownK_mk ?a ?x ?r ?sa ?e ?t ?kc ?i ?ti ?l ?ck ?lk ?lk2 ?lk3 ?lc ?cl ?ow ?ve ?su ?ga ?gg ?hd ?ha ?hn ?ht ?hm ?no ?te; (case a => k_is); (case x => k_is); (case r => decide +kernel); (case sa => k_is); (case e => k_is); (case t => k_is); (case kc => k_is); (case i => k_is); (case ti => k_is); (case l => k_is); (case ck => k_is); (case lk => k_is); (case lk2 => rfl); (case lk3 => decide +kernel); (case lc => k_is); (case cl => k_is); (case ow => k_is); (case ve => k_is); (case su => ks_is); (case ga => k_is); (case gg => k_is); (case hd => k_is); (case ha => k_is); (case hn => k_is); (case ht => k_is); (case hm => k_is); (case no => first | kernel_rfl | decide +kernel); (case te => kernel_rfl)))
    (case aH => k_is)
    (case isH => first | kit_is | kernel_rfl)
    (case isV => first | kit_is | kernel_rfl)
#print axioms PySem.Challenge.cw_hushgrain_k49_texts_without_tokens_holds
