import PyProof.Rows.All
import Wide.All
import OpenK.AllK
import Wide.FinOn
import HandS.ForMost
import HandS.ForExc
import HandS.IsInst
import HandS.Wide
import HandS.Gcd
import HandS.Zip
import HandS.Rev
import HandS.TupAny
import HandS.Strs
import HandS.SortInts
import HandS.ExcInit
import HandS.Nested
import HandS.Walk
import KE.GoesEnum
import HandS.SetFor
import KE.KExcSuper
import HandS.TupMul
import HandS.Style
import HandS.EndBits
import PyProof.ReprRoads
import HandS.StrMore
import HandS.Text
import PyProof.StrBlock2
import PyProof.Rows.StrMul
import PyProof.StrLawsIn
import HandS.ExcField
import HandS.ExcIs
import KE.KExcIs
import HandS.RevRange
import HandS.Conv
import PyProof.ReprLen
import KE.DataAny
import KE.KIndexOf
import HandS.Flow
import HandS.TupLe
import HandS.Dict
import HandS.Small
import KE.KDictDisplayH
import KE.KMathG
import PyProof.NoPylong
import PyProof.Calls
import HandS.Defaults
import PySem.Challenge.RW_hushgrain_k06_members_of_a_lattice
import KE.GoesMore
import KE.GoesZip

set_option Elab.async false
set_option linter.all false
set_option maxRecDepth 100000
set_option maxHeartbeats 2000000
namespace Hg
open PySem PySem.Spec PyProof.Rows L2

section
variable {X : Cx}
/-! ### operators of several kinds at once -/
abbrev rAddI : R2 := rI0 fun i j => .int (i + j)
abbrev rAddS : R2 := fun x y H Q => ∃ i j, x = .str i ∧ y = .str j ∧ i.length + j.length ≤ sizeLine ∧ Q (.str (i ++ j)) H
def rPlus (K : PySem.W.Frag) : R2 := fun x y H Q => rAddI x y H Q ∨ (rCat x y H Q ∨ (rCatA K x y H Q ∨ rAddS x y H Q))
theorem oAdd : OpR X (binaryOp .Add) (rPlus X.K) := op_add.or (op_cat.or (op_catA.or op_add_str))
abbrev rMulI : R2 := rI CMulW fun i j => .int (i * j)
theorem oMul : OpR X (binaryOp .Mult) rMulI := op_mulW
/-- // by any divisor but 0 below 2 ^ 9000 in size -/
def CDivA (_ j : Int) : Prop := j ≠ 0 ∧ j.natAbs.log2 < 9000
abbrev rDivI : R2 := rI CDivA fun i j => .int (i.fdiv j)
theorem oDiv : OpR X (binaryOp .FloorDiv) rDivI := opI fun i j _ _ _ _ _ hc q =>
  PyProof.Rows.floordiv_int hc.1 q (.inl (PyProof.noPylong_of_log2 hc.2))
abbrev rModI : R2 := rI (fun _ j => j ≠ 0) fun i j => .int (i.fmod j)
theorem oMod : OpR X (binaryOp .Mod) rModI := op_modN
def rEqA (K : PySem.W.Frag) : R2 := fun x y H Q => rEq x y H Q ∨ rEqD K x y H Q
def rNeA (K : PySem.W.Frag) : R2 := fun x y H Q => rNe x y H Q ∨ rNeD K x y H Q
theorem oEq (hu : X.A.units + 64 < cLine) : OpR X (compareOp .Eq) (rEqA X.K) := op_eq.or (op_eqD hu)
theorem oNe (hu : X.A.units + 64 < cLine) : OpR X (compareOp .NotEq) (rNeA X.K) := op_ne.or (op_neD hu)
def rSlAll (K : PySem.W.Frag) : V → Option Int → Option Int → Hp → VK → Prop := fun x lo hi H Q => rSlL K x lo hi H Q ∨ rSlA K x lo hi H Q
theorem oSl : SlR X (rSlAll X.K) := sl_list.or sl_tupA
/-! ### isqrt -/
def rIsqrt : List V → Hp → VK → Prop := fun vs H Q => ∃ a : Int, vs = [.int a] ∧ 0 ≤ a ∧ a < 2 ^ 64 ∧ Q (.int ((Float64.isqrt a.toNat : Nat) : Int)) H
theorem cr_isqrt : CallR X (.builtin "math.isqrt") rIsqrt := by
  intro pins s σ H vs us Q I r h
  obtain ⟨a, rfl, h0, h1, q⟩ := h
  obtain ⟨u, rfl, t, rfl⟩ := Vals.one r
  exact PySem.W.mg_isqrt h0 h1 ⟨.int _, H, I.tok _, ⟨_, rfl⟩, q⟩
end
end Hg

set_option maxHeartbeats 4000000
namespace Hg
open PySem PySem.Spec PyProof.Rows L2
/-! ### a list or a tuple, by a flag -/
def SqK (K : PySem.W.Frag) : Bool → Hp → Addr → List V → Prop
  | true => SqT K
  | false => SqL K
def ItK (K : PySem.W.Frag) : Bool → Addr → It
  | true => Itt K
  | false => Itl K
theorem SqK.inj {X : Cx} {pins : List (Addr × Obj)} {σ : L2.St} {H : Hp} {s : Shared} {k : Bool} {a : Addr} {xs ys : List V} (I : Inv X pins σ H s) (h : SqK X.K k H a xs) (h' : SqK X.K k H a ys) : xs = ys := by
  cases k with
  | true => exact I.tuple_inj h h'
  | false => exact I.list_inj h h'
theorem walk_k {K : PySem.W.Frag} {k : Bool} {a : Addr} {xs : List V} : Walk (ItK K k a) xs.length (fun H => SqK K k H a xs) (YAt xs) := by
  cases k with
  | true => exact ⟨fun i _ hi q => ⟨xs, xs[i], q, by simp [hi]⟩, fun _ q => ⟨xs, q, Nat.le_refl _⟩, fun i H v H' _ q y => ⟨y.1, y.2 xs q⟩⟩
  | false => exact ⟨fun i _ hi q => ⟨xs, xs[i], q, by simp [hi]⟩, fun _ q => ⟨xs, q, Nat.le_refl _⟩, fun i H v H' _ q y => ⟨y.1, y.2 xs q⟩⟩
def iSeq (K : PySem.W.Frag) (te : TE) : TI := fun σ H R => te σ H fun x H1 => ∃ (k : Bool) (a : Addr) (xs : List V), x = .ref a ∧ SqK K k H1 a xs ∧ R (ItK K k a) H1
section
variable {X : Cx} {tg : Expr}
theorem pi_seq {e : Expr} {te : TE} (he : PE X e te) : PI X tg e (iSeq X.K te) := by
  refine ⟨fun pins s σ H R I h => thn (he.run pins s σ H _ I h) ?_⟩
  rintro v s1 ⟨x, H1, I1, r1, k, a, xs, rfl, hq, q⟩
  cases (show v = Value.ref a from r1)
  have one : ∀ b ∈ [s1.heap.objs.size], FpOk X pins H1 b := fun b hb => by
    rw [List.mem_singleton.mp hb]
    exact I1.fpOk (Nat.le_refl _) I1.fresh
  have up : ∀ o, Inv X pins σ H1 { s1 with heap := s1.heap.push o, toks := s1.toks } := fun o => I1.kept (t' := s1.toks) fun b u e => Heap.get?_push_of_some _ e
  cases k with
  | true =>
    obtain ⟨its, rv, p, hz⟩ := I1.tuple hq
    exact wpAny_pyIter_tuple (show s1.heap.IsTuple a its.toArray from p) ⟨_, [s1.heap.objs.size], _, _, H1, rfl, up _, turn_tuple a _, ⟨_, Heap.get?_push_size _ rfl, rfl, rfl⟩, one, q⟩
  | false =>
    obtain ⟨its, rv, p, hz⟩ := I1.list hq
    exact wpAny_pyIter_list p.isList ⟨_, [s1.heap.objs.size], _, _, H1, rfl, up _, turn_list a _, ⟨_, Heap.get?_push_size _ rfl, rfl, rfl⟩, one, q⟩
end
/-! ### zip of two of them -/
def ItzK (K : PySem.W.Frag) (k l : Bool) (a b : Addr) : It :=
  ⟨fun i H => ∃ (xs ys : List V) (x y : V), SqK K k H a xs ∧ SqK K l H b ys ∧ xs[i]? = some x ∧ ys[i]? = some y,
    fun i H v H' => ∃ T x y, v = .ref T ∧ H T = none ∧ H' = upd H T (.tup [x, y]) ∧ (∀ xs, SqK K k H a xs → xs[i]? = some x) ∧ ∀ ys, SqK K l H b ys → ys[i]? = some y,
    fun i H => ∃ xs ys : List V, SqK K k H a xs ∧ SqK K l H b ys ∧ i ≤ xs.length ∧ i ≤ ys.length ∧ (i = xs.length ∨ i = ys.length)⟩
theorem walk_zk {K : PySem.W.Frag} {k l : Bool} {a b : Addr} {xs ys : List V} {n : Nat} (hn : n = min xs.length ys.length) : Walk (ItzK K k l a b) n (fun H => SqK K k H a xs ∧ SqK K l H b ys) (YPair (fun i => xs[i]?) (fun i => ys[i]?)) := by
  subst hn
  refine ⟨fun i _ hi q => ?_, fun _ q => ⟨xs, ys, q.1, q.2, by omega, by omega, by omega⟩, fun i H v H' _ q y => ?_⟩
  · exact ⟨xs, ys, xs[i]'(by omega), ys[i]'(by omega), q.1, q.2, by simp, by simp⟩
  · obtain ⟨T, x, z, h1, h2, h3, h4, h5⟩ := y
    exact ⟨T, x, z, h1, h2, h3, h4 xs q.1, h5 ys q.2⟩
/-- the iterator at i over the sequence at a -/
def IterK : Bool → Heap → Addr → Addr → Nat → Prop
  | true => fun h i a n => h.IsTupleIter i a n
  | false => fun h i a n => h.IsListIter i a n
def AtK : Bool → Heap → Addr → Array Value → Prop
  | true => fun h a its => h.IsTuple a its
  | false => fun h a its => h.IsList a its
theorem IterK.ob {k : Bool} {h : Heap} {i a : Addr} {n : Nat} (x : IterK k h i a n) : ∃ o, h.get? i = some o ∧ ∀ v, o.data ≠ .cell v := by
  cases k with
  | true =>
    obtain ⟨o, e, _, d⟩ := x
    exact ⟨o, e, fun v q => by rw [d] at q; cases q⟩
  | false =>
    obtain ⟨o, e, _, d⟩ := x
    exact ⟨o, e, fun v q => by rw [d] at q; cases q⟩
theorem IterK.at {k : Bool} {h h' : Heap} {i a : Addr} {n : Nat} (x : IterK k h i a n) (q : ∀ o, h.get? i = some o → h'.get? i = some o) : IterK k h' i a n := by
  cases k with
  | true => exact PySem.Heap.IsTupleIter.at x q
  | false => exact PySem.Heap.IsListIter.at x q
def beginObj : Bool → Addr → Obj
  | true, a => { cls := .type "tuple_iterator", data := .fields #[.ref a, .int 0 0] }
  | false, a => { cls := .type "list_iterator", data := .fields #[.ref a, .int 0 0] }
theorem begin_k (k : Bool) (a : Addr) (its : Array Value) : Begins (.ref a) (beginObj k a) fun h => AtK k h a its := by
  cases k with
  | true => exact begins_tuple a its
  | false => exact begins_list a its
theorem draw_k {P : Program} {w : World} {A : Around} (k : Bool) (hh : A.handled = none) (i a : Addr) (hne : a ≠ i) (its : Array Value) :
    Draws P w A i [i, a] its.size (fun n v => its[n]? = some v) (fun n h => IterK k h i a n ∧ AtK k h a its) := by
  cases k with
  | true => exact Draws.tuple hh i a hne its
  | false => exact Draws.list hh i a hne its
theorem at_k {X : Cx} {pins : List (Addr × Obj)} {σ : L2.St} {H : Hp} {s : Shared} {k : Bool} {a : Addr} {xs : List V} (I : Inv X pins σ H s) (h : SqK X.K k H a xs) : ∃ its, Vals xs its ∧ AtK k s.heap a its.toArray ∧ a < s.heap.objs.size := by
  cases k with
  | true =>
    obtain ⟨its, rv, p, _⟩ := I.tuple h
    exact ⟨its, rv, p, p.lt⟩
  | false =>
    obtain ⟨its, rv, p, _⟩ := I.list h
    exact ⟨its, rv, p.isList, p.lt⟩
abbrev ZipTn (k l : Bool) (z TI TO i1 i2 a b : Addr) (n : Nat) (h : Heap) : Prop :=
  IsZip h z TI TO .none ∧ IsTupOf2 h TI (.ref i1) (.ref i2) ∧ (∃ x y, IsTupOf2 h TO x y) ∧ IterK k h i1 a n ∧ IterK l h i2 b n
theorem turn_zk {P : Program} {w : World} {K : PySem.W.Frag} {elts : List Expr} {kk : Nat} {tpos : Pos} {k l : Bool} {a b z TI TO i1 i2 : Addr} (D : ZipSep2 z TI TO i1 i2 [i1, a] [i2, b]) (na : a ≠ i1) (nb : b ≠ i2) :
    Turn P w K (.Tuple elts kk tpos) (ItzK K k l a b) [z, TI, TO, i1, i2] z (ZipTn k l z TI TO i1 i2 a b) := by
  have five : ∀ {c : Addr}, c ∈ [z, TI, TO, i1, i2] → c = z ∨ c = TI ∨ c = TO ∨ c = i1 ∨ c = i2 := fun {c} hc => by simpa using hc
  refine ⟨by simp, fun n h st c hc => ?_, fun n h h' st q => ?_, ?_, ?_, fun A n s Q E st h => wpAny_pyIter_zip st.1 h⟩
  · obtain ⟨hz, hTI, ⟨x, y, hTO⟩, h1, h2⟩ := st
    rcases five hc with e | e | e | e | e <;> subst e
    · exact ⟨_, hz, fun v q => nomatch q⟩
    · exact ⟨_, hTI, fun v q => nomatch q⟩
    · exact ⟨_, hTO, fun v q => nomatch q⟩
    · exact h1.ob
    · exact h2.ob
  · obtain ⟨hz, hTI, ⟨x, y, hTO⟩, h1, h2⟩ := st
    exact ⟨q z (by simp) _ hz, q TI (by simp) _ hTI, ⟨x, y, q TO (by simp) _ hTO⟩, h1.at fun o e => q i1 (by simp) o e, h2.at fun o e => q i2 (by simp) o e⟩
  · intro X hP hw hK hc n pins s σ H E I hf st hg
    subst hP hw hK
    obtain ⟨hz, hTI, ⟨x0, y0, hTO⟩, h1, h2⟩ := st
    obtain ⟨xs, ys, x, y, hqx, hqy, hx, hy⟩ := hg
    obtain ⟨its, rv, p1, _⟩ := at_k I hqx
    obtain ⟨its2, rv2, p2, _⟩ := at_k I hqy
    obtain ⟨u, hu, ru⟩ := rv.get hx
    obtain ⟨u2, hu2, ru2⟩ := rv2.get hy
    have hh : X.A.in1.handled = none := by simpa using I.ok.hd hc
    have b1 : n < its.toArray.size := by simpa using (List.getElem?_eq_some_iff.mp hu).1
    have b2 : n < its2.toArray.size := by simpa using (List.getElem?_eq_some_iff.mp hu2).1
    refine wpAny_pyNext_zipD2_item D (draw_k k hh i1 a na its.toArray) (draw_k l hh i2 b nb its2.toArray) hz hTI hTO ⟨h1, p1⟩ ⟨h2, p2⟩ b1 b2 fun x1 x2 h' tk hx1 hx2 z' TO' st1 st2 hT hsz hk => ?_
    have ex1 : x1 = u := by
      rw [show its.toArray[n]? = some u by simpa using hu] at hx1
      exact (Option.some.inj hx1).symm
    have ex2 : x2 = u2 := by
      rw [show its2.toArray[n]? = some u2 by simpa using hu2] at hx2
      exact (Option.some.inj hx2).symm
    subst ex1 ex2
    have lz : z < s.heap.objs.size := Heap.lt_size hz
    refine ⟨_, rfl, wpAny_letOwnedTupleGo_zip (s := { s with heap := h', toks := tk }) z' fun h'' z'' sb => ?_⟩
    have hT2 : h''.get? s.heap.objs.size = some { cls := .type "tuple", data := .seq #[x1, x2] } := (sb.2 _ (Nat.ne_of_gt lz)).trans hT
    have new : ObjOk X.prog X.w (upd H s.heap.objs.size (.tup [x, y])) h'' s.heap.objs.size (.tup [x, y]) :=
      ⟨by show 2 ≤ sizeLine; decide, [x1, x2], .cons ru (.cons ru2 .nil), ⟨_, hT2, rfl, _, rfl⟩⟩
    have I1 : Inv X pins σ (upd H s.heap.objs.size (.tup [x, y])) { s with heap := h'', toks := tk } := by
      refine I.turnedNew (t' := tk) (ch := [z, TI, TO, i1, i2]) (fun c o hb q => (sb.2 c fun e => hb (by simp [e])).trans ?_) hf (Nat.le_refl _) new
      exact hk c o (fun e => hb (by simp [e])) (fun e => hb (by simp [e])) (fun e => hb (by simp [e])) (fun e => hb (by simp [e])) q
    refine ⟨.ref s.heap.objs.size, _, I1, rfl, ⟨_, x, y, rfl, I.fresh, rfl, fun l hl => by rw [SqK.inj I hl hqx]; exact hx, fun l hl => by rw [SqK.inj I hl hqy]; exact hy⟩, ⟨z'', ?_, ⟨x1, x2, (sb.2 _ D.TOz).trans TO'⟩, ?_, ?_⟩, fun c hcm => ?_⟩
    · exact (sb.2 _ D.TIz).trans (hk _ _ D.TIz D.TITO D.TIi1 D.TIi2 hTI)
    · exact st1.1.at fun o q => (sb.2 _ (Ne.symm D.zi1)).trans q
    · exact st2.1.at fun o q => (sb.2 _ (Ne.symm D.zi2)).trans q
    · have hlt : c < s.heap.objs.size := by
        rcases five hcm with e | e | e | e | e <;> subst e
        · exact lz
        · exact Heap.lt_size hTI
        · exact Heap.lt_size hTO
        · obtain ⟨o, e, _⟩ := h1.ob
          exact Heap.lt_size e
        · obtain ⟨o, e, _⟩ := h2.ob
          exact Heap.lt_size e
      exact (upd_ne (Nat.ne_of_lt hlt)).trans (hf c hcm).1
  · intro X hP hw hK hc n pins s σ H E I hf st hg
    subst hP hw hK
    obtain ⟨hz, hTI, ⟨x0, y0, hTO⟩, h1, h2⟩ := st
    obtain ⟨xs, ys, hqx, hqy, l1, l2, le⟩ := hg
    obtain ⟨its, rv, p1, _⟩ := at_k I hqx
    obtain ⟨its2, rv2, p2, _⟩ := at_k I hqy
    have e1 : its.toArray.size = xs.length := by rw [List.size_toArray, rv.length]
    have e2 : its2.toArray.size = ys.length := by rw [List.size_toArray, rv2.length]
    have hh : X.A.in1.handled = none := by simpa using I.ok.hd hc
    refine wpAny_pyNext_zipD2_end D (draw_k k hh i1 a na its.toArray) (draw_k l hh i2 b nb its2.toArray) hz hTI hTO ⟨h1, p1⟩ ⟨h2, p2⟩ (by omega) (by omega) (by omega) fun h' tk hk => ⟨rfl, ?_⟩
    refine I.turnedL (t' := tk) (ch := [z, TI, TO, i1, i2]) (fun c o hb q => ?_) hf
    exact hk c o (fun e => hb (by simp [e])) (fun e => hb (by simp [e])) (fun e => hb (by simp [e])) (fun e => hb (by simp [e])) q
def iZipK (K : PySem.W.Frag) (ta : TA) : TI := fun σ H R => ta σ H fun vs H1 => ∃ (k l : Bool) (a b : Addr) (xs ys : List V), vs = [.ref a, .ref b] ∧ SqK K k H1 a xs ∧ SqK K l H1 b ys ∧ R (ItzK K k l a b) H1
theorem pi_zipK {X : Cx} {e e2 : Expr} {ta : TA} {p pos tpos : Pos} {elts : List Expr} {kk : Nat} (hg : Gl X "zip") (hm : X.mg "zip" = none) (ha : PA X [e, e2] ta)
    (hs : starEach [e, e2] X.env = (false, eval e X.env) :: starEach [e2] X.env := by rfl) (hpl : (backTo pos (starEach [e2] X.env)).any (·.1) = false := by rfl) :
    PI X (.Tuple elts kk tpos) (.Call (.Name "zip" p) [e, e2] [] pos) (iZipK X.K ta) := by
  refine ⟨fun pins s σ H R I h => ?_⟩
  refine Call_ (ld_blt I hg hm PyProof.Rows.boot_zip (PyProof.Rows.callWith_type1 (thn (ha.run pos pins s σ H _ I h) ?_) hs hpl))
  rintro us s1 ⟨vs, H1, I1, r1, k, l, a, b, xs, ys, rfl, hqx, hqy, q⟩
  obtain ⟨u1, u2, rfl, r1, r2⟩ := Vals.two r1
  cases (show u1 = Value.ref a from r1)
  cases (show u2 = Value.ref b from r2)
  obtain ⟨its, rv, p1, la⟩ := at_k I1 hqx
  obtain ⟨its2, rv2, p2, lb⟩ := at_k I1 hqy
  refine zip_begins2 (begin_k k a its.toArray) (begin_k l b its2.toArray) p1 p2 fun h' hz hTI hTO e1 e2 hsz hk => wpAny_pyIter_zip hz ?_
  have i1 : IterK k h' s1.heap.objs.size a 0 := by
    cases k with
    | true => exact ⟨_, e1, rfl, rfl⟩
    | false => exact ⟨_, e1, rfl, rfl⟩
  have i2 : IterK l h' (s1.heap.objs.size + 1) b 0 := by
    cases l with
    | true => exact ⟨_, e2, rfl, rfl⟩
    | false => exact ⟨_, e2, rfl, rfl⟩
  have ne1 : a ≠ s1.heap.objs.size := Nat.ne_of_lt la
  have ne2 : b ≠ s1.heap.objs.size + 1 := Nat.ne_of_lt (Nat.lt_succ_of_lt lb)
  refine ⟨_, [s1.heap.objs.size + 4, s1.heap.objs.size + 2, s1.heap.objs.size + 3, s1.heap.objs.size, s1.heap.objs.size + 1], _, _, H1, rfl, I1.kept (t' := s1.toks) hk,
    turn_zk (zip_sep2 (N := s1.heap.objs.size) (fp1 := [a]) (fp2 := [b]) (fun c hc => by rw [List.mem_singleton.mp hc]; exact la) (fun c hc => by rw [List.mem_singleton.mp hc]; exact lb)) ne1 ne2, ⟨hz, hTI, ⟨_, _, hTO⟩, i1, i2⟩, fun c hcm => ?_, q⟩
  have hle : s1.heap.objs.size ≤ c := by
    simp only [List.mem_cons, List.not_mem_nil, or_false] at hcm
    rcases hcm with e | e | e | e | e <;> rw [e]
    · exact Nat.le_add_right _ _
    · exact Nat.le_add_right _ _
    · exact Nat.le_add_right _ _
    · exact Nat.le_refl _
    · exact Nat.le_add_right _ _
  exact I1.fpOk hle (I1.hok.fresh hle)
end Hg

set_option maxHeartbeats 8000000
namespace Hg
open PySem PySem.Spec PyProof.Rows L2
abbrev set0 (w : World) : Obj := { cls := .type "set", dict := none, data := .set #[] 0 (.fresh 0 0 (!w.params.followText "set-order")) }
section
variable {P : Program} {w : World} {A : Around} {E : Value → Shared → Prop} {s : Shared}
/-- set(xs), xs a list of ints -/
theorem call_setL {l : Addr} {items : Array Value} (ns : List Int) {Q : Value → Shared → Prop} (hh : A.handled = none) (hl : s.heap.IsList l items) (hit : IntsAre items.toList ns) (hb : ns.length + 1 < scanBound)
    (h : ∀ (h' : Heap) (tk c : Nat), SetR w h' s.heap.objs.size (fun j => decide (j ∈ ns)) c → c ≤ ns.length → (∀ b o, s.heap.get? b = some o → h'.get? b = some o) → Q (.ref s.heap.objs.size) { s with heap := h', toks := tk }) :
    wpAny (model P w) A (call (.type "set") [.ref l]) Q E s := by
  have len : items.size = ns.length := by simpa using IntsAre.length hit
  have ⟨c0, tl, e1⟩ := F.called_set.mro
  have e2 := F.called_set.made
  have e3 := F.called_set.sub
  have e4 := F.called_set.notType
  have e5 := F.called_set.canCreate
  have e6 := F.typeCall_set_1 (.ref l)
  apply wpAny_call
  apply codeAny_of_tree
  show PySem.wpAny _ _ (callAny (.type "set") _) _ _ _
  apply wpAny_pure
  refine ⟨Code.quiet_builtin _ (by decide +kernel), ?_⟩
  apply codeAny_builtin F.entry_type_call
  rw [Around.under_plain (weight_type_call_type "set" [.ref l] []) rfl]
  repeat (any_goals (first | assumption | wp_step))
  refine codeAny_mono (code_set_led1 (.ref l) (E := E) (Q₁ := fun ob s1 => ob = .ref s.heap.objs.size ∧ s1 = { s with heap := s.heap.push (set0 w) }) ⟨rfl, rfl⟩) ?_
  rintro (er | fl) s1 z
  · exact z
  rcases fl with _ | _ | _ | ob
  any_goals exact z
  obtain ⟨rfl, rfl⟩ := z
  have g0 : (s.heap.push (set0 w)).get? s.heap.objs.size = some (set0 w) := Heap.get?_push_size _ rfl
  have ty : Shared.TypeIs { s with heap := s.heap.push (set0 w) } (.ref s.heap.objs.size) "set" := ⟨_, g0, rfl⟩
  have e7 := F.called_set.init.lookup
  have e8 := F.called_set.init.bind (.ref s.heap.objs.size)
  repeat (any_goals (first | assumption | wp_step))
  have fin : codeAny (model P w) A.in1 (.call (.builtin "set.__init__") ⟨[.ref s.heap.objs.size, .ref l], []⟩)
      (wants (fun r s2 => r = .none ∧ ∃ h' tk c, s2 = { s with heap := h', toks := tk } ∧ SetR w h' s.heap.objs.size (fun j => decide (j ∈ ns)) c ∧ c ≤ ns.length ∧ ∀ b o, s.heap.get? b = some o → h'.get? b = some o) E) { s with heap := s.heap.push (set0 w) } := by
    refine codeAny_call_builtin F.called_set.init.plain F.entry_set_init (check_set_init_1 ty ?_)
    obtain ⟨ol, hol, hcl, nl, hdl⟩ := hl
    obtain ⟨ocls, odict, odata, oslots⟩ := ol
    dsimp only at hcl hdl
    subst hcl hdl
    have lt : l < s.heap.objs.size := Heap.lt_size hol
    have hol1 := Heap.get?_push_of_some (set0 w) hol
    have isl : (s.heap.push (set0 w)).IsList l items := ⟨_, hol1, rfl, nl, rfl⟩
    have f1 := F.sub_list_set
    have f2 := F.sub_list_frozenset
    have f3 : (Value.type "list" == Value.type "dict") = false := by decide
    unfold Builtin.«set.__init__» noKeywords Builtin.Frozenset.updateFrom
    generalize hPI : pyIter = PI
    wp_walk
    subst hPI
    apply wpAny_pyIter_list isl
    refine wpAny_bind (wpAny_runValue ?_)
    have h3 : A.in1.in1.in1.handled = none := by simp [hh]
    have sz : (s.heap.push (set0 w)).objs.size = s.heap.objs.size + 1 := Heap.size_push ..
    have nI : l ≠ (s.heap.push (set0 w)).objs.size := by
      rw [sz]
      exact Nat.ne_of_lt (Nat.lt_succ_of_lt lt)
    have nS : s.heap.objs.size ∉ [(s.heap.push (set0 w)).objs.size, l] := by
      rw [sz]
      simp only [List.mem_cons, List.not_mem_nil, or_false, not_or]
      exact ⟨Nat.ne_of_lt (Nat.lt_succ_self _), Nat.ne_of_gt lt⟩
    have val : ∀ (i : Nat) (v : Value), items[i]? = some v → ∃ k t, ns[i]? = some k ∧ v = .int k t := fun i v hv => by
      obtain ⟨t, e⟩ := IntsAre.int_at hit i v ((Array.getElem?_toList ..).trans hv)
      have hi : i < ns.length := len ▸ (Array.getElem?_eq_some_iff.mp hv).1
      exact ⟨ns[i], t, by simp [hi], by rw [e]; simp [hi]⟩
    refine set_update_ints (Walks.list h3 _ l nI items).toS s.heap.objs.size nS ns len hb val (items.size - 0) 0 _ (Nat.sub_zero _ ▸ rfl) (Nat.zero_le _) ⟨⟨_, Heap.get?_push_size _ rfl, rfl, rfl⟩, isl.push _⟩ ⟨0, Nat.le_refl 0, setR_new_at (Heap.get?_push_of_some _ g0)⟩ ?_
    rintro ⟨h', g2, d', tk', os'⟩ c' hm hc' hS'
    obtain rfl : g2 = s.gens := hm.gens
    obtain rfl : d' = s.drawn := hm.drawn
    obtain rfl : os' = s.os := hm.os
    apply wpAny_pure
    show PySem.wpAny _ _ (ret Value.none) _ _ _
    refine wpAny_pure ⟨rfl, h', tk', c', rfl, hS', len ▸ hc', fun b o e => ?_⟩
    have b0 : b < s.heap.objs.size := Heap.lt_size e
    refine hm.heap b o ?_ (Heap.get?_push_of_some _ (Heap.get?_push_of_some _ e))
    rw [sz]
    simp only [List.mem_cons, List.not_mem_nil, or_false, not_or]
    exact ⟨Nat.ne_of_lt b0, Nat.ne_of_lt (Nat.lt_succ_of_lt b0)⟩
  refine codeAny_mono fin ?_
  rintro (er | fl) s2 z
  · exact z
  rcases fl with _ | _ | _ | r2
  any_goals exact z
  obtain ⟨rfl, h', tk, c, rfl, hS, hc, hk⟩ := z
  repeat (any_goals (first | assumption | wp_step))
  exact h _ _ _ hS hc hk
end
end Hg

set_option maxHeartbeats 4000000
namespace Hg
open PySem PySem.Spec PyProof.Rows L2

/-- what the top has left of an error class at C whose __init__ stands at fI, its class cell at cc, its code at cda -/
structure ErrK (P : Program) (K : PySem.W.Frag) (mg : Str → Option Value) (C fI cc cda : Addr) : Prop where
  oex : OexC K C
  code : ∃ (ccl : Value) (cdd : Option Addr) (vs : Array Value) (ccs : Array (Option Value)) (tf : Tok) (fl : Str), K.lookup cda = some ⟨ccl, cdd, .fields vs, ccs⟩ ∧ vs[2]? = some (.str fl tf) ∧ ((P.main.file : Str) == fl) = true
  cell : ∃ (cl : Value) (cld : Option Addr) (csl : Array (Option Value)), K.lookup cc = some ⟨cl, cld, .cell (some (.ref C)), csl⟩
  cls : ∃ cd, PySem.W.clsIn K C = some cd
  own : PySem.W.mroIn K C (.ref C) = some true
  ve : PySem.W.subIn K (.ref C) (.type "ValueError") = some true
  sup : PySem.W.ks_superIn K C C "__init__" = some (some (.builtin "ValueError.__init__"))
  opq : PySem.W.nsIn K cStatics "thirdparty.any" = some none
  zsup : mg "super" = none
  top : (P.main.scope.names.lookup ("super" : Str)).isSome = false

section
variable {P : Program} {w : World} {K : PySem.W.Frag} {mg : Str → Option Value} {base : Heap} {CX : CXT} {C fI cc cda : Addr}
variable {qual : Str} {params : Arguments} {rest : List Stmt} {scope : Scope} {doc pm ct oc : Value} {od : Option Addr} {osl : Array (Option Value)} {N ps : List Str} {k : Nat} {sp : Sp}

def nfOf (qual : Str) (params : Arguments) (body : List Stmt) (scope : Scope) (cc cda : Addr) : NdefX.NF := ⟨"__init__", qual, params, body, scope, [("__class__", cc)], cda⟩

theorem cls_data {h : Heap} {cd : ClassData} (X : K.In h) (e : PySem.W.clsIn K C = some cd) : ∃ o, h.get? C = some o ∧ o.data = .cls cd := by
  unfold PySem.W.clsIn at e
  split at e
  · cases e
    exact ⟨_, X _ _ (by assumption), rfl⟩
  · cases e

theorem exo_inst {h : Heap} {x t1 : Addr} (e : h.get? x = some ({ cls := .ref C, dict := none, data := .fields #[.ref t1, .none, .none, .none, .bool false, .none] } : Obj)) :
    PySem.W.InstAt h x { cls := .ref C, dict := none, data := .fields #[.ref t1, .none, .none, .none, .bool false, .none] } C none := ⟨e, rfl, rfl, trivial⟩

/-- the class cell as the captured name -/
theorem cells_at (T : ErrK P K mg C fI cc cda) {h : Heap} {H : Hp} (X : K.In h) (hn : H cc = none) : NdefX.CellsAt [("__class__", cc)] ["__class__"] [some (.ref C)] h H := by
  obtain ⟨cl, cld, csl, e⟩ := T.cell
  have hc : h.IsCell cc (some (.ref C)) := ⟨_, X _ _ e, rfl⟩
  have key : ∀ y c, List.lookup y [(("__class__" : Str), cc)] = some c → y = "__class__" ∧ c = cc := fun y c q => by
    simp only [List.lookup] at q
    split at q
    · exact ⟨by simpa using (by assumption : (y == ("__class__" : Str)) = true), (Option.some.inj q).symm⟩
    · cases q
  refine ⟨rfl, fun y c q => ?_, fun x y c a b => ((key x c a).1).trans ((key y c b).1).symm, fun i y q => ?_⟩
  · obtain ⟨_, rfl⟩ := key y c q
    exact ⟨hn, _, hc⟩
  · cases i with
    | zero =>
      have e2 : y = "__class__" := (Option.some.inj q).symm
      subst e2
      refine ⟨cc, by simp [List.lookup], fun v hv => ?_⟩
      have e3 : v = .ref C := (Option.some.inj (Option.some.inj hv)).symm
      subst e3
      exact ⟨.ref C, rfl, hc⟩
    | succ n => simp at q
/-- the equation of the tree super().__init__('text'), by rfl where the places are written -/
def SupEq (F : NdefX.NF) (fI L : Addr) (txt : Str) (jj : Nat) (p0 p1 p2 p3 p4 : Pos) (pl : Sem Bool) : Prop :=
  eval (.Call (.Attribute (.Call (.Name "super" p0) [] [] p1) "__init__" p2) [.Constant (.str txt) jj p3] [] p4) (NdefX.envF F fI L) = (do
    let ov ← attributeBase (.Call (.Name "super" p0) [] [] p1) "__init__" (NdefX.envF F fI L) (eval (.Call (.Name "super" p0) [] [] p1) (NdefX.envF F fI L))
    standAt p2.atName
    let (f, first) ← holding [ov] (getMethod ov "__init__" pl)
    callWith p4 f first (backTo p4 (starEach [.Constant (.str txt) jj p3] (NdefX.envF F fI L))) [])
/-- super().__init__('text') as the first row of an error's __init__: behind it all that was tracked stands -/
theorem super_run (T : ErrK P K mg C fI cc cda) {body : List Stmt} {txt : Str} {jj : Nat} {p0 p1 p2 p3 p4 p5 : Pos}
    {A : Around} {outer : List Env} {s : Shared} {H H0 : Hp} {E : XK} {s1 : Shared} {ws : List (Option V)} {a : Addr}
    (S : NdefX.NScope N ps ["__class__"] scope) (lf : K.lookup fI = some ⟨oc, od, .func ((nfOf qual params body scope cc cda).fd doc pm ct), osl⟩)
    (par : ∃ ar, (params.posonlyargs ++ params.args).head? = some ar ∧ ar.arg = "self") (hself : N[0]? = some ("self" : Str)) (hks : scope.names.lookup ("super" : Str) = some .globalImplicit) (hkc : scope.names.lookup ("__class__" : Str) = some .free) (hka : scope.names.lookup ("self" : Str) = some .local)
    (I : Inv (NdefX.ncx CX P w K mg base N (nfOf qual params body scope cc cda) fI A outer s H0 E) [] ws H s1) (hw : ws[0]? = some (some (.ref a))) (ea : H a = some (exo a C none))
    {Q : Flow → Shared → Prop} {E1 : Value → Shared → Prop} {pl : Sem Bool} (he : ∀ L, SupEq (nfOf qual params body scope cc cda) fI L txt jj p0 p1 p2 p3 p4 pl)
    (q : ∀ s2, Inv (NdefX.ncx CX P w K mg base N (nfOf qual params body scope cc cda) fI A outer s H0 E) [] ws H s2 → Q .next s2) :
    PySem.wpAt (model P w) (A.deeper (NdefX.envF (nfOf qual params body scope cc cda) fI s.heap.objs.size)) (.func body (NdefX.envF (nfOf qual params body scope cc cda) fI s.heap.objs.size))
      (exec (.Expr (.Call (.Attribute (.Call (.Name "super" p0) [] [] p1) "__init__" p2) [.Constant (.str txt) jj p3] [] p4) p5) (NdefX.envF (nfOf qual params body scope cc cda) fI s.heap.objs.size)) Q E1 s1 := by
  obtain ⟨ccl, cdd, cvs, ccs, tf, fl, lcode, hv2, hfile⟩ := T.code
  obtain ⟨cl, cld, csl, lcell⟩ := T.cell
  obtain ⟨cd, hcd⟩ := T.cls
  obtain ⟨ar, har, hars⟩ := par
  have X : K.In s1.heap := I.kIn
  obtain ⟨oD, hD1, hD2⟩ := cls_data X hcd
  obtain ⟨m, hns, hloc⟩ := I.loc
  obtain ⟨u, ru, hu⟩ := hloc 0 "self" (.ref a) hself hw (.inl hka)
  cases (show u = Value.ref a from ru)
  have hm : m "self" = some (.ref a) := by
    rcases hu with ⟨_, z⟩ | ⟨z, _⟩
    · exact z
    · rcases z with z | z
      · have z2 := hka.symm.trans z
        cases z2
      · have z2 := hka.symm.trans z
        cases z2
  obtain ⟨t1, ho⟩ := exo_at I.hok ea
  have hloc0 : (NdefX.envF (nfOf qual params body scope cc cda) fI s.heap.objs.size).kindOf "self" = some .local := hka
  refine PySem.ks_wpAt_Expr_any (PySem.ks_wpAt_MethodCall ?_ (he s.heap.objs.size)) I.quiet rfl
  refine PySem.ks_wpAt_super_base (ar := ar) (vs := cvs) (file := fl) (tf := tf) (cc := cda) hks hkc (by decide) rfl (X _ _ lf) rfl har rfl (X _ _ lcode) rfl hv2 hfile T.top ?_
  obtain ⟨mb, hb1, hb2⟩ := I.mod.blt
  have hg : (NdefX.envF (nfOf qual params body scope cc cda) fI s.heap.objs.size).kindOf "super" = some .globalImplicit := hks
  refine PySem.W.ks_loadName_global S.kind hg (Calls.loadGlobal_builtin (I.mod.glob.keeps I.bk) T.zsup (hb1.keeps I.bk) ((hb2 _ (by decide +kernel)).trans PyProof.Rows.Boot.«super») ⟨rfl, ?_⟩)
  refine wpAny_loadName_free S.kind hkc rfl ⟨_, X _ _ lcell, rfl⟩ ?_
  rw [hars]
  refine wpAny_loadName_local S.kind hka hns hm ?_
  obtain ⟨hp, g, d, t, os⟩ := s1
  refine PySem.ks_wpAny_isType_cls hD1 hD2 ⟨rfl, ?_⟩
  refine PySem.ks_wpAny_call_super hD1 hD2 ho rfl (fun c z => by cases z) (PySem.W.looks_mroIn X T.own) (fun h2 e2 k2 => ?_)
  have I2 := I.kept (h' := h2) (t' := t) k2
  have X2 : K.In h2 := I2.kIn
  have ho2 := k2 _ _ ho
  have hin : PySem.W.Looks (model P w) h2 (isInstance (.ref a) (.type "ValueError")) true := (exo_inst ho2).type.andThen (PySem.W.looks_subIn X2 T.ve)
  have hsup := T.sup
  unfold PySem.W.ks_superIn at hsup
  rw [hcd, Option.bind_some] at hsup
  have hac : a ≠ C := PySem.W.ks_ne X2 (exo_inst ho2) hcd
  refine PySem.W.kxs_getMethod PySem.W.kxs_ValueError e2 (PySem.W.looks_opaque X2 T.opq) (l₀ := cd.mro) (fun A Q E s k q => wpAny_bind ((PySem.W.looks_clsIn X2 hcd) A _ E s k (wpAny_pure q))) rfl X2 hsup hin hac (by decide) ?_
  have k3 : ∀ b o, h2.get? b = some o → (h2.push (PySem.W.kxs_mw "ValueError.__init__" a)).get? b = some o := fun b o e => Heap.get?_push_of_some _ e
  have e3 : (h2.push (PySem.W.kxs_mw "ValueError.__init__" a)).get? h2.objs.size = some (PySem.W.kxs_mw "ValueError.__init__" a) := Heap.get?_push_at rfl rfl
  have I3 := I2.kept (h' := h2.push (PySem.W.kxs_mw "ValueError.__init__" a)) (t' := t + 1) k3
  refine PySem.W.kxs_callWith (i := "ValueError.__init__") (x := a) rfl ?_
  have hst : starEach [Expr.Constant (.str txt) jj p3] (NdefX.envF (nfOf qual params body scope cc cda) fI s.heap.objs.size) = (false, eval (Expr.Constant (.str txt) jj p3) (NdefX.envF (nfOf qual params body scope cc cda) fI s.heap.objs.size)) :: starEach [] (NdefX.envF (nfOf qual params body scope cc cda) fI s.heap.objs.size) := rfl
  rw [hst]
  refine PySem.Calls.evalArgs_plain (PyProof.Rows.args_cons (PySem.Calls.Constant_str (PyProof.Rows.args_nil ⟨e3, ?_⟩)) rfl)
  have ho3 := k3 _ _ ho2
  obtain ⟨nm, qn, NN, bs, bm, sn, sub, ab, col, dd, k0, k1, k2', k3', k5, hC, hbm⟩ := T.oex.cls
  have hC3 := k3 _ _ (X2 _ _ hC)
  refine wpAny_call (codeAny_of_tree ?_)
  show PySem.wpAny _ _ (callAny (.ref h2.objs.size) ⟨_, []⟩) _ _ _
  simp only [callAny]
  refine wpAny_bind (wpAny_load e3 ?_)
  have mw1 : (Value.type "method-wrapper" == Value.type "method" || Value.type "method-wrapper" == Value.type "builtin_function_or_method" || Value.type "method-wrapper" == Value.type "method-wrapper") = true := by decide
  simp only [PySem.W.kxs_mw, mw1, if_true]
  refine PySem.W.KFB.if_so (by decide) (wpAny_bind (PySem.W.check_bound_init F.excBase_ValueError.toExcCallFacts hC3 ho3 rfl ?_))
  refine wpAny_bind (wpAny_pure (wpAny_pure ⟨plainId_quiet F.excBase_ValueError.init.plain _, codeAny_builtin F.excBase_ValueError.initEntry ?_⟩))
  refine PySem.W.exc_init_tree (cls := .ref C) (t0 := t1) (dv := none) (c2 := .none) (c3 := .none) (b4 := .bool false) ho3 (by rw [sizeLine_eq]; exact (by decide : 1 ≤ 16777216)) fun h5 k5 e5 _ => ?_
  have I5 := I3.write (t' := t + 1 + 1) (x := a) (e := a) (o := exo a C none) (by rw [ea]; exact True.intro) (.inl rfl) k5 ⟨_, e5⟩ (exo_ok e5)
  have eu : upd H a (exo a C none) = H := by
    funext b
    by_cases hb : b = a
    · rw [hb, upd_same, ea]
    · rw [upd_ne hb]
  rw [eu] at I5
  exact q _ I5
end
end Hg

set_option maxHeartbeats 4000000
namespace Hg
open PySem PySem.Spec PyProof.Rows L2
section
variable {P : Program} {w : World} {K : PySem.W.Frag} {mg : Str → Option Value} {base : Heap} {C fI cc cda : Addr}
variable {qual : Str} {params : Arguments} {rest : List Stmt} {scope : Scope} {doc pm ct oc : Value} {od : Option Addr} {osl : Array (Option Value)} {N ps : List Str} {k : Nat} {sp : Sp}
def supRow (txt : Str) (jj : Nat) (p0 p1 p2 p3 p4 p5 : Pos) : Stmt := .Expr (.Call (.Attribute (.Call (.Name "super" p0) [] [] p1) "__init__" p2) [.Constant (.str txt) jj p3] [] p4) p5
/-- THE RULE for the __init__ of an error class whose first row is super().__init__('text'): sp speaks of .ref a :: .., a the fresh exception -/
theorem fn_err (T : ErrK P K mg C fI cc cda) {txt : Str} {jj : Nat} {p0 p1 p2 p3 p4 p5 : Pos} {pl : Sem Bool}
    (S : NdefX.NScope N ps ["__class__"] scope) (lf : K.lookup fI = some ⟨oc, od, .func ((nfOf qual params (supRow txt jj p0 p1 p2 p3 p4 p5 :: rest) scope cc cda).fd doc pm ct), osl⟩)
    (hcode : PySem.W.codeIn K (.ref cda) qual = true)
    (par : ∃ ar, (params.posonlyargs ++ params.args).head? = some ar ∧ ar.arg = "self") (hps : ps[0]? = some ("self" : Str)) (hks : scope.names.lookup ("super" : Str) = some .globalImplicit)
    (he : ∀ L, SupEq (nfOf qual params (supRow txt jj p0 p1 p2 p3 p4 p5 :: rest) scope cc cda) fI L txt jj p0 p1 p2 p3 p4 pl)
    (len : ∀ vs H Q E, sp vs H Q E → vs.length = ps.length) (hself : ∀ vs H Q E, sp vs H Q E → ∃ a us, vs = .ref a :: us ∧ H a = some (exo a C none))
    (hbody : ∀ (A : Around) (outer : List Env) (s : Shared) (H : Hp) (vs : List V) (Q : VK) (E : XK), Room k (A.deeper (NdefX.envF (nfOf qual params (supRow txt jj p0 p1 p2 p3 p4 p5 :: rest) scope cc cda) fI s.heap.objs.size)) → sp vs H Q E →
      ∃ t, PSs (NdefX.ncx CX0 P w K mg base N (nfOf qual params (supRow txt jj p0 p1 p2 p3 p4 p5 :: rest) scope cc cda) fI A outer s H E) rest t ∧ t { nx := fun _ H' => Q .non H', rt := Q } (NdefX.startF N vs [some (.ref C)]) H) :
    FnOk P w K mg base CX0 (k + 1) fI ((nfOf qual params (supRow txt jj p0 p1 p2 p3 p4 p5 :: rest) scope cc cda).fd doc pm ct) ps sp := by
  refine ⟨len, fun A outer s H args us vs Q E hr e0 hb r hsp => ?_⟩
  have hl := len _ _ _ _ hsp
  have X : K.In s.heap := e0.mod.kin.keeps fun b o e => (e0.bs b o e).1
  have lim : s.heap.NoLimit := e0.mod.nolimit.keeps fun b o e => (e0.bs b o e).1
  have Hcc : H cc = none := by
    obtain ⟨cl, cld, csl, lc⟩ := T.cell
    exact (e0.bs _ _ (e0.mod.kin _ _ lc)).2
  have CA := cells_at T X Hcc
  have hka : ∀ y ∈ ps.zip us, scope.names.lookup y.1 = some .local := fun ⟨n, _⟩ hy => S.par n (List.of_mem_zip hy).1
  refine PySem.ks_codeAny_call_defAt hr.depth (X _ _ lf) rfl lim (PySem.W.codeRec_of X hcode) rfl hb S.nocell hka (fun h₁ hns kp => ?_) S.co S.gen S.kind
  obtain ⟨a, us', rfl, ea⟩ := hself _ _ _ _ hsp
  have I : Inv (NdefX.ncx CX0 P w K mg base N (nfOf qual params (supRow txt jj p0 p1 p2 p3 p4 p5 :: rest) scope cc cda) fI A outer s H E) [] (NdefX.startF N (.ref a :: us') [some (.ref C)]) H { s with heap := h₁, toks := s.toks + (ps.zip us).length } := NdefX.inv_startN S hr.hd e0 hl r CA hns kp
  have hN0 : N[0]? = some ("self" : Str) := by
    have q : (N.take (ps.length + 1))[0]? = (ps ++ [("__class__" : Str)])[0]? := congrArg (fun l : List Str => l[0]?) S.pre
    rw [List.getElem?_take_of_lt (by omega)] at q
    rw [q]
    cases ps with
    | nil => simp at hps
    | cons p r => exact hps
  have hpar : scope.names.lookup ("self" : Str) = some .local := S.par _ (List.mem_of_getElem? hps)
  refine PySem.ks_wpAt_execs_cons (super_run T S lf par hN0 hks (S.frk _ (by simp)) hpar I (by simp [NdefX.startF]) ea he fun s2 I2 => ?_)
  obtain ⟨t, ht, hq⟩ := hbody A outer s H (.ref a :: us') Q E (hr.deeper _) hsp
  refine PySem.wpAt_of_wpAny (PySem.wpAny_mono (ht.run [] _ _ H _ I2 hq) (fun fl s' hs => ?_) fun e s' hs => hs)
  have fin : ∀ {σ' : L2.St} {H' : Hp} {v : V} {u : Value}, Inv (NdefX.ncx CX0 P w K mg base N (nfOf qual params (supRow txt jj p0 p1 p2 p3 p4 p5 :: rest) scope cc cda) fI A outer s H E) [] σ' H' s' → L2.RelV v u → Q v H' → CE outer P w H s Q u s' :=
    fun {σ' H' v u} J rv q => ⟨v, H', J.os, J.bare, J.base, J.hok, rv, q⟩
  cases fl with
  | ret u =>
    obtain ⟨v, σ', H', J, rv, q⟩ := hs
    exact fin J rv q
  | next =>
    obtain ⟨σ', H', J, q⟩ := hs
    exact fin (v := V.non) (u := Value.none) J rfl q
  | brk =>
    obtain ⟨_, _, _, q⟩ := hs
    exact False.elim q
  | cont =>
    obtain ⟨_, _, _, q⟩ := hs
    exact False.elim q
end
end Hg

set_option maxHeartbeats 4000000
namespace Hg
open PySem PySem.Spec PyProof.Rows L2
section
variable {X : Cx}
/-- the end of C(): the exception has no dict and is let go -/
theorem mk_bare {pins : List (Addr × Obj)} {σ : L2.St} {H1 H2 : Hp} {Q : XK} {hp hp2 h2 : Heap} {g1 g2 : Array GenState} {d1 d2 : Drawn} {t1 t2 : Nat} {os1 os2 : OsState} {a C : Addr}
    (T : Raises X (.ref C)) (I1 : Inv X pins σ H1 ⟨hp, g1, d1, t1, os1⟩) (ha : hp.objs.size ≤ a) (k : ∀ b o, hp.get? b = some o → hp2.get? b = some o)
    (un : Un (frs X.stack) [] (upd H1 a (exo a C none)) H2 hp2 h2) (hok : HOk X.prog X.w H2 h2) (ho : os2 = os1) (hb : AllBare g2) (ea : H2 a = some (exo a C none)) (q : Q (.ref C) none (del H2 a)) :
    MkP X pins σ Q (.ref a) ⟨h2, g2, d2, t2, os2⟩ := by
  obtain ⟨t0, hoe⟩ := exo_at hok ea
  have hn : H1 a = none := I1.hok.fresh ha
  obtain ⟨G, g1', g2'⟩ := restrict h2 fun b => decide (b ≠ a)
  have gk : ∀ b, b ≠ a → G.get? b = h2.get? b := fun b hb => g1' b (decide_eq_true hb)
  have ge : G.get? a = none := g2' a (by simp)
  have old : ∀ {b : Addr} {o : Obj}, hp.get? b = some o → b ≠ a := fun {b o} z e => by
    have l := Heap.lt_size z
    rw [e] at l
    exact absurd (Nat.lt_of_lt_of_le l ha) (Nat.lt_irrefl _)
  have up : ∀ {b : Addr}, b ≠ a → H1 b = none → upd H1 a (exo a C none) b = none := fun {b} hb n => (upd_ne hb).trans n
  have U : Un (frs X.stack) [] H1 (del H2 a) hp G :=
    ⟨fun b o z n hf hx => (gk b (old z)).trans (un.keep b o (k b o z) (up (old z) n) hf hx),
     fun b o z n hf hx => by
       obtain ⟨sl, e⟩ := un.slot b o (k b o z) (up (old z) n) hf hx
       exact ⟨sl, (gk b (old z)).trans e⟩,
     fun b o z n hx => (del_ne (old z)).trans (un.free b o (k b o z) (up (old z) n) hx),
     fun b o z hx => by
       obtain ⟨o', e⟩ := un.there b o (k b o z) hx
       exact ⟨o', (gk b (old z)).trans e⟩,
     fun b xs z => (del_ne (ne_of_none z hn)).trans (un.tups b xs ((upd_ne (ne_of_none z hn)).trans z)),
     fun b o v z => (del_ne (ne_of_none z hn)).trans (un.frzs b o v ((upd_ne (ne_of_none z hn)).trans z)),
     fun b ps z => by
       obtain ⟨more, e⟩ := un.tbls b ps ((upd_ne (ne_of_none z hn)).trans z)
       exact ⟨more, (del_ne (ne_of_none z hn)).trans e⟩⟩
  have hok3 : HOk X.prog X.w (del H2 a) G := fun b o z => by
    have hba : b ≠ a := fun e => by
      rw [e, del_same] at z
      cases z
    rw [del_ne hba] at z
    have noa : ∀ {c : Addr}, H2 c = some (.own b) → c ≠ a := fun {c} hc => at_ne ea hc exo_own
    refine (hok b o z).stay (fun c v hc y => ?_) (fun c hc => (del_ne (noa hc)).trans hc) (fun c xs hc => (del_ne (at_ne ea hc exo_tup)).trans hc)
    have hca : c ≠ a := hc.elim (fun e => e ▸ hba) noa
    exact (gk c hca).trans y
  have J : Inv X pins σ (del H2 a) ⟨G, g2, d2, t2, os2⟩ := I1.call' (ch := []) ho U hok3 hb (fun b z => absurd z (by simp))
  have kG : ∀ b o, G.get? b = some o → h2.get? b = some o := fun b o z => by
    by_cases hba : b = a
    · rw [hba, ge] at z
      cases z
    · exact (gk b hba).symm.trans z
  exact ⟨a, _, _, ⟨G, g2, d2, t2, os2⟩, _, .ref C, none, rfl, J, kG, ge, hoe, ⟨rfl, rfl⟩, rfl, rfl, del_same, rfl, hb, T, q⟩
/-- C(), C an error class whose own __init__ takes nothing but itself and stores nothing -/
def tMk0 (C : Addr) (sp : Sp) : L2.St → Hp → XK → Prop := fun _ H Q => ∀ a, H a = none → sp [.ref a] (upd H a (exo a C none)) (fun v H2 => v = .non ∧ H2 a = some (exo a C none) ∧ Q (.ref C) none (del H2 a)) (fun _ _ _ => False)
theorem pmk_err0 {x : Str} {C fI : Addr} {k : Nat} {fd : FuncData} {ps : List Str} {sp : Sp} {p pos : Pos} (T : OexC X.K C) (iC : PySem.W.findIn X.K (.ref C) "__init__" = some (some (.ref fI)))
    (tI : PySem.W.typeIn X.K (.ref fI) = some (.type "function")) (F1 : FnOk X.prog X.w X.K X.mg X.base CX0 k fI fd ps sp) (hr : Room (k + 1) X.A) (hb : Binds X.K fd ps [])
    (hg : Gl X x) (hm : X.mg x = some (.ref C)) (hdb : (x == ("__debug__" : Str)) = false := by decide) : PMk X (.Call (.Name x p) [] [] pos) (tMk0 C sp) := by
  intro pins s σ H Q I h
  obtain ⟨nm, q, N, bs, bm, sn, sub, ab, col, dd, k0, k1, k2, k3, k5, hC, hbm⟩ := T.cls
  refine wpAny_Call_Name_kw (ld_glob I hg hm ?_ hdb)
  refine PySem.W.callWith_K0 I.kIn T.kC ?_
  obtain ⟨hp, g, dr, tk, os⟩ := s
  have fr : H (hp.objs.size + 1) = none := I.hok.fresh (Nat.le_succ _)
  have hq := h _ fr
  have kk : ∀ b o, hp.get? b = some o → ((hp.push (PySem.W.kdv_tup [])).push (PySem.HandSPX.excO C hp.objs.size)).get? b = some o :=
    fun b o e => Heap.get?_push_of_some _ (Heap.get?_push_of_some _ e)
  have hget : ((hp.push (PySem.W.kdv_tup [])).push (PySem.HandSPX.excO C hp.objs.size)).get? (hp.objs.size + 1) = some (PySem.HandSPX.excO C hp.objs.size) := by heap_get
  have I2 := I.laid (t' := tk) (a := hp.objs.size + 1) (o := exo (hp.objs.size + 1) C none) kk (Nat.le_succ _) (exo_ok hget)
  have hl : ([Value.ref (hp.objs.size + 1)] ++ ([] : List Value)).length = ps.length := (F1.len _ _ _ _ hq)
  have r1 : Vals [V.ref (hp.objs.size + 1)] ([Value.ref (hp.objs.size + 1)] ++ []) := .cons (show L2.RelV (V.ref (hp.objs.size + 1)) (Value.ref (hp.objs.size + 1)) from rfl) .nil
  have run := F1.run _ X.stack _ _ ⟨[Value.ref (hp.objs.size + 1)], []⟩ _ _ _ (fun _ _ _ => False) (hr.make C [] []) (I2.env0.make C [] []) (hb _ [Value.ref (hp.objs.size + 1)] I2.kIn hl) r1 hq
  refine wpAny_call (PySem.HandSPX.call_own F.excBase_ValueError (fun Y => PySem.HandSPX.refsVE_contains Y bm hbm) (I.kIn _ _ hC) (PySem.W.looks_findIn I.kIn iC) (fun self => PySem.W.bind_fn I.kIn self tI) (by simp) (codeAny_mono run fun r s' z => ?_))
  match r, z with
  | .error er, z => exact False.elim z
  | .ok (.ret u), z =>
    obtain ⟨v, H2, os2, bare2, un2, hok2, rv, ev, ea, q2⟩ := z
    subst ev
    obtain ⟨h2, g2, d2, t2, os'⟩ := s'
    exact ⟨rv, mk_bare (raises_own T.exC T.tyC) I (Nat.le_succ _) kk un2 hok2 os2 bare2 ea q2⟩
  | .ok .next, z => exact False.elim z
  | .ok .brk, z => exact False.elim z
  | .ok .cont, z => exact False.elim z
end
end Hg

set_option maxHeartbeats 4000000
namespace Hg
open PySem PySem.Spec PyProof.Rows L2
/-! ### a def of the text, its global name, its arguments -/
structure DefK (K : PySem.W.Frag) (mg : Str → Option Value) (x : Str) (st : Stmt) (ps : List Str) (f : Addr) (fd : FuncData) : Prop where
  mg : mg x = some (.ref f)
  fn : Fun K x x st f fd
  bd : Binds K fd ps []
/-! ### heaps -/
def Ex (H H' : Hp) : Prop := ∀ a o, H a = some o → H' a = some o
theorem Ex.refl (H : Hp) : Ex H H := fun _ _ h => h
theorem Ex.trans {A B C : Hp} (x : Ex A B) (y : Ex B C) : Ex A C := fun a o h => y a o (x a o h)
theorem Ex.new {H : Hp} {p : Addr} {o : HO} (h : H p = none) : Ex H (upd H p o) := fun a u e => (upd_ne (ne_of_none e h)).trans e
theorem Ex.up {G H : Hp} {p : Addr} {o : HO} (x : Ex G H) (h : G p = none) : Ex G (upd H p o) := fun a u e => (upd_ne (ne_of_none e h)).trans (x _ _ e)
theorem Ex.free {H H' : Hp} (x : Ex H H') {p : Addr} (h : H' p = none) : H p = none := by
  cases e : H p with
  | none => rfl
  | some o =>
    rw [x p o e] at h
    cases h
theorem Ex.seq {K : PySem.W.Frag} {k : Bool} {H H' : Hp} {a : Addr} {xs : List V} (e : Ex H H') (h : SqK K k H a xs) : SqK K k H' a xs := by
  have rd : ∀ {u : HO}, Rd H a u → Rd H' a u := fun {u} z => z.elim (fun z => .inl (e _ _ z)) fun ⟨o, z⟩ => .inr ⟨o, e _ _ z⟩
  cases k with
  | true => exact Or.imp rd id h
  | false => exact Or.imp rd id h
theorem SqK.lst {K : PySem.W.Frag} {H : Hp} {a : Addr} {xs : List V} (h : H a = some (.lst xs)) : SqK K false H a xs := .inl (.inl h)
theorem SqK.tup {K : PySem.W.Frag} {H : Hp} {a : Addr} {xs : List V} (h : H a = some (.tup xs)) : SqK K true H a xs := .inl (.inl h)
theorem SqK.or {K : PySem.W.Frag} {k : Bool} {H : Hp} {a : Addr} {xs : List V} (h : SqK K k H a xs) : SqL K H a xs ∨ SqT K H a xs := by
  cases k with
  | true => exact .inr h
  | false => exact .inl h
/-! ### the drawing stream of a law: at s the list [at q the script's rest, n, c, k] -/
structure Strm (s q : Addr) (B : Nat) (H : Hp) : Prop where
  ne : s ≠ q
  st : ∃ (n c k : Int) (ns : List Int), H s = some (.lst [.ref q, .int n, .int c, .int k]) ∧ H q = some (.lst (ns.map V.int)) ∧ 0 ≤ n ∧ 0 ≤ c ∧ c ≤ (B : Int) ∧ 0 ≤ k ∧ k < 2147483647
/-- G: what lies beside the stream -/
structure Ov (s q : Addr) (B : Nat) (G H : Hp) : Prop where
  sub : Ex G H
  gs : G s = none
  gq : G q = none
  str : Strm s q B H
section
variable {s q : Addr} {B : Nat} {G H : Hp}
theorem Ov.weak (x : Ov s q B G H) {G' : Hp} (e : Ex G' G) : Ov s q B G' H := ⟨e.trans x.sub, e.free x.gs, e.free x.gq, x.str⟩
theorem Ov.more (x : Ov s q B G H) {B' : Nat} (h : B ≤ B') : Ov s q B' G H := by
  obtain ⟨a, b, c, d, n, k, l, ns, e1, e2, e3, e4, e5, e6⟩ := x
  exact ⟨a, b, c, d, n, k, l, ns, e1, e2, e3, e4, by omega, e6⟩
theorem Ov.hs (x : Ov s q B G H) : ∃ o, H s = some o := let ⟨_, _, _, _, e, _⟩ := x.str.st; ⟨_, e⟩
theorem Ov.hq (x : Ov s q B G H) : ∃ o, H q = some o := let ⟨_, _, _, _, _, e, _⟩ := x.str.st; ⟨_, e⟩
/-- a new object beside the stream -/
theorem Ov.new (x : Ov s q B G H) {p : Addr} {o : HO} (hp : H p = none) : Ov s q B (upd G p o) (upd H p o) := by
  have gp : G p = none := x.sub.free hp
  obtain ⟨os, hs⟩ := x.hs
  obtain ⟨oq, hq⟩ := x.hq
  have ns : s ≠ p := ne_of_none hs hp
  have nq : q ≠ p := ne_of_none hq hp
  obtain ⟨ne, n, k, l, ms, e1, e2, e3⟩ := x.str
  refine ⟨fun a u e => ?_, (upd_ne ns).trans x.gs, (upd_ne nq).trans x.gq, ne, n, k, l, ms, (upd_ne ns).trans e1, (upd_ne nq).trans e2, e3⟩
  by_cases h : a = p
  · subst h
    rw [upd_same] at e ⊢
    exact e
  · rw [upd_ne h] at e ⊢
    exact x.sub _ _ e
/-- a new object that nobody keeps -/
theorem Ov.drop (x : Ov s q B G H) {p : Addr} {o : HO} (hp : H p = none) : Ov s q B G (upd H p o) := (x.new hp).weak (Ex.new (x.sub.free hp))
/-- an object of G is changed -/
theorem Ov.put (x : Ov s q B G H) {p : Addr} {o u : HO} (hp : G p = some u) : Ov s q B (upd G p o) (upd H p o) := by
  have ns : s ≠ p := fun e => by rw [← e, x.gs] at hp; cases hp
  have nq : q ≠ p := fun e => by rw [← e, x.gq] at hp; cases hp
  obtain ⟨ne, n, k, l, ms, e1, e2, e3⟩ := x.str
  refine ⟨fun a u e => ?_, (upd_ne ns).trans x.gs, (upd_ne nq).trans x.gq, ne, n, k, l, ms, (upd_ne ns).trans e1, (upd_ne nq).trans e2, e3⟩
  by_cases h : a = p
  · subst h
    rw [upd_same] at e ⊢
    exact e
  · rw [upd_ne h] at e ⊢
    exact x.sub _ _ e
end
/-! ### data of ints -/
theorem dpAll_ints {K : PySem.W.Frag} {H : Hp} : ∀ ns : List Int, DpAll K H (ns.map V.int) (ns.map PyData.int)
  | [] => .nil
  | n :: ns => .cons (.int n) (dpAll_ints ns)
theorem dp_l {K : PySem.W.Frag} {H : Hp} {a : Addr} {ns : List Int} (h : SqL K H a (ns.map V.int)) : Dp K H (.ref a) (.list (ns.map PyData.int)) := .lst h (dpAll_ints ns)
theorem dp_t {K : PySem.W.Frag} {H : Hp} {a : Addr} {ns : List Int} (h : SqT K H a (ns.map V.int)) : Dp K H (.ref a) (.tuple (ns.map PyData.int)) := .tup h (dpAll_ints ns)
theorem lay_ints : ∀ ns : List Int, PyData.canLayAll0 (ns.map PyData.int) = true
  | [] => rfl
  | n :: ns => by simp [PyData.canLayAll0, PyData.canLay0, lay_ints ns]
end Hg

set_option maxHeartbeats 4000000
namespace Hg
open PySem PySem.Spec PyProof.Rows L2
theorem depth_ints : ∀ ns : List Int, PyData.depthAll (ns.map PyData.int) ≤ 1
  | [] => by simp [PyData.depthAll]
  | n :: ns => by
    have := depth_ints ns
    simp [PyData.depthAll, PyData.depth]
    omega
theorem shaped_l (ns : List Int) : SeqAt.shaped (.list (ns.map PyData.int)) = true := by
  have := depth_ints ns
  simp [SeqAt.shaped, PyData.canLay0, PyData.depth, lay_ints]
  omega
theorem shaped_t (ns : List Int) : SeqAt.shaped (.tuple (ns.map PyData.int)) = true := by
  have := depth_ints ns
  simp [SeqAt.shaped, PyData.canLay0, PyData.depth, lay_ints]
  omega
theorem eqv_ints : ∀ xs ys : List Int, PyData.eqvAll (xs.map PyData.int) (ys.map PyData.int) = decide (xs = ys)
  | [], [] => by simp [PyData.eqvAll]
  | [], y :: ys => by simp [PyData.eqvAll]
  | x :: xs, [] => by simp [PyData.eqvAll]
  | x :: xs, y :: ys => by
    have := eqv_ints xs ys
    by_cases h : x = y
    · simp [PyData.eqvAll, PyData.eqv, this, h]
    · simp [PyData.eqvAll, PyData.eqv, this, h]
theorem eqv_l (xs ys : List Int) : PyData.eqv (.list (xs.map PyData.int)) (.list (ys.map PyData.int)) = decide (xs = ys) := by
  rw [PyData.eqv]
  exact eqv_ints xs ys
theorem eqv_t (xs ys : List Int) : PyData.eqv (.tuple (xs.map PyData.int)) (.tuple (ys.map PyData.int)) = decide (xs = ys) := by
  rw [PyData.eqv]
  exact eqv_ints xs ys
/-! ### items at a place -/
theorem at_lt {α : Type} {xs : List α} {i : Int} (h0 : 0 ≤ i) (h1 : i < xs.length) : ∃ v, atI xs i = some v ∧ v ∈ xs := by
  obtain ⟨j, rfl⟩ := Int.eq_ofNat_of_zero_le h0
  have hj : j < xs.length := by omega
  exact ⟨xs[j], atI_nat (by simp [hj]), List.getElem_mem ..⟩
/-! ### sets of ints -/
def rSetL (K : PySem.W.Frag) (w : World) : List V → Hp → VK → Prop := fun vs H Q => ∃ (a : Addr) (ns : List Int), vs = [.ref a] ∧ SqL K H a (ns.map V.int) ∧ ns.length ≤ 4000 ∧
  ∀ (p : Addr) (ms : List Int), H p = none → ms.Nodup → (∀ k, k ∈ ms ↔ k ∈ ns) → Q (.ref p) (upd H p (SetO w p (fun j => decide (j ∈ ns)) ms.length))
theorem cr_setL {X : Cx} (hc : X.calm = true) : CallR X (.type "set") (rSetL X.K X.w) := by
  intro pins s σ H vs us Q I r h
  obtain ⟨a, ns, rfl, hq, hl, q⟩ := h
  obtain ⟨u, rfl, ru⟩ := Vals.one r
  cases (show u = Value.ref a from ru)
  obtain ⟨its, rv, p, hz⟩ := I.list hq
  refine call_setL ns (I.ok.hd hc) p.isList (by simpa using intsAre_of rv) (by unfold scanBound; omega) fun h' tk c hS hcn hk => ?_
  have I2 : Inv X pins σ (upd H s.heap.objs.size (SetO X.w s.heap.objs.size (fun j => decide (j ∈ ns)) c)) { s with heap := h', toks := tk } := I.laid hk (Nat.le_refl _) (setO_new hS)
  obtain ⟨o, es, ep, t, e1, e2, e3, e4, e5, e6, e7, e8, e9, e10⟩ := id hS
  have hlen : (es.toList.map keyOf).length = c := by
    rw [List.length_map, Array.length_toList, e9]
  refine ⟨.ref _, _, I2, rfl, ?_⟩
  rw [← hlen]
  refine q _ _ I.fresh e5 fun k => ?_
  have := e6 k
  rw [← this]
  simp
end Hg

set_option maxHeartbeats 4000000
namespace Hg
open PySem PySem.Spec PyProof.Rows L2
def picked {α : Type} (keep : Nat → Bool) (val : Nat → α) (n : Nat) : List α := ((List.range n).filter keep).map val
theorem picked_succ {α : Type} (keep : Nat → Bool) (val : Nat → α) (n : Nat) : picked keep val (n + 1) = if keep n = true then picked keep val n ++ [val n] else picked keep val n := by
  unfold picked
  rw [List.range_succ, List.filter_append]
  by_cases h : keep n = true
  · simp [h]
  · simp [h]
theorem picked_len {α : Type} (keep : Nat → Bool) (val : Nat → α) (n : Nat) : (picked keep val n).length ≤ n := by
  unfold picked
  rw [List.length_map]
  exact Nat.le_trans (List.length_filter_le _ _) (by simp)
theorem picked_all {α : Type} (val : Nat → α) (n : Nat) : picked (fun _ => true) val n = (List.range n).map val := by
  unfold picked
  rw [List.filter_eq_self.mpr fun _ _ => rfl]
theorem map_range {α β : Type} (xs : List α) (f : α → β) (val : Nat → β) (h : ∀ i x, xs[i]? = some x → val i = f x) : (List.range xs.length).map val = xs.map f := by
  apply List.ext_getElem?
  intro i
  rw [List.getElem?_map, List.getElem?_map]
  by_cases hi : i < xs.length
  · rw [List.getElem?_range hi]
    simp [hi]
    exact h i _ (by simp [hi])
  · simp [hi]
theorem picked_map {α β : Type} (keep : Nat → Bool) (val : Nat → α) (f : α → β) (n : Nat) : (picked keep val n).map f = picked keep (fun i => f (val i)) n := by
  unfold picked
  rw [List.map_map]
  rfl
section
variable {J : It} {n : Nat} {G : Hp → Prop} {Y : Nat → Hp → V → Hp → Prop}
/-- a list comprehension whose element changes nothing that stands -/
theorem lc_pure (w : Walk J n G Y) {g : TG} {tt : TT} {te : TE} {vs : List Nat} {σ : L2.St} {H1 : Hp} {D : Addr} {Qd : Hp → Prop} (hD : H1 D = none) (keep : Nat → Bool) (val : Nat → V) (hn : n ≤ 1000000) (hG : ∀ H, Ex H1 H → G H)
    (hs : ∀ i x Hc Hy, i < n → Ex H1 Hc → Y i Hc x Hy → ∀ (Qe : VK) (Qn : Hp → Prop), (keep i = true → ∀ H4, Ex Hc H4 → Qe (val i) H4) → (keep i = false → ∀ H3, Ex Hc H3 → Qn H3) →
      g x (wipe σ vs) Hy fun σ2 H2 => wipe σ2 vs = wipe σ vs ∧ tt σ2 H2 fun b H3 => if b = true then te σ2 H3 Qe else Qn H3)
    (hd : ∀ H, Ex H1 H → H D = some (.lst (picked keep val n)) → Qd H) :
    ∃ W : Nat → Nat → Hp → Prop, (∃ m, W 0 m (upd H1 D (.lst []))) ∧ ∀ i m H, W i m H →
      (J.stop i H ∧ Qd H) ∨ (J.go i H ∧ ∃ Nx : Hp → Prop, (∀ H', Nx H' → ∃ m', m' < m ∧ W (i + 1) m' H') ∧ ∀ x H', J.yld i H x H' → g x (wipe σ vs) H' fun σ2 H2 => wipe σ2 vs = wipe σ vs ∧ tt σ2 H2 fun b H3 =>
        if b = true then te σ2 H3 fun y H4 => ∃ acc, H4 D = some (.lst acc) ∧ acc.length < sizeLine ∧ Nx (upd H4 D (.lst (acc ++ [y]))) else Nx H3) := by
  refine lc_it w (fun i H => Ex H1 H ∧ H D = some (.lst (picked keep val i))) ⟨Ex.new hD, upd_same⟩ (fun i H _ p => hG H p.1) (fun i x Hc Hy hi p y => ?_) (fun H p => hd H p.1 p.2)
  refine hs i x Hc Hy hi p.1 y _ _ (fun hk H4 e => ?_) (fun hk H3 e => ?_)
  · refine ⟨_, e _ _ p.2, Nat.lt_of_le_of_lt (picked_len _ _ _) ?_, (p.1.trans e).up hD, ?_⟩
    · rw [sizeLine_eq]
      omega
    · rw [upd_same, picked_succ, if_pos hk]
  · refine ⟨p.1.trans e, ?_⟩
    rw [picked_succ, if_neg (by rw [hk]; decide)]
    exact e _ _ p.2
/-- a list comprehension whose element draws from the stream: at most c draws a turn -/
theorem lc_strm (w : Walk J n G Y) {g : TG} {tt : TT} {te : TE} {vs : List Nat} {σ : L2.St} {G1 H1 : Hp} {D s q : Addr} {B c : Nat} {Qd : Hp → Prop} (hO : Ov s q B G1 H1) (hD : H1 D = none) (P : Nat → List V → Prop) (hP : P 0 [])
    (hl : ∀ i acc, i ≤ n → P i acc → acc.length ≤ i) (hn : n ≤ 1000000) (hG : ∀ i H acc, i ≤ n → Ov s q (B + c * i) (upd G1 D (.lst acc)) H → G H)
    (hs : ∀ i x Hc Hy acc, i < n → P i acc → Ov s q (B + c * i) (upd G1 D (.lst acc)) Hc → Y i Hc x Hy → ∀ (Qe : VK) (Qn : Hp → Prop), (∀ y H4, P (i + 1) (acc ++ [y]) → Ov s q (B + c * (i + 1)) (upd G1 D (.lst acc)) H4 → Qe y H4) →
      (∀ H3, P (i + 1) acc → Ov s q (B + c * (i + 1)) (upd G1 D (.lst acc)) H3 → Qn H3) →
      g x (wipe σ vs) Hy fun σ2 H2 => wipe σ2 vs = wipe σ vs ∧ tt σ2 H2 fun b H3 => if b = true then te σ2 H3 Qe else Qn H3)
    (hd : ∀ H acc, P n acc → Ov s q (B + c * n) (upd G1 D (.lst acc)) H → Qd H) :
    ∃ W : Nat → Nat → Hp → Prop, (∃ m, W 0 m (upd H1 D (.lst []))) ∧ ∀ i m H, W i m H →
      (J.stop i H ∧ Qd H) ∨ (J.go i H ∧ ∃ Nx : Hp → Prop, (∀ H', Nx H' → ∃ m', m' < m ∧ W (i + 1) m' H') ∧ ∀ x H', J.yld i H x H' → g x (wipe σ vs) H' fun σ2 H2 => wipe σ2 vs = wipe σ vs ∧ tt σ2 H2 fun b H3 =>
        if b = true then te σ2 H3 fun y H4 => ∃ acc, H4 D = some (.lst acc) ∧ acc.length < sizeLine ∧ Nx (upd H4 D (.lst (acc ++ [y]))) else Nx H3) := by
  refine lc_it w (fun i H => ∃ acc, P i acc ∧ Ov s q (B + c * i) (upd G1 D (.lst acc)) H) ⟨[], hP, hO.new hD⟩ (fun i H hi p => ?_) (fun i x Hc Hy hi p y => ?_) (fun H p => ?_)
  · obtain ⟨acc, _, o⟩ := p
    exact hG i H acc hi o
  · obtain ⟨acc, pa, o⟩ := p
    refine hs i x Hc Hy acc hi pa o y _ _ (fun y H4 pa' o' => ?_) (fun H3 pa' o' => ⟨acc, pa', o'⟩)
    have hA : H4 D = some (.lst acc) := o'.sub _ _ upd_same
    refine ⟨acc, hA, ?_, acc ++ [y], pa', ?_⟩
    · have := hl i acc (Nat.le_of_lt hi) pa
      rw [sizeLine_eq]
      omega
    · have z := o'.put (o := .lst (acc ++ [y])) upd_same
      rw [upd_upd] at z
      exact z
  · obtain ⟨acc, pa, o⟩ := p
    exact hd H acc pa o
end
end Hg

set_option maxHeartbeats 4000000
namespace Hg
open PySem PySem.Spec PyProof.Rows L2
/-! ### the rules with the written part said (within a comprehension's block it must not hang on the block) -/
section
variable {X : Cx} {K : PySem.W.Frag}
theorem kAdd (hK : X.K = K := by rfl) : OpR X (binaryOp .Add) (rPlus K) := hK ▸ oAdd
theorem kEq (hu : X.A.units + 64 < cLine) (hK : X.K = K := by rfl) : OpR X (compareOp .Eq) (rEqA K) := hK ▸ oEq hu
theorem kNe (hu : X.A.units + 64 < cLine) (hK : X.K = K := by rfl) : OpR X (compareOp .NotEq) (rNeA K) := hK ▸ oNe hu
theorem kSl (hK : X.K = K := by rfl) : SlR X (rSlAll K) := hK ▸ oSl
theorem kIx (hK : X.K = K := by rfl) : IxR X (rIx K) := hK ▸ ix_seq
theorem kIn (hK : X.K = K := by rfl) : OpR X (compareOp .In) (rIn K false) := hK ▸ op_in_seq
theorem kNotIn (hK : X.K = K := by rfl) : OpR X (compareOp .NotIn) (rIn K true) := hK ▸ op_notIn_seq
theorem kIsi (hK : X.K = K := by rfl) : CallR X (.builtin "isinstance") (rIsi K) := hK ▸ call_isi
def rLenK (K : PySem.W.Frag) : List V → Hp → VK → Prop := fun xs H Q => ∃ p ys, xs = [.ref p] ∧ (SqL K H p ys ∨ SqT K H p ys) ∧ Q (.int ys.length) H
theorem kLen (hK : X.K = K := by rfl) : CallR X (.builtin "len") (rLenK K) := hK ▸ call_len_seq
theorem kSum (hc : X.calm = true) (hK : X.K = K := by rfl) : CallR X (.builtin "sum") (rSum K) := hK ▸ cr_sum hc
theorem kAll (hc : X.calm = true) (hK : X.K = K := by rfl) : CallR X (.builtin "all") (rAll K) := hK ▸ cr_all hc
theorem kAny (hc : X.calm = true) (hK : X.K = K := by rfl) : CallR X (.builtin "any") (rAny K) := hK ▸ cr_any hc
def rTupK (K : PySem.W.Frag) : List V → Hp → VK → Prop := fun xs H Q => ∃ p ys, xs = [.ref p] ∧ ((SqL K H p ys ∧ ∀ l, H l = none → Q (.ref l) (upd H l (.tup ys))) ∨ (SqT K H p ys ∧ Q (.ref p) H))
theorem kTup (hK : X.K = K := by rfl) : CallR X (.type "tuple") (rTupK K) := hK ▸ call_tuple_of
def rLstK (K : PySem.W.Frag) : List V → Hp → VK → Prop := fun xs H Q => ∃ p ys, xs = [.ref p] ∧ (SqL K H p ys ∨ SqT K H p ys) ∧ ∀ l, H l = none → Q (.ref l) (upd H l (.lst ys))
theorem kLst (hK : X.K = K := by rfl) : CallR X (.type "list") (rLstK K) := hK ▸ call_list_of
theorem kSet (hc : X.calm = true) (hK : X.K = K := by rfl) : CallR X (.type "set") (rSetL K X.w) := hK ▸ cr_setL hc
theorem kSeq {tg e : Expr} {te : TE} (he : PE X e te) (hK : X.K = K := by rfl) : PI X tg e (iSeq K te) := hK ▸ pi_seq he
theorem kZip {e e2 : Expr} {ta : TA} {p pos tpos : Pos} {elts : List Expr} {kk : Nat} (hg : Gl X "zip") (hm : X.mg "zip" = none) (ha : PA X [e, e2] ta) (hK : X.K = K := by rfl)
    (hs : starEach [e, e2] X.env = (false, eval e X.env) :: starEach [e2] X.env := by rfl) (hpl : (backTo pos (starEach [e2] X.env)).any (·.1) = false := by rfl) :
    PI X (.Tuple elts kk tpos) (.Call (.Name "zip" p) [e, e2] [] pos) (iZipK K ta) := hK ▸ pi_zipK hg hm ha hs hpl
theorem kPgT {es : List Expr} {k : Nat} {pos : Pos} {t : TGs} {n : Nat} (hc : X.calm = true) (h : PGs X es t) (hK : X.K = K := by rfl)
    (hn : (assignEach es X.env).length = n := by rfl) (hst : (assignEach es X.env).findIdx? (·.1) = none := by rfl) : PG X (.Tuple es k pos) (gTup K n t) := hK ▸ pg_tup hc h hn hst
theorem kPgL {es : List Expr} {k : Nat} {pos : Pos} {t : TGs} {n : Nat} (hc : X.calm = true) (h : PGs X es t) (hK : X.K = K := by rfl)
    (hn : (assignEach es X.env).length = n := by rfl) (hst : (assignEach es X.env).findIdx? (·.1) = none := by rfl) : PG X (.Tuple es k pos) (gLst K n t) := hK ▸ pg_lst hc h hn hst
/-- an error of a callee that can't come -/
theorem passX {P : Program} {w : World} : Passes (L2.CX P w) X E0 := fun _ _ _ _ _ _ _ h => by
  obtain ⟨a, B, H', cls, d, _, _, _, _, _, _, _, z⟩ := h
  exact z.elim
end
end Hg

set_option maxHeartbeats 4000000
namespace Hg
open PySem PySem.Spec PyProof.Rows L2
/-- a block cut behind its first row -/
theorem cut {t u : TS} {D : Ends} {σ : L2.St} {H : Hp} (R : L2.St → Hp → Prop) (h2 : ∀ σ' H', R σ' H' → u D σ' H') (h1 : ∀ N : L2.St → Hp → Prop, (∀ σ' H', R σ' H' → N σ' H') → t { D with nx := N } σ H) : tSeq t u D σ H := h1 _ h2
theorem ixk {K : PySem.W.Frag} {k : Bool} {H : Hp} {p : Addr} {xs : List V} {i : Int} {v : V} {Q : VK} (h : SqK K k H p xs) (e : atI xs i = some v) (q : Q v H) : rIx K (.ref p) (.int i) H Q := by
  cases k with
  | true => exact .inr (.inl ⟨p, xs, i, v, rfl, rfl, h, e, q⟩)
  | false => exact .inl ⟨p, xs, i, v, rfl, rfl, h, e, q⟩
theorem ixl {K : PySem.W.Frag} {H : Hp} {p : Addr} {xs : List V} {i : Int} {v : V} {Q : VK} (h : H p = some (.lst xs)) (e : atI xs i = some v) (q : Q v H) : rIx K (.ref p) (.int i) H Q := ixk (k := false) (SqK.lst h) e q
theorem ixt {K : PySem.W.Frag} {H : Hp} {p : Addr} {xs : List V} {i : Int} {v : V} {Q : VK} (h : H p = some (.tup xs)) (e : atI xs i = some v) (q : Q v H) : rIx K (.ref p) (.int i) H Q := ixk (k := true) (SqK.tup h) e q
section
variable {s q : Addr} {B B' : Nat} {G H : Hp}
theorem Ov.setS (x : Ov s q B G H) {ns : List Int} (hq : H q = some (.lst (ns.map V.int))) {n c k : Int} (h0 : 0 ≤ n) (h1 : 0 ≤ c) (h2 : c ≤ (B' : Int)) (h3 : 0 ≤ k) (h4 : k < 2147483647) : Ov s q B' G (upd H s (.lst [.ref q, .int n, .int c, .int k])) := by
  refine ⟨fun a o e => ?_, x.gs, x.gq, x.str.ne, n, c, k, ns, upd_same, (upd_ne (Ne.symm x.str.ne)).trans hq, h0, h1, h2, h3, h4⟩
  have ns : a ≠ s := fun z => by rw [z, x.gs] at e; cases e
  exact (upd_ne ns).trans (x.sub _ _ e)
theorem Ov.setQ (x : Ov s q B G H) (ns : List Int) : Ov s q B G (upd H q (.lst (ns.map V.int))) := by
  obtain ⟨ne, n, c, k, ms, e1, e2, e3⟩ := x.str
  refine ⟨fun a o e => ?_, x.gs, x.gq, ne, n, c, k, ns, (upd_ne ne).trans e1, upd_same, e3⟩
  have nq : a ≠ q := fun z => by rw [z, x.gq] at e; cases e
  exact (upd_ne nq).trans (x.sub _ _ e)
theorem upd_swap {G : Hp} {p L : Addr} {a b t : HO} (h : p ≠ L) : upd (upd (upd G L a) p t) L b = upd (upd G p t) L b := by
  funext x
  by_cases e1 : x = L
  · subst e1
    rw [upd_same, upd_same]
  · rw [upd_ne e1, upd_ne e1]
    by_cases e2 : x = p
    · subst e2
      rw [upd_same, upd_same]
    · rw [upd_ne e2, upd_ne e2, upd_ne e1]
/-- nothing that stands is changed -/
theorem Ov.ex (x : Ov s q B G H) {H' : Hp} (e : Ex H H') : Ov s q B G H' := by
  obtain ⟨a, b, c, d, n, k, l, ns, e1, e2, e3⟩ := x
  exact ⟨a.trans e, b, c, d, n, k, l, ns, e _ _ e1, e _ _ e2, e3⟩
/-- draw(stream, m): what a law's draw keeps -/
def spDraw : Sp := fun vs H Q _ => ∃ (s q : Addr) (B : Nat) (G : Hp) (m : Int), vs = [.ref s, .int m] ∧ Ov s q B G H ∧ B < 1000000 ∧ 0 < m ∧ m.natAbs < 2 ^ 8000 ∧ ∀ (r : Int) (H' : Hp), 0 ≤ r → r < m → Ov s q (B + 1) G H' → Q (.int r) H'
end
end Hg

set_option maxHeartbeats 4000000
namespace Hg
open PySem PySem.Spec PyProof.Rows L2
open AutoSeq1 (wpAny_loadPart')
/-! ### enumerate over a list or a tuple -/
def IteK (K : PySem.W.Frag) (k : Bool) (a : Addr) : It :=
  ⟨fun i H => ∃ (xs : List V) (x : V), SqK K k H a xs ∧ xs[i]? = some x,
    fun i H v H' => ∃ T x, v = .ref T ∧ H T = none ∧ H' = upd H T (.tup [.int (i : Nat), x]) ∧ ∀ xs, SqK K k H a xs → xs[i]? = some x,
    fun i H => ∃ xs : List V, SqK K k H a xs ∧ i = xs.length⟩
theorem walk_ek {K : PySem.W.Frag} {k : Bool} {a : Addr} {xs : List V} : Walk (IteK K k a) xs.length (fun H => SqK K k H a xs) (YPair (fun i => some (.int (i : Nat))) (fun i => xs[i]?)) := by
  refine ⟨fun i _ hi q => ⟨xs, xs[i], q, by simp [hi]⟩, fun _ q => ⟨xs, q, rfl⟩, fun i H v H' _ q y => ?_⟩
  obtain ⟨T, x, h1, h2, h3, h4⟩ := y
  exact ⟨T, _, x, h1, h2, h3, rfl, h4 xs q⟩
theorem turn_ek {P : Program} {w : World} {K : PySem.W.Frag} {elts : List Expr} {kk : Nat} {tpos : Pos} {k : Bool} {a e it : Addr} (na : a ≠ it) (ne : e ≠ it) (nea : e ≠ a) :
    Turn P w K (.Tuple elts kk tpos) (IteK K k a) [e, it] e (fun i h => (∃ old, IsEnum h e it ((i : Nat) : Int) old) ∧ IterK k h it a i) := by
  have two : ∀ {c : Addr}, c ∈ [e, it] → c = e ∨ c = it := fun {c} hc => by simpa using hc
  refine ⟨by simp, fun n h st c hc => ?_, fun n h h' st q => ?_, ?_, ?_, fun A n s Q E st h => let ⟨⟨_, he⟩, _⟩ := st; wpAny_pyIter_enum he h⟩
  · obtain ⟨⟨old, he⟩, h1⟩ := st
    rcases two hc with z | z <;> subst z
    · exact ⟨_, he, fun v q => nomatch q⟩
    · exact h1.ob
  · obtain ⟨⟨old, he⟩, h1⟩ := st
    exact ⟨⟨old, q e (by simp) _ he⟩, h1.at fun o z => q it (by simp) o z⟩
  · intro X hP hw hK hc n pins s σ H E I hf st hg
    subst hP hw hK
    obtain ⟨⟨old, he⟩, h1⟩ := st
    obtain ⟨xs, x, hqx, hx⟩ := hg
    obtain ⟨its, rv, p1, _⟩ := at_k I hqx
    obtain ⟨u, hu, ru⟩ := rv.get hx
    have hh : X.A.in1.handled = none := by simpa using I.ok.hd hc
    have b1 : n < its.toArray.size := by simpa using (List.getElem?_eq_some_iff.mp hu).1
    have hel : e < s.heap.objs.size := Heap.lt_size he
    have hil : it < s.heap.objs.size := by obtain ⟨o, q, _⟩ := h1.ob; exact Heap.lt_size q
    have hef : e ∉ [it, a] := by simp [ne, nea]
    refine wpAny_pyNext_enum_itemD (draw_k k hh it a na its.toArray) he ⟨h1, p1⟩ b1 ne hef fun x1 h' tk hx1 ho st1 hT hsz hk => ?_
    have ex1 : x1 = u := by
      rw [show its.toArray[n]? = some u by simpa using hu] at hx1
      exact (Option.some.inj hx1).symm
    subst ex1
    refine ⟨_, rfl, wpAny_letOwnedTupleGo_enum (s := { s with heap := h', toks := tk + 1 }) ho fun h'' he' sb => ?_⟩
    have hT2 : h''.get? s.heap.objs.size = some { cls := .type "tuple", data := .seq #[.int n tk, x1] } := (sb.2 _ (Nat.ne_of_gt hel)).trans hT
    have new : ObjOk X.prog X.w (upd H s.heap.objs.size (.tup [.int (n : Nat), x])) h'' s.heap.objs.size (.tup [.int (n : Nat), x]) :=
      ⟨by show 2 ≤ sizeLine; decide, [.int n tk, x1], .cons ⟨_, rfl⟩ (.cons ru .nil), ⟨_, hT2, rfl, _, rfl⟩⟩
    have I1 : Inv X pins σ (upd H s.heap.objs.size (.tup [.int (n : Nat), x])) { s with heap := h'', toks := tk + 1 } :=
      I.turnedNew (t' := tk + 1) (ch := [e, it]) (fun b ob hb q => (sb.2 b (fun z => hb (by simp [z]))).trans (hk b ob (fun z => hb (by simp [z])) (fun z => hb (by simp [z])) q)) hf (Nat.le_refl _) new
    refine ⟨.ref s.heap.objs.size, _, I1, rfl, ⟨_, x, rfl, I.fresh, rfl, fun ys hy => by rw [SqK.inj I hy hqx]; exact hx⟩, ⟨⟨x1, ?_⟩, st1.1.at fun o q => (sb.2 it (Ne.symm ne)).trans q⟩, fun b hb => ?_⟩
    · have e1 : ((n + 1 : Nat) : Int) = (n : Int) + 1 := by omega
      rw [e1]; exact he'
    · have hb' : b < s.heap.objs.size := by
        rcases two hb with z | z
        · rw [z]; exact hel
        · rw [z]; exact hil
      rw [upd_ne (Nat.ne_of_lt hb')]
      exact (hf b hb).1
  · intro X hP hw hK hc n pins s σ H E I hf st hg
    subst hP hw hK
    obtain ⟨⟨old, he⟩, h1⟩ := st
    obtain ⟨xs, hqx, hn⟩ := hg
    obtain ⟨its, rv, p1, _⟩ := at_k I hqx
    have hl := rv.length
    have hh : X.A.in1.handled = none := by simpa using I.ok.hd hc
    obtain ⟨f0, f1, f2, f3, f4, f5⟩ := hf it (by simp)
    have e1 : n = its.toArray.size := by rw [List.size_toArray]; omega
    subst e1
    exact wpAny_pyNext_enum_endD (draw_k k hh it a na its.toArray) he ⟨h1, p1⟩ fun h' eb => ⟨rfl, I.turned (t' := s.toks) (fun b o hb q => eb b o hb q) f0 f1 f3 f4 f5⟩
def iEnumK (K : PySem.W.Frag) (ta : TA) : TI := fun σ H R => ta σ H fun vs H1 => ∃ (k : Bool) (a : Addr) (xs : List V), vs = [.ref a] ∧ SqK K k H1 a xs ∧ R (IteK K k a) H1
theorem meets_enumerate_newB1 {v : Value} {o : Obj} {H : Heap → Prop} (B : Begins v o H) :
    Meets (Builtin.«enumerate.__new__» ⟨[.type "enumerate", v], []⟩) (fun _ R s => H s.heap ∧
      R (.ok (.ret (.ref (s.heap.push o).objs.size))) { s with heap := (s.heap.push o).push { cls := .type "enumerate", data := .fields #[.none, .bool false, .ref s.heap.objs.size, rawInt 0, .none, .none] } }) :=
  .of_wp fun prog w A R s h => by
    obtain ⟨hp, g, d, tk, os⟩ := s; obtain ⟨h1, h⟩ := h
    have hsub := sub_enumerate
    have q1 : ∀ {A' : Around} {E : Value → Shared → Prop} {Q : Value → Shared → Prop}, Q (.ref hp.objs.size) ⟨hp.push o, g, d, tk, os⟩ → wpAny (model prog w) A' (pyIter v) Q E ⟨hp, g, d, tk, os⟩ :=
      fun q => B.iter prog w _ _ ⟨hp, g, d, tk, os⟩ _ h1 q
    wp_walk using q1
    refine wpAny_stack_any fun st => wpAny_pure ?_
    split
    · rename_i c _ _ _ _ _
      cases (c == Value.type "enumerate")
      · wp_walk using q1
        exact ⟨_, rfl, h⟩
      · wp_walk using q1
        exact ⟨_, rfl, h⟩
    · wp_walk using q1
      exact ⟨_, rfl, h⟩
theorem enum_begins1 {prog : Program} {w : World} {A : Around} {E : Value → Shared → Prop} {s : Shared} {v : Value} {o : Obj} {H : Heap → Prop} {Q : Value → Shared → Prop} (B : Begins v o H) (h1 : H s.heap)
    (h : ∀ h', IsEnum h' (s.heap.objs.size + 1) s.heap.objs.size 0 .none → h'.get? s.heap.objs.size = some o → h'.objs.size = s.heap.objs.size + 2 →
      (∀ b o, s.heap.get? b = some o → h'.get? b = some o) → Q (.ref (s.heap.objs.size + 1)) { s with heap := h' }) :
    wpAny (model prog w) A (call (.type "enumerate") [v]) Q E s := by
  refine callType_new F.called_enumerate (by decide) (F.typeCall_enumerate_1 _) (F.newCall_enumerate_1 _) (fun obj => F.args_object_init_2 obj _) F.entry_enumerate_new
    (meets_enumerate_newB1 B) ⟨h1, ?_⟩
  have hz : (s.heap.push o).objs.size = s.heap.objs.size + 1 := Heap.size_push ..
  show _ ∧ _
  rw [hz]
  have he : IsEnum ((s.heap.push o).push { cls := .type "enumerate", data := .fields #[.none, .bool false, .ref s.heap.objs.size, rawInt 0, .none, .none] }) (s.heap.objs.size + 1) s.heap.objs.size 0 .none := by
    have := Heap.get?_push_size (s.heap.push o) (o := { cls := .type "enumerate", data := .fields #[.none, .bool false, .ref s.heap.objs.size, rawInt 0, .none, .none] }) rfl
    rw [hz] at this; exact this
  refine ⟨⟨_, he, rfl⟩, h _ he (Heap.get?_push_of_some _ (Heap.get?_push_size _ B.free)) (by rw [Heap.size_push, hz]) fun b o x => Heap.get?_push_of_some _ (Heap.get?_push_of_some _ x)⟩
theorem pi_enumK {X : Cx} {e : Expr} {ta : TA} {p pos tpos : Pos} {elts : List Expr} {kk : Nat} (hg : Gl X "enumerate") (hm : X.mg "enumerate" = none) (ha : PA X [e] ta) (hs : starEach [e] X.env = [(false, eval e X.env)] := by rfl) :
    PI X (.Tuple elts kk tpos) (.Call (.Name "enumerate" p) [e] [] pos) (iEnumK X.K ta) := by
  refine ⟨fun pins s σ H R I h => ?_⟩
  refine Call_ (ld_blt I hg hm boot_enumerate (PyProof.Rows.callWith_type1 (thn (ha.run pos pins s σ H _ I h) ?_) hs rfl))
  rintro us s1 ⟨vs, H1, I1, r1, k, a, xs, rfl, hq, q⟩
  obtain ⟨u1, rfl, ru1⟩ := Vals.one r1
  cases (show u1 = Value.ref a from ru1)
  obtain ⟨its, rv, p1, la⟩ := at_k I1 hq
  refine enum_begins1 (begin_k k a its.toArray) p1 fun h' he e1 hsz hk => wpAny_pyIter_enum he ?_
  have i1 : IterK k h' s1.heap.objs.size a 0 := by
    cases k with
    | true => exact ⟨_, e1, rfl, rfl⟩
    | false => exact ⟨_, e1, rfl, rfl⟩
  refine ⟨s1.heap.objs.size + 1, [s1.heap.objs.size + 1, s1.heap.objs.size], _, _, H1, rfl, I1.kept (t' := s1.toks) hk,
    turn_ek (Nat.ne_of_lt la) (Nat.succ_ne_self _) (Nat.ne_of_gt (Nat.lt_succ_of_lt la)), ⟨⟨.none, he⟩, i1⟩, fun b hb => ?_, q⟩
  have e' : b = s1.heap.objs.size + 1 ∨ b = s1.heap.objs.size := by simpa using hb
  have hle : s1.heap.objs.size ≤ b := by
    rcases e' with z | z
    · rw [z]; exact Nat.le_add_right _ _
    · rw [z]; exact Nat.le_refl _
  exact I1.fpOk hle (I1.hok.fresh hle)
theorem kEnum {X : Cx} {K : PySem.W.Frag} {e : Expr} {ta : TA} {p pos tpos : Pos} {elts : List Expr} {kk : Nat} (hg : Gl X "enumerate") (hm : X.mg "enumerate" = none) (ha : PA X [e] ta) (hK : X.K = K := by rfl) (hs : starEach [e] X.env = [(false, eval e X.env)] := by rfl) :
    PI X (.Tuple elts kk tpos) (.Call (.Name "enumerate" p) [e] [] pos) (iEnumK K ta) := hK ▸ pi_enumK hg hm ha hs
end Hg

set_option maxHeartbeats 4000000
namespace Hg
open PySem PySem.Spec PyProof.Rows L2
open AutoSeq1 (wpAny_loadPart')
theorem tuple_mulW1 (l : Addr) (items : Array Value) (n : Nat) (dd : Option Addr) (sl : Array (Option Value)) (x : Int) (u : Tok) (c0 : (decide (x < -(2 ^ 63)) || decide (x ≥ 2 ^ 63)) = false) (c1 : (items.isEmpty || x == 1) = true) :
    Meets (Builtin.«tuple.__mul__» ⟨[.ref l, .int x u], []⟩) (fun _ R s => s.heap.get? l = some { cls := .type "tuple", dict := dd, data := .seq items n, slots := sl } ∧
      R (.ok (.ret (Value.ref l))) s) :=
  .of_wp fun prog w A R s h => by
    obtain ⟨hp, g, d, tk, os⟩ := s
    obtain ⟨hl, h⟩ := h
    have f1 := AutoSeq1.idx_int
    wp_walk using wpAny_loadPart' hl
    repeat (first
      | (refine wpAny_ite_false (decide_eq_false (by rw [c0]; exact Bool.false_ne_true)) ?_; wp_walk using wpAny_loadPart' hl)
      | (refine wpAny_ite_true (decide_eq_true c1) ?_; wp_walk using wpAny_loadPart' hl))
    exact ⟨_, rfl, h⟩
/-- (x, ..) * k, k from 1 on -/
def rRepU (K : PySem.W.Frag) : R2 := fun x y H Q => ∃ l k xs, x = .ref l ∧ y = .int k ∧ SqT K H l xs ∧ xs ≠ [] ∧ 1 ≤ k ∧ k ≤ 1000 ∧ xs.length ≤ 1000 ∧ (k = 1 → Q (.ref l) H) ∧ (2 ≤ k → ∀ p, H p = none → Q (.ref p) (upd H p (.tup (List.replicate k.toNat xs).flatten)))
theorem op_repU {X : Cx} : OpR X (binaryOp .Mult) (rRepU X.K) := by
  intro pins s σ H x y v u Q I rx ry h
  obtain ⟨l, k, xs, rfl, rfl, hT, hne, h1, h2, hz, q1, q⟩ := h
  by_cases hk : k = 1
  · subst hk
    cases rx
    obtain ⟨t, rfl⟩ := ry
    obtain ⟨its, r, ⟨⟨cls, dd, data, sl⟩, ho, hc, n, hd⟩, hs⟩ := I.tuple hT
    simp only at hc hd
    subst hc hd
    refine wpAny_binaryOp_repeat_ref (T := "tuple") (U := "int") (by decide) ⟨_, ho, rfl⟩ (fun s' => typeIs_int s' 1 t) noFill_tuple_mul F.fills_int_mul F.slot_int_rmul repeat_tuple F.slot_int_index.lookup
      (call_meets F.slot_int_rmul (typeIs_int s 1 t) F.entry_int_rmul (F.args_int_rmul_2 _ _) (int_rmul_tuple 1 t l its.toArray n dd sl)
        ⟨ho, rfl, ⟨_, ho, rfl⟩, call_meets F.slot_tuple_mul ⟨_, ho, rfl⟩ F.entry_tuple_mul (F.args_tuple_mul_2 _ _) (tuple_mulW1 l its.toArray n dd sl 1 t (by decide) (by simp)) ⟨ho, ?_⟩⟩)
    exact ⟨.ref l, H, I, rfl, q1 rfl⟩
  · exact op_repT pins s σ H _ _ v u Q I rx ry ⟨l, k, xs, rfl, rfl, hT, hne, by omega, h2, hz, q (by omega)⟩
def rMulA (K : PySem.W.Frag) : R2 := fun x y H Q => rMulI x y H Q ∨ (rRep x y H Q ∨ rRepU K x y H Q)
theorem kMul {X : Cx} {K : PySem.W.Frag} (hK : X.K = K := by rfl) : OpR X (binaryOp .Mult) (rMulA K) := hK ▸ oMul.or (op_rep.or op_repU)
end Hg

set_option maxHeartbeats 4000000
set_option exponentiation.threshold 10000
namespace Hg
open PySem PySem.Spec PyProof.Rows L2
/-! ### kinds -/
def kinds : List String := ["NoneType", "bool", "int", "str", "tuple", "list"]
inductive Kd (H : Hp) : V → String → Prop
  | non : Kd H .non "NoneType"
  | bl (b : Bool) : Kd H (.bl b) "bool"
  | int (i : Int) : Kd H (.int i) "int"
  | str (x : Str) : Kd H (.str x) "str"
  | tup {a : Addr} {xs : List V} : H a = some (.tup xs) → Kd H (.ref a) "tuple"
  | lst {a : Addr} {xs : List V} : H a = some (.lst xs) → Kd H (.ref a) "list"
theorem Kd.mem {H : Hp} {v : V} {n : String} (h : Kd H v n) : n ∈ kinds := by cases h <;> simp [kinds]
theorem Kd.ty {K : PySem.W.Frag} {H : Hp} {v : V} {n : String} (h : Kd H v n) : TyX K H v (.type n) := by
  cases h with
  | non => exact .base .non
  | bl b => exact .base (.bl b)
  | int i => exact .base (.int i)
  | str x => exact .base (.str x)
  | tup e => exact .base (.tup e)
  | lst e => exact .base (.lst e)
theorem Kd.ex {H H' : Hp} {v : V} {n : String} (e : Ex H H') (h : Kd H v n) : Kd H' v n := by
  cases h with
  | non => exact .non
  | bl b => exact .bl b
  | int i => exact .int i
  | str x => exact .str x
  | tup q => exact .tup (e _ _ q)
  | lst q => exact .lst (e _ _ q)
def isI : V → Bool
  | .int _ => true
  | _ => false
theorem Kd.isI {H : Hp} {v : V} {n : String} (h : Kd H v n) : (n == "int") = Hg.isI v := by cases h <;> rfl
theorem kit_int : ∀ n ∈ kinds, kitB n "int" = some (n == "int" || n == "bool") := by
  intro n h
  simp only [kinds, List.mem_cons, List.not_mem_nil, or_false] at h
  rcases h with h | h | h | h | h | h <;> subst h <;> decide +kernel
theorem kit_bool : ∀ n ∈ kinds, kitB n "bool" = some (n == "bool") := by
  intro n h
  simp only [kinds, List.mem_cons, List.not_mem_nil, or_false] at h
  rcases h with h | h | h | h | h | h <;> subst h <;> decide +kernel
theorem kit_tup : ∀ n ∈ kinds, kitB n "tuple" = some (n == "tuple") := by
  intro n h
  simp only [kinds, List.mem_cons, List.not_mem_nil, or_false] at h
  rcases h with h | h | h | h | h | h <;> subst h <;> decide +kernel
def sp_isInt (K : PySem.W.Frag) : Sp := fun vs H Q _ => ∃ (v : V) (n : String), vs = [v] ∧ Kd H v n ∧ Q (.bl (isI v)) H
theorem int_case (n : String) (h : n ∈ kinds) : (if (n == "int" || n == "bool") = true then !(n == "bool") else false) = (n == "int") := by
  simp only [kinds, List.mem_cons, List.not_mem_nil, or_false] at h
  rcases h with h | h | h | h | h | h <;> subst h <;> decide
/-! ### gcd -/
def gcdI (a b : Int) : Int := ((Nat.gcd a.natAbs b.natAbs : Nat) : Int)
def gfold (ns : List Int) : Int := ns.foldl gcdI 0
theorem gfold_more {ns : List Int} {i : Nat} {z : Int} (h : ns[i]? = some z) : gfold (ns.take (i + 1)) = gcdI (gfold (ns.take i)) z := by
  unfold gfold
  have hi : i < ns.length := (List.getElem?_eq_some_iff.mp h).1
  rw [List.take_succ, h, Option.toList_some, List.foldl_append]
  rfl
theorem ints_at {ns : List Int} {i : Nat} {x : V} (h : (ns.map V.int)[i]? = some x) : ∃ z, ns[i]? = some z ∧ x = .int z := by
  rw [List.getElem?_map] at h
  cases e : ns[i]? with
  | none =>
    rw [e] at h
    cases h
  | some z =>
    rw [e] at h
    exact ⟨z, rfl, (Option.some.inj h).symm⟩
/-- what is_form is asked: no tuple, or a tuple of known kinds -/
def Frm (H : Hp) (v : V) (size : Int) (b : Bool) : Prop :=
  (∃ n, Kd H v n ∧ n ≠ "tuple" ∧ b = false) ∨ ∃ (a : Addr) (xs : List V), v = .ref a ∧ H a = some (.tup xs) ∧ xs.length ≤ 1000 ∧ (∀ x ∈ xs, ∃ n, Kd H x n) ∧ b = (decide ((xs.length : Int) = size) && xs.all isI)
def sp_is_form (K : PySem.W.Frag) : Sp := fun vs H Q _ => ∃ (v : V) (size : Int) (b : Bool), vs = [v, .int size] ∧ Frm H v size b ∧ ∀ H', Ex H H' → Q (.bl b) H'
def big (x : Int) : Prop := x.natAbs < 2 ^ 3000
theorem big_mul {x y : Int} (hx : big x) (hy : big y) : CMulW x y := wide_mul hx hy (by decide) (by decide) (by decide)
def dotI (fs vs : List Int) : Int := (List.zipWith (· * ·) fs vs).sum
def sp_dot (K : PySem.W.Frag) : Sp := fun vs H Q _ => ∃ (k l : Bool) (a b : Addr) (xs ys : List Int), vs = [.ref a, .ref b] ∧ SqK K k H a (xs.map V.int) ∧ SqK K l H b (ys.map V.int) ∧ xs.length = ys.length ∧ xs.length ≤ 1000 ∧
  (∀ x ∈ xs, big x) ∧ (∀ y ∈ ys, big y) ∧ ∀ H', Ex H H' → Q (.int (dotI xs ys)) H'
def sp_add_forms (K : PySem.W.Frag) : Sp := fun vs H Q _ => ∃ (k l : Bool) (a b : Addr) (xs ys : List Int), vs = [.ref a, .ref b] ∧ SqK K k H a (xs.map V.int) ∧ SqK K l H b (ys.map V.int) ∧ xs.length = ys.length ∧ xs.length ≤ 1000 ∧
  ∀ H' p, Ex H H' → H p = none → H' p = some (.tup ((List.zipWith (· + ·) xs ys).map V.int)) → Q (.ref p) H'
def sp_scale_form (K : PySem.W.Frag) : Sp := fun vs H Q _ => ∃ (k : Bool) (a : Addr) (c : Int) (xs : List Int), vs = [.int c, .ref a] ∧ SqK K k H a (xs.map V.int) ∧ xs.length ≤ 1000 ∧ big c ∧ (∀ x ∈ xs, big x) ∧
  ∀ H' p, Ex H H' → H p = none → H' p = some (.tup ((xs.map (c * ·)).map V.int)) → Q (.ref p) H'
theorem range_zip {xs ys : List Int} (h : xs.length = ys.length) (f : Int → Int → Int) (val : Nat → V) (hv : ∀ i x y, xs[i]? = some x → ys[i]? = some y → val i = .int (f x y)) :
    (List.range (min xs.length ys.length)).map val = (List.zipWith f xs ys).map V.int := by
  apply List.ext_getElem?
  intro i
  rw [List.getElem?_map, List.getElem?_map]
  by_cases hi : i < xs.length
  · have hj : i < ys.length := by omega
    rw [List.getElem?_range (by omega)]
    simp only [List.getElem?_zipWith, List.getElem?_eq_getElem hi, List.getElem?_eq_getElem hj, Option.map_some]
    rw [hv i _ _ (List.getElem?_eq_getElem hi) (List.getElem?_eq_getElem hj)]
  · have e1 : (List.range (min xs.length ys.length))[i]? = none := by simp; omega
    have e2 : (List.zipWith f xs ys)[i]? = none := by
      rw [List.getElem?_eq_none_iff]
      simp
      omega
    rw [e1, e2]
    rfl
theorem eqv_nil (ns : List Int) : (!PyData.eqv (.list (ns.map PyData.int)) (.list [])) = !decide (ns = []) := by
  rw [show ([] : List PyData) = ([] : List Int).map PyData.int from rfl, eqv_l]
theorem seq0 (n : Nat) : seqIndex? 0 (n + 1) = some 0 := by
  unfold seqIndex?
  simp
theorem menu {vs : List V} {r : Int} (h0 : 0 ≤ r) {n : Nat} (h1 : r < n) (hn : vs.length = n) : ∃ v, atI vs r = some v ∧ v ∈ vs := at_lt h0 (by omega)
/-! ### what lies beside the stream -/
def beside (s q : Addr) (H : Hp) : Hp := fun a => if a = s ∨ a = q then none else H a
theorem beside_of {s q a : Addr} {H : Hp} (h1 : a ≠ s) (h2 : a ≠ q) : beside s q H a = H a := by
  unfold beside
  rw [if_neg (by rintro (h | h) <;> contradiction)]
section
variable {s q : Addr} {B : Nat} {G H : Hp}
/-- all that lies beside the stream is kept -/
theorem Ov.all (x : Ov s q B G H) : Ov s q B (beside s q H) H ∧ Ex G (beside s q H) := by
  refine ⟨⟨fun a o e => ?_, by simp [beside], by simp [beside], x.str⟩, fun a o e => ?_⟩
  · unfold beside at e
    split at e
    · cases e
    · exact e
  · rw [beside_of (fun z => by rw [z, x.gs] at e; cases e) (fun z => by rw [z, x.gq] at e; cases e)]
    exact x.sub _ _ e
theorem Ov.tup (x : Ov s q B G H) {a : Addr} {xs : List V} (h : H a = some (.tup xs)) : beside s q H a = some (.tup xs) := by
  obtain ⟨ne, n, k, l, ms, e1, e2, e3⟩ := x.str
  rw [beside_of (fun z => by rw [z, e1] at h; cases h) (fun z => by rw [z, e2] at h; cases h)]
  exact h
/-- a new object is known -/
theorem Ov.fresh (x : Ov s q B G H) {H' : Hp} (e : Ex H H') {a : Addr} (hn : H a = none) {o : HO} (h : H' a = some o) : beside s q H' a = some o := by
  obtain ⟨ne, n, k, l, ms, e1, e2, e3⟩ := x.str
  rw [beside_of (fun z => by rw [z, e1] at hn; cases hn) (fun z => by rw [z, e2] at hn; cases hn)]
  exact h
end
section
variable {s q : Addr} {B B1 : Nat} {G H H1 : Hp}
theorem Ov.t (O : Ov s q B G H) (O1 : Ov s q B1 (beside s q H) H1) {a : Addr} {xs : List V} (h : H a = some (.tup xs)) : H1 a = some (.tup xs) := O1.sub _ _ (O.tup h)
theorem Ov.l (O1 : Ov s q B1 (beside s q H) H1) {a : Addr} {o : HO} (n1 : a ≠ s) (n2 : a ≠ q) (h : H a = some o) : H1 a = some o := O1.sub _ _ ((beside_of n1 n2).trans h)
theorem Ov.g (O : Ov s q B G H) (O1 : Ov s q B1 (beside s q H) H1) : Ov s q B1 G H1 := O1.weak O.all.2
/-- an object that G does not know is changed -/
theorem Ov.mut (x : Ov s q B G H) {p : Addr} {o : HO} (hp : G p = none) (n1 : p ≠ s) (n2 : p ≠ q) : Ov s q B G (upd H p o) := by
  obtain ⟨ne, n, k, l, ms, e1, e2, e3⟩ := x.str
  exact ⟨fun a u e => (upd_ne (fun z => by rw [z, hp] at e; cases e)).trans (x.sub _ _ e), x.gs, x.gq, ne, n, k, l, ms, (upd_ne (Ne.symm n1)).trans e1, (upd_ne (Ne.symm n2)).trans e2, e3⟩
theorem Ov.ns (x : Ov s q B G H) {p : Addr} (hp : H p = none) : p ≠ s ∧ p ≠ q := by
  obtain ⟨os, hs⟩ := x.hs
  obtain ⟨oq, hq⟩ := x.hq
  exact ⟨fun e => (ne_of_none hs hp) e.symm, fun e => (ne_of_none hq hp) e.symm⟩
end
/-- rows: tuples of ints -/
def RowsIn (H : Hp) (as : List Addr) (R : List (List Int)) : Prop := as.length = R.length ∧ ∀ (i : Nat) (a : Addr) (r : List Int), as[i]? = some a → R[i]? = some r → H a = some (.tup (r.map V.int))
theorem RowsIn.mono {H H' : Hp} {as : List Addr} {R : List (List Int)} (h : RowsIn H as R) (k : ∀ a xs, H a = some (.tup xs) → H' a = some (.tup xs)) : RowsIn H' as R := ⟨h.1, fun i a r h1 h2 => k _ _ (h.2 i a r h1 h2)⟩
theorem RowsIn.nil {H : Hp} : RowsIn H [] [] := ⟨rfl, fun i a r h => by simp at h⟩
theorem RowsIn.snoc {H : Hp} {as : List Addr} {R : List (List Int)} (h : RowsIn H as R) {a : Addr} {r : List Int} (ha : H a = some (.tup (r.map V.int))) : RowsIn H (as ++ [a]) (R ++ [r]) := by
  refine ⟨by simp [h.1], fun i b x h1 h2 => ?_⟩
  by_cases hi : i < as.length
  · rw [List.getElem?_append_left hi] at h1
    rw [List.getElem?_append_left (by rw [← h.1]; exact hi)] at h2
    exact h.2 i b x h1 h2
  · rw [List.getElem?_append_right (by omega)] at h1
    rw [List.getElem?_append_right (by rw [← h.1]; omega)] at h2
    have e : i - as.length = 0 := by
      have := (List.getElem?_eq_some_iff.mp h1).1
      simp at this; omega
    rw [← h.1, e] at h2
    rw [e] at h1
    cases h1
    cases h2
    exact ha
theorem RowsIn.set {H : Hp} {as : List Addr} {R : List (List Int)} (h : RowsIn H as R) {k : Nat} {a : Addr} {r : List Int} (ha : H a = some (.tup (r.map V.int))) : RowsIn H (as.set k a) (R.set k r) := by
  refine ⟨by simp [h.1], fun i b x h1 h2 => ?_⟩
  by_cases hi : k = i
  · subst hi
    by_cases hk : k < as.length
    · rw [List.getElem?_set_self hk] at h1
      rw [List.getElem?_set_self (by rw [← h.1]; exact hk)] at h2
      cases h1
      cases h2
      exact ha
    · rw [List.getElem?_eq_none (by simp; omega)] at h1
      cases h1
  · rw [List.getElem?_set_ne hi] at h1 h2
    exact h.2 i b x h1 h2
theorem RowsIn.get {H : Hp} {as : List Addr} {R : List (List Int)} (h : RowsIn H as R) {i : Nat} (hi : i < R.length) : ∃ a, as[i]? = some a ∧ R[i]? = some R[i] ∧ H a = some (.tup (R[i].map V.int)) := by
  have hi' : i < as.length := by rw [h.1]; exact hi
  exact ⟨as[i], by simp [hi'], by simp [hi], h.2 i _ _ (by simp [hi']) (by simp [hi])⟩
theorem tk_put {H : Hp} {L : Addr} {ys : List V} {o : HO} (hL : H L = some (.lst ys)) (a : Addr) (xs : List V) (h : H a = some (.tup xs)) : upd H L o a = some (.tup xs) := (upd_ne (fun e => by rw [e, hL] at h; cases h)).trans h
theorem natAbs_lt {x : Int} {n m : Nat} (h : x.natAbs ≤ n) (hm : n < m) : x.natAbs < m := Nat.lt_of_le_of_lt h hm
theorem ixN_nat {n j : Nat} (h : j < n) : ixN n (j : Int) = some j := by
  unfold ixN
  rw [if_pos (by omega), if_pos (by omega)]
  simp
/-! ### tuples put together and cut -/
theorem cat_t {K : PySem.W.Frag} {H : Hp} {a b : Addr} {xs ys : List V} {Q : VK} (ha : H a = some (.tup xs)) (hb : H b = some (.tup ys)) (hl : xs.length + ys.length ≤ 100000) (q : ∀ p H', Ex H H' → H' p = some (.tup (xs ++ ys)) → Q (.ref p) H') : rPlus K (.ref a) (.ref b) H Q := by
  refine .inr (.inr (.inl ⟨a, b, xs, ys, rfl, rfl, SqT.of ha, SqT.of hb, by rw [sizeLine_eq]; omega, fun h => ?_, fun _ h => ?_, fun _ _ p hp => ?_⟩))
  · subst h
    exact q b H (Ex.refl H) hb
  · subst h
    refine q a H (Ex.refl H) ?_
    rw [List.append_nil]
    exact ha
  · exact q p _ (Ex.new hp) upd_same
theorem cat_l {K : PySem.W.Frag} {H : Hp} {a b : Addr} {xs ys : List V} {Q : VK} (ha : H a = some (.lst xs)) (hb : H b = some (.lst ys)) (hl : xs.length + ys.length ≤ 100000) (q : ∀ p H', Ex H H' → H p = none → H' p = some (.lst (xs ++ ys)) → Q (.ref p) H') : rPlus K (.ref a) (.ref b) H Q :=
  .inr (.inl ⟨a, b, xs, ys, rfl, rfl, ha, hb, by rw [sizeLine_eq]; omega, fun p hp => q p _ (Ex.new hp) hp upd_same⟩)
theorem sl_t {K : PySem.W.Frag} {H : Hp} {a : Addr} {xs : List V} {lo hi : Option Int} {Q : VK} (ha : H a = some (.tup xs)) (q : ∀ p H', Ex H H' → H' p = some (.tup (cutV xs lo hi)) → Q (.ref p) H') : rSlAll K (.ref a) lo hi H Q := by
  refine .inr ⟨a, xs, rfl, SqT.of ha, fun h => ?_, fun _ p hp => q p _ (Ex.new hp) upd_same⟩
  refine q a H (Ex.refl H) ?_
  unfold cutV
  rw [h.1, h.2, List.drop_zero, Nat.sub_zero, List.take_length]
  exact ha
theorem cut_to {xs : List V} {n : Nat} (h : n ≤ xs.length) : cutV xs none (some (n : Int)) = xs.take n := by
  unfold cutV
  rw [HT.sIx_none, HT.sIx_nat, List.drop_zero, Nat.sub_zero, Nat.min_eq_left h]
theorem cut_from {xs : List V} {n : Nat} (h : n ≤ xs.length) : cutV xs (some (n : Int)) none = xs.drop n := by
  unfold cutV
  rw [HT.sIx_none, HT.sIx_nat, Nat.min_eq_left h]
  apply List.take_of_length_le
  simp
/-! ### the law -/
def spLaw (K : PySem.W.Frag) : Sp := fun vs H Q _ => ∃ (a : Addr) (ns : List Int), vs = [.ref a] ∧ SqL K H a (ns.map V.int) ∧ ∀ H', Q (.bl true) H'
theorem strm_new {H : Hp} {q0 s0 : Addr} {ns : List Int} (hq : H q0 = none) (hs : upd H q0 (.lst (ns.map V.int)) s0 = none) : Ov s0 q0 0 H (upd (upd H q0 (.lst (ns.map V.int))) s0 (.lst [.ref q0, .int 0, .int 0, .int 0])) := by
  have nq : q0 ≠ s0 := fun e => by rw [← e, upd_same] at hs; cases hs
  have hs' : H s0 = none := by rw [upd_ne (Ne.symm nq)] at hs; exact hs
  exact ⟨(Ex.new hq).trans (Ex.new hs), hs', hq, Ne.symm nq, 0, 0, 0, ns, upd_same, (upd_ne nq).trans upd_same, by decide, by decide, by decide, by decide, by decide⟩
theorem picked_first {α : Type} {keep : Nat → Bool} {val : Nat → α} {p : Nat} (h0 : ∀ i, i < p → keep i = false) : ∀ n, (n ≤ p → picked keep val n = []) ∧ (p < n → keep p = true → ∃ t, picked keep val n = val p :: t)
  | 0 => ⟨fun _ => rfl, fun h => absurd h (by omega)⟩
  | n + 1 => by
    obtain ⟨i1, i2⟩ := picked_first (val := val) h0 n
    refine ⟨fun h => ?_, fun h hk => ?_⟩
    · rw [picked_succ, h0 n (by omega), i1 (by omega)]
      rfl
    · rw [picked_succ]
      by_cases e : n = p
      · subst e
        rw [if_pos hk, i1 (Nat.le_refl _)]
        exact ⟨[], rfl⟩
      · obtain ⟨t, ht⟩ := i2 (by omega) hk
        rw [ht]
        split
        · exact ⟨_, rfl⟩
        · exact ⟨_, rfl⟩
theorem atI_0 {α : Type} {x : α} {xs : List α} : atI (x :: xs) 0 = some x := atI_nat (j := 0) rfl
/-! ### tests -/
section
variable {A B : Prop}
theorem iteD {p : Prop} [Decidable p] (h1 : p → A) (h2 : ¬ p → B) : if decide p = true then A else B := by
  by_cases h : p
  · rw [decide_eq_true h]; exact iteT (h1 h)
  · rw [decide_eq_false h]; exact iteF (h2 h)
theorem iteDT {p : Prop} [Decidable p] (h : p) (a : A) : if decide p = true then A else B := iteD (fun _ => a) fun n => absurd h n
theorem iteDF {p : Prop} [Decidable p] (h : ¬ p) (b : B) : if decide p = true then A else B := iteD (fun y => absurd y h) fun _ => b
theorem iteN {p : Prop} [Decidable p] (h1 : ¬ p → A) (h2 : p → B) : if (!decide p) = true then A else B := by
  by_cases h : p
  · rw [decide_eq_true h]; exact iteF (h2 h)
  · rw [decide_eq_false h]; exact iteT (h1 h)
theorem iteNT {p : Prop} [Decidable p] (h : ¬ p) (a : A) : if (!decide p) = true then A else B := iteN (fun _ => a) fun n => absurd n h
theorem iteNF {p : Prop} [Decidable p] (h : p) (b : B) : if (!decide p) = true then A else B := iteN (fun y => absurd h y) fun _ => b
theorem iteV {x y : Int} (h1 : x = y → A) (h2 : x ≠ y → B) : if decide (V.int x = V.int y) = true then A else B := iteD (fun h => h1 (by simpa using h)) fun h => h2 (by simpa using h)
theorem iteVT {x y : Int} (h : x = y) (a : A) : if decide (V.int x = V.int y) = true then A else B := iteV (fun _ => a) fun n => absurd h n
theorem iteVF {x y : Int} (h : x ≠ y) (b : B) : if decide (V.int x = V.int y) = true then A else B := iteV (fun y => absurd y h) fun _ => b
theorem iteW {x y : Int} (h1 : x ≠ y → A) (h2 : x = y → B) : if (!decide (V.int x = V.int y)) = true then A else B := iteN (fun h => h1 (by simpa using h)) fun h => h2 (by simpa using h)
theorem iteWT {x y : Int} (h : x ≠ y) (a : A) : if (!decide (V.int x = V.int y)) = true then A else B := iteW (fun _ => a) fun n => absurd n h
theorem iteWF {x y : Int} (h : x = y) (b : B) : if (!decide (V.int x = V.int y)) = true then A else B := iteW (fun y => absurd h y) fun _ => b
theorem iteB {b : Bool} (h1 : b = true → A) (h2 : b = false → B) : if b = true then A else B := by
  cases b with
  | true => exact iteT (h1 rfl)
  | false => exact iteF (h2 rfl)
theorem iteBN {b : Bool} (h1 : b = false → A) (h2 : b = true → B) : if (!b) = true then A else B := by
  cases b with
  | true => exact iteF (h2 rfl)
  | false => exact iteT (h1 rfl)
end
/-! ### rules with K said -/
section
variable {X : Cx} {K : PySem.W.Frag}
theorem kRepU (hK : X.K = K := by rfl) : OpR X (binaryOp .Mult) (rRepU K) := hK ▸ op_repU
end
end Hg

set_option maxHeartbeats 4000000
namespace Hg
open PySem PySem.Spec PyProof.Rows L2
theorem Ov.sync {s q : Addr} {B : Nat} {G H H' : Hp} (O : Ov s q B G H) (e : Ex H H') {p : Addr} {xs : List V} (hp : H' p = some (.tup xs)) : ∃ G', Ex G G' ∧ Ov s q B G' H' ∧ G' p = some (.tup xs) := by
  obtain ⟨a, b⟩ := (O.ex e).all
  exact ⟨_, b, a, (O.ex e).tup hp⟩
theorem Ov.syncL {s q : Addr} {B : Nat} {G H H' : Hp} (O : Ov s q B G H) (e : Ex H H') {p : Addr} {o : HO} (hn : H p = none) (hp : H' p = some o) : ∃ G', Ex G G' ∧ Ov s q B G' H' ∧ G' p = some o := by
  obtain ⟨a, b⟩ := (O.ex e).all
  exact ⟨_, b, a, O.fresh e hn hp⟩
theorem mem_cutV {xs : List V} {lo hi : Option Int} {x : V} (h : x ∈ cutV xs lo hi) : x ∈ xs := by
  unfold cutV at h
  exact List.mem_of_mem_drop (List.mem_of_mem_take h)
theorem rep_flat {α : Type} (x : α) : ∀ k : Nat, (List.replicate k [x]).flatten = List.replicate k x
  | 0 => rfl
  | k + 1 => by rw [List.replicate_succ, List.replicate_succ, List.flatten_cons, rep_flat x k]; rfl
theorem rep_t {K : PySem.W.Frag} {H : Hp} {l : Addr} {x : V} {k : Nat} {Q : VK} (hl : H l = some (.tup [x])) (h1 : 1 ≤ k) (h2 : k ≤ 1000) (q : ∀ p H', Ex H H' → H' p = some (.tup (List.replicate k x)) → Q (.ref p) H') : rRepU K (.ref l) (.int k) H Q := by
  refine ⟨l, k, [x], rfl, rfl, SqT.of hl, by simp, by omega, by omega, by simp, fun e => ?_, fun e p hp => ?_⟩
  · have : k = 1 := by omega
    subst this
    exact q l H (Ex.refl H) hl
  · refine q p _ (Ex.new hp) ?_
    rw [upd_same, Int.toNat_natCast, rep_flat]
/-- rows as data -/
theorem dp_rows {K : PySem.W.Frag} {H : Hp} : ∀ (as : List Addr) (R : List (List Int)), RowsIn H as R → DpAll K H (as.map V.ref) (R.map fun r => .tuple (r.map PyData.int))
  | [], [], _ => .nil
  | [], r :: R, h => absurd h.1 (by simp)
  | a :: as, [], h => absurd h.1 (by simp)
  | a :: as, r :: R, h => .cons (dp_t (SqT.of (h.2 0 a r rfl rfl))) (dp_rows as R ⟨by simpa using h.1, fun i b x h1 h2 => h.2 (i + 1) b x (by simpa using h1) (by simpa using h2)⟩)
theorem lay_rows : ∀ R : List (List Int), PyData.canLayAll0 (R.map fun r => PyData.tuple (r.map PyData.int)) = true
  | [] => rfl
  | r :: R => by simp [PyData.canLayAll0, PyData.canLay0, lay_ints, lay_rows R]
theorem depth_rows : ∀ R : List (List Int), PyData.depthAll (R.map fun r => PyData.tuple (r.map PyData.int)) ≤ 2
  | [] => by simp [PyData.depthAll]
  | r :: R => by
    have := depth_rows R
    have := depth_ints r
    simp [PyData.depthAll, PyData.depth]
    omega
theorem shaped_rows (R : List (List Int)) : SeqAt.shaped (.tuple (R.map fun r => PyData.tuple (r.map PyData.int))) = true := by
  have := depth_rows R
  simp [SeqAt.shaped, PyData.canLay0, PyData.depth, lay_rows]
  omega
theorem eqv_rows_nil (R : List (List Int)) : PyData.eqv (.tuple (R.map fun r => PyData.tuple (r.map PyData.int))) (.tuple []) = decide (R = []) := by
  rw [PyData.eqv]
  cases R <;> simp [PyData.eqvAll]
theorem Kd.putL {G : Hp} {l : Addr} {xs ys : List V} {v : V} {n : String} (hl : G l = some (.lst xs)) (h : Kd G v n) : Kd (upd G l (.lst ys)) v n := by
  cases h with
  | non => exact .non
  | bl b => exact .bl b
  | int i => exact .int i
  | str x => exact .str x
  | tup q => exact .tup (tk_put hl _ _ q)
  | lst q =>
    rename_i a zs
    by_cases e : a = l
    · subst e
      exact .lst upd_same
    · exact .lst ((upd_ne e).trans q)
end Hg

set_option maxHeartbeats 4000000
namespace Hg
open PySem PySem.Spec PyProof.Rows L2
/-! ### the law at the top: what is under way there is known (nothing), so that repr and str of data can be told -/
abbrev topEnv (st : Stmt) (x : Str) (s : Shared) (fa : Addr) (cd : Value) : Env := envOfC x (defScope st) s.heap.objs.size fa cd
abbrev topCx (P : Program) (w : World) (K : PySem.W.Frag) (mg : Str → Option Value) (base : Heap) (N : List Str) (x : Str) (st : Stmt) (fa : Addr) (cd : Value) (s : Shared) (H : Hp) : Cx :=
  cxOf CX0 P w K mg base N x (defScope st) fa cd callerA [] s H E0
/-- the law's body, read where it is called -/
def TopOk (P : Program) (w : World) (K : PySem.W.Frag) (mg : Str → Option Value) (k : Nat) (N : List Str) (x : Str) (st : Stmt) (fa : Addr) (ok : Addr → List Int → Hp → Prop) : Prop :=
  ∀ (cd : Value) (base : Heap) (s : Shared) (H : Hp) (a : Addr) (ns : List Int), K.In base → base.Ns mainGlobals mg → Room k (callerA.deeper (topEnv st x s fa cd)) → ok a ns H →
    ∃ t, PSs (topCx P w K mg base N x st fa cd s H).nox (defBody st) t ∧ t { nx := fun _ _ => False, rt := fun v _ => v = .bl true } (start N [.ref a]) H
/-- one run of it -/
theorem TopOk.run {P : Program} {w : World} {K : PySem.W.Frag} {mg : Str → Option Value} {k : Nat} {N : List Str} {x p : Str} {st : Stmt} {fa : Addr} {ok : Addr → List Int → Hp → Prop} (T : TopOk P w K mg k N x st fa ok)
    {fd : FuncData} (F : Fun K x x st fa fd) (S : FnScope N [p] (defScope st)) (R : Room (k + 1) callerA) {base : Heap} {s : Shared} {H : Hp} {a : Addr} {ns : List Int} (e0 : Env0 P w K mg base callerA [] s H)
    (hb : BindsTo s fd ⟨[.ref a], []⟩ [(p, .ref a)]) (q : ok a ns H) :
    codeAny (model P w) callerA (.call (.ref fa) ⟨[.ref a], []⟩) (fun r s' => ∃ H', r = .ok (.ret (.bool true)) ∧ s'.os = s.os ∧ AllBare s'.gens ∧ Un [] [] H H' s.heap s'.heap ∧ HOk P w H' s'.heap) s := by
  obtain ⟨oc, od, kV, doc, pm, an, cd, ct, osl, efd, look, code⟩ := F.ex
  subst efd
  have stays : ∀ b o, base.get? b = some o → s.heap.get? b = some o := fun b o e => (e0.bs b o e).1
  have inS : K.In s.heap := e0.mod.kin.keeps stays
  have kinds : ∀ y ∈ [p].zip [Value.ref a], (defScope st).names.lookup y.1 = some .local ∨ ((defScope st).names.lookup y.1 = some .cell ∧ ((cellsFrom (s.heap.objs.size + 1) (defScope st).names []).lookup y.1).isSome = true) := by
    intro y hy
    have ey : y = (p, Value.ref a) := by simpa using hy
    subst ey
    exact (S.par p (by simp)).imp id fun c => ⟨c, PySem.W.cellsFrom_some _ _ _ (.inl c)⟩
  refine codeAny_call_function R.depth (inS _ _ look) rfl S.co S.gen rfl (PySem.W.codeRec_of inS code) (hb _ _ _ _ (wpAny_newFunctionEnv_cells S.kind kinds ?_))
  rintro _ rfl s2 entered
  refine ⟨(e0.mod.nolimit.keeps stays).keeps entered.toInCall.keep, codeAny_func ?_⟩
  obtain ⟨t, ht, hq⟩ := T cd base s H a ns e0.mod.kin e0.mod.glob (R.deeper _) q
  have start1 := inv_start (CX := CX0) (E := E0) (us := [.ref a]) (vs := [.ref a]) S R.hd e0 rfl (.cons rfl .nil) entered
  refine wpAny_mono (ht.nox.run [] s2 _ H _ start1 hq) (fun fl s' z => ?_) fun e s' z => ?_
  · rcases fl with _ | _ | _ | u
    · obtain ⟨_, _, _, z⟩ := z
      exact z.elim
    · obtain ⟨_, _, _, z⟩ := z
      exact z.elim
    · obtain ⟨_, _, _, z⟩ := z
      exact z.elim
    · obtain ⟨v, σ', H', J, rv, ev⟩ := z
      subst ev
      cases (show u = Value.bool true from rv)
      exact ⟨H', rfl, J.os, J.bare, J.base, J.hok⟩
  · exact wpAny_mono z (fun _ _ n => (n : False).elim) fun _ _ n => (n : False).elim
/-- at the heap behind the top -/
theorem TopOk.call {P : Program} {w : World} {K : PySem.W.Frag} {mg mb : Str → Option Value} {k : Nat} {N : List Str} {x p : Str} {st : Stmt} {fa a : Addr} {fd : FuncData} {s : Shared} {vs : List Value} {ns : List Int} {ok : Addr → List Int → Hp → Prop}
    (T : TopOk P w K mg k N x st fa ok) (F : Fun K x x st fa fd) (S : FnScope N [p] (defScope st)) (R : Room (k + 1) callerA)
    (inS : K.In s.heap) (gl : s.heap.Ns mainGlobals mg) (bl : s.heap.Ns builtinsNs mb) (boot : ∀ y : Str, y ≠ "__name__" → mb y = bootBuiltins y) (nl : s.heap.NoLimit) (gens : s.gens = #[])
    (ha : s.heap.get? a = some { cls := .type "list", data := .seq vs.toArray }) (iv : IntsAre vs ns) (len : ns.length ≤ sizeLine) (bind : ∀ (s : Shared) (u : Value), BindsTo s fd ⟨[u], []⟩ [(p, u)])
    (good : ∀ H : Hp, SqL K H a (ns.map V.int) → ok a ns H) :
    codeAny (model P w) callerA (.call (.ref fa) ⟨[.ref a], []⟩) (fun r s' => r = .ok (.ret (.bool true)) ∧ OldK s.heap s'.heap ∧ s'.os = s.os ∧ AllBare s'.gens) s := by
  have rel := vals_ints iv
  have go : ∀ H : Hp, (∀ b u, H b = some u → b = a ∧ u = .frz { cls := .type "list", data := .seq vs.toArray } (.lst (ns.map V.int)) ∧ K.lookup a = none) → SqL K H a (ns.map V.int) →
      codeAny (model P w) callerA (.call (.ref fa) ⟨[.ref a], []⟩) (fun r s' => r = .ok (.ret (.bool true)) ∧ OldK s.heap s'.heap ∧ s'.os = s.os ∧ AllBare s'.gens) s := by
    intro H only seq
    have hok : HOk P w H s.heap := by
      intro b u z
      obtain ⟨rfl, rfl, _⟩ := only b u z
      exact ⟨ha, by rw [List.length_map]; exact len, vs, _, rel, ha⟩
    have noDict : ∀ {b : Addr} {o : Obj} {es : Array DictEntry} {n : Nat}, s.heap.get? b = some o → o.data = .dict es n → H b = none := by
      intro b o es n e d
      cases z : H b with
      | none => rfl
      | some u =>
        obtain ⟨rfl, _, _⟩ := only b u z
        rw [ha] at e
        cases e
        cases d
    have names : ∀ {b : Addr} {m : Str → Option Value}, s.heap.Ns b m → (hidT s.heap H).Ns b m := by
      rintro b m ⟨o, es, n, e, d, rest⟩
      exact ⟨o, es, n, hidT_get e (noDict e d), d, rest⟩
    have inB : K.In (hidT s.heap H) := by
      intro b o e
      refine hidT_get (inS b o e) ?_
      cases z : H b with
      | none => rfl
      | some u =>
        obtain ⟨rfl, _, z'⟩ := only b u z
        rw [z'] at e
        cases e
    obtain ⟨ml, l1, l2⟩ := nl
    have e0 : Env0 P w K mg (hidT s.heap H) callerA [] s H :=
      { frames := rfl, mod := ⟨inB, names gl, ⟨mb, names bl, boot⟩, ml, names l1, l2⟩, bs := fun b o e => of_hidT e, bsz := by rw [hidT_size]; exact Nat.le_refl _, funs := trivial,
        frf := fun b z => absurd (show b ∈ ([] : List Addr) from z) (by simp), hok := hok, bare := .of_eq gens }
    refine codeAny_mono (T.run F S R e0 (bind s (.ref a)) (good H seq)) ?_
    rintro r s' ⟨H', rfl, eos, bare, un, hok'⟩
    refine ⟨rfl, OldK.of_keep ?_, eos, bare⟩
    intro b o e
    cases z : H b with
    | none => exact un.keep b o e z (by simp) (by simp)
    | some u =>
      obtain ⟨rfl, rfl, _⟩ := only b u z
      obtain ⟨g, _⟩ := hok' b _ (un.frzs b _ _ z)
      rw [ha] at e
      cases e
      exact g
  cases look : K.lookup a with
  | some o =>
    have e := inS a o look
    rw [ha] at e
    cases e
    exact go (fun _ => none) (fun b u z => by cases z) (.inr ⟨_, vs.toArray, _, look, rfl, rfl, rfl, by rw [List.size_toArray, iv.length]; exact len, by simpa using rel⟩)
  | none =>
    refine go (fun b => if b = a then some (.frz { cls := .type "list", data := .seq vs.toArray } (.lst (ns.map V.int))) else none) (fun b u z => ?_) (.inl (.inr ⟨_, if_pos rfl⟩))
    by_cases e : b = a
    · rw [if_pos e] at z
      cases z
      exact ⟨e, rfl, look⟩
    · rw [if_neg e] at z
      cases z
/-- the row's walk -/
theorem top_walk {l : PySem.W.OpenLaw} {n k : Nat} {q : Program} {loose : List Str} {XP : (Str → Option Value) → Heap → Prop} {YP : World → Heap → Prop} {d : DefRec} {K : Params → PySem.W.Frag} {N : List Str} {p : Str} {st : Stmt} {ok : PySem.W.Frag → Addr → List Int → Hp → Prop}
    (hn : l.most = some n) (hn2 : n ≤ sizeLine) (hdf : d.params.defaults = []) (S : FnScope N [p] (defScope st)) (R : Room (k + 1) callerA) (hY : ∀ (w : World) (h : Heap), YP w h → (K w.params).In h)
    (F : ∀ (w : World) (mg : Str → Option Value) (fa : Addr) (h : Heap), (K w.params).In h → h.Ns mainGlobals mg → mg d.name = some (.ref fa) →
      ∃ fd : FuncData, (∀ (s : Shared) (u : Value), BindsTo s fd ⟨[u], []⟩ [(p, u)]) ∧ Fun (K w.params) d.name d.name st fa fd ∧ TopOk l.prog w (K w.params) mg k N d.name st fa (ok (K w.params)))
    (good : ∀ (K : PySem.W.Frag) (H : Hp) (a : Addr) (ns : List Int), ns.length ≤ n → SqL K H a (ns.map V.int) → ok K a ns H) :
    PySem.W.WalkO q loose XP YP l.row.toRowW d [] (fun f vs => PySem.call f vs) := by
  refine Att.attach_call hn hdf ?_
  intro w s₀ s mg mb fa o pm cd doc a vs ns G Y _ _ _ name obj iv len gens
  have inS := hY w _ Y
  obtain ⟨fd, bind, fn, T⟩ := F w mg fa _ inS G.T.g name
  exact T.call fn S R inS G.T.g G.T.b G.T.builtins G.T.nolimit gens obj iv (Nat.le_trans len hn2) bind fun H q => good _ H a ns len q
/-! ### repr and str of data -/
def rReprD (K : PySem.W.Frag) : List V → Hp → VK → Prop := fun vs H Q => ∃ (a : Addr) (d : PyData), vs = [.ref a] ∧ Dp K H (.ref a) d ∧ d.showable = true ∧ d.hasDict = false ∧ d.depth ≤ 20 ∧ d.shown.length ≤ sizeLine ∧ Q (.str d.shown) H
theorem cr_reprD {X : Cx} (hg : X.A.guards = some []) (hu : X.A.units + 64 < cLine) : CallR X (.builtin "repr") (rReprD X.K) := by
  intro pins s σ H vs us Q I r h
  obtain ⟨a, d, rfl, dp, h1, h2, h3, h4, q⟩ := h
  obtain ⟨u, rfl, ru⟩ := Vals.one r
  cases (show u = Value.ref a from ru)
  obtain ⟨as, rd⟩ := Dp.reads I d _ _ dp ru
  refine repr_of_reads' rd h1 (fun z => by rw [h2] at z; cases z) hg (by omega) (fun _ _ e => e) (fun h' u tk hk => ?_) h4
  exact ⟨.str d.shown, H, I.kept (t' := tk) hk, ⟨u, rfl⟩, q⟩
theorem cr_strD {X : Cx} (hg : X.A.guards = some []) (hu : X.A.units + 64 < cLine) : CallR X (.type "str") (rReprD X.K) := by
  intro pins s σ H vs us Q I r h
  obtain ⟨a, d, rfl, dp, h1, h2, h3, h4, q⟩ := h
  obtain ⟨u, rfl, ru⟩ := Vals.one r
  cases (show u = Value.ref a from ru)
  obtain ⟨as, rd⟩ := Dp.reads I d _ _ dp ru
  refine str_of_reads rd h1 (fun z => by rw [h2] at z; cases z) hg (by omega) (fun _ _ e => e) (fun h' u tk hk => ?_) h4
  exact ⟨.str d.shown, H, I.kept (t' := tk) hk, ⟨u, rfl⟩, q⟩
theorem kRepr {X : Cx} {K : PySem.W.Frag} (hg : X.A.guards = some []) (hu : X.A.units + 64 < cLine) (hK : X.K = K := by rfl) : CallR X (.builtin "repr") (rReprD K) := hK ▸ cr_reprD hg hu
theorem kStr {X : Cx} {K : PySem.W.Frag} (hg : X.A.guards = some []) (hu : X.A.units + 64 < cLine) (hK : X.K = K := by rfl) : CallR X (.type "str") (rReprD K) := hK ▸ cr_strD hg hu
end Hg

set_option maxHeartbeats 4000000
namespace Hg
open PySem PySem.Spec PyProof.Rows L2
/-! ### texts: by their codes -/
abbrev tx (l : List Nat) : Str := ⟨l.toArray⟩
theorem tx_len (l : List Nat) : (tx l).length = l.length := List.size_toArray ..
theorem tx_inj {l m : List Nat} (h : tx l = tx m) : l = m := by
  have := congrArg (fun s : Str => s.cps.toList) h
  simpa using this
theorem tx_eq {l m : List Nat} : decide (V.str (tx l) = V.str (tx m)) = decide (l = m) := by
  by_cases h : l = m
  · subst h; simp
  · have : V.str (tx l) ≠ V.str (tx m) := fun e => h (tx_inj (V.str.inj e))
    rw [decide_eq_false h, decide_eq_false this]
theorem tx_app (l m : List Nat) : tx l ++ tx m = tx (l ++ m) := by
  show (⟨l.toArray ++ m.toArray⟩ : Str) = _
  rw [List.append_toArray]
/-! ### text * int -/
def rMulS : R2 := fun x y H Q => ∃ (l : List Nat) (k : Nat), x = .str (tx l) ∧ y = .int k ∧ l.length ≤ 1000 ∧ k ≤ 1000 ∧ Q (.str (tx (List.replicate k l).flatten)) H
theorem foldl_app (its : List Nat) : ∀ (m : Nat) (acc : List Nat), (List.foldl (fun x1 x2 => x1 ++ x2) acc.toArray (List.replicate m its.toArray)) = (acc ++ (List.replicate m its).flatten).toArray
  | 0, acc => by simp
  | m + 1, acc => by
    rw [List.replicate_succ, List.foldl_cons, List.append_toArray, foldl_app its m, List.replicate_succ, List.flatten_cons, List.append_assoc]
theorem txMul (l : List Nat) (k : Nat) : Txt.mul (tx l) (k : Int) = tx (List.replicate k l).flatten := by
  unfold Txt.mul
  by_cases h : k = 0
  · subst h; rfl
  · rw [if_neg (by omega)]
    split
    · rename_i c
      rw [Bool.or_eq_true, beq_iff_eq, beq_iff_eq] at c
      rcases c with c | c
      · have : k = 1 := by omega
        subst this
        simp
      · rw [tx_len] at c
        have : l = [] := List.eq_nil_of_length_eq_zero c
        subst this
        simp
    · rw [Int.toNat_natCast]
      have := foldl_app l k []
      rw [List.nil_append] at this
      exact congrArg Str.mk this
theorem op_mulS {X : Cx} : OpR X (binaryOp .Mult) rMulS := by
  intro pins s σ H x y v u Q I rx ry h
  obtain ⟨l, k, rfl, rfl, hl, hk, q⟩ := h
  obtain ⟨t, rfl⟩ := rx
  obtain ⟨t2, rfl⟩ := ry
  refine PySem.SB.mul (mulOk_of 1000 1000 (by rw [tx_len]; exact hl) (by omega) (by omega) (by decide) (by decide)) fun t' tk => ?_
  rw [txMul]
  exact ⟨.str _, H, I.tok _, ⟨_, rfl⟩, q⟩
theorem kMulS {X : Cx} : OpR X (binaryOp .Mult) rMulS := op_mulS
theorem rep1 (c : Nat) (k : Nat) : (List.replicate k [c]).flatten = List.replicate k c := rep_flat c k
/-! ### index, slice, sum, in -/
theorem ixs {K : PySem.W.Frag} {H : Hp} {l : List Nat} {i c : Nat} {Q : VK} (h : l[i]? = some c) (hl : l.length ≤ 100000) (q : Q (.str (tx [c])) H) : rIx K (.str (tx l)) (.int i) H Q :=
  .inr (.inr ⟨tx l, i, c, rfl, rfl, by rw [tx_len, sizeLine_eq]; omega, atI_nat (by simpa using h), q⟩)
theorem kSlS {X : Cx} : SlR X rSlS := sl_str
theorem cutS_tx {l : List Nat} {a b : Nat} : cutS (tx l) (some (a : Int)) (some (b : Int)) = tx ((l.drop a).take (b - a)) := by
  unfold cutS
  rw [HT.sIx_nat, HT.sIx_nat, tx_len]
  show (⟨((l.drop (min a l.length)).take (min b l.length - min a l.length)).toArray⟩ : Str) = _
  congr 2
  by_cases ha : a ≤ l.length
  · rw [Nat.min_eq_left ha]
    by_cases hb : b ≤ l.length
    · rw [Nat.min_eq_left hb]
    · have e : min b l.length = l.length := by omega
      rw [e, List.take_of_length_le (by simp), List.take_of_length_le (by simp; omega)]
  · have e : min a l.length = l.length := by omega
    rw [e, List.drop_length, List.drop_of_length_le (by omega)]
    simp
theorem sl_s {H : Hp} {l : List Nat} {a b : Nat} {Q : VK} (hl : l.length ≤ 100000) (q : Q (.str (tx ((l.drop a).take (b - a)))) H) : rSlS (.str (tx l)) (some (a : Int)) (some (b : Int)) H Q :=
  ⟨tx l, rfl, by rw [tx_len, sizeLine_eq]; omega, by rw [cutS_tx]; exact q⟩
theorem cat_s {K : PySem.W.Frag} {H : Hp} {l m : List Nat} {Q : VK} (hl : l.length + m.length ≤ 100000) (q : Q (.str (tx (l ++ m))) H) : rPlus K (.str (tx l)) (.str (tx m)) H Q :=
  .inr (.inr (.inr ⟨tx l, tx m, rfl, rfl, by rw [tx_len, tx_len, sizeLine_eq]; omega, by rw [tx_app]; exact q⟩))
abbrev sV (ls : List (List Nat)) : List V := ls.map fun l => V.str (tx l)
theorem inV_sV (a : List Nat) : ∀ ls : List (List Nat), inV (.str (tx a)) (sV ls) = decide (a ∈ ls)
  | [] => by simp [inV]
  | l :: ls => by
    have ih := inV_sV a ls
    unfold inV at ih ⊢
    show ((V.str (tx l) :: sV ls).any fun y => eqV y (V.str (tx a))) = _
    rw [List.any_cons, ih]
    have e : eqV (.str (tx l)) (.str (tx a)) = decide (l = a) := by
      show (tx l == tx a) = _
      by_cases h : l = a
      · subst h; simp
      · have : tx l ≠ tx a := fun e => h (tx_inj e)
        rw [decide_eq_false h]
        exact beq_eq_false_iff_ne.mpr this
    rw [e]
    by_cases h1 : l = a
    · subst h1; simp
    · have h2 : ¬ a = l := fun e => h1 e.symm
      simp [h1, h2]
theorem flat_sV (ls : List (List Nat)) : (sV ls).all flatV = true := by
  rw [List.all_eq_true]
  intro x hx
  obtain ⟨l, _, rfl⟩ := List.mem_map.mp hx
  rfl
theorem in_l {K : PySem.W.Frag} {H : Hp} {p : Addr} {a : List Nat} {ls : List (List Nat)} {Q : VK} (h : SqL K H p (sV ls) ∨ SqT K H p (sV ls)) (q : Q (.bl (decide (a ∈ ls))) H) : rIn K false (.str (tx a)) (.ref p) H Q :=
  ⟨p, _, rfl, h, rfl, flat_sV ls, by rw [if_neg Bool.false_ne_true, inV_sV]; exact q⟩
/-! ### find of one sign from a place -/
theorem occ_none_at (s sub : Str) (hi : Nat) : ∀ (l : List Nat) (free : Nat), (∀ i ∈ l, ¬ (i + sub.length ≤ hi ∧ Builtin.Str.subAt s sub i = true)) → (forIn l ((#[] : Array Nat), free) (StrLaws.occBody s sub hi 1)).run.fst = #[]
  | [], free, _ => rfl
  | a :: l, free, h => by
    rw [List.forIn_cons]
    unfold StrLaws.occBody
    rw [if_neg (fun c => h a (List.mem_cons_self ..) ⟨c.1.2, c.2⟩)]
    exact occ_none_at s sub hi l free fun i hi' => h i (List.mem_cons_of_mem _ hi')
theorem occ_full (s sub : Str) (hi : Nat) : ∀ (l : List Nat) (x free : Nat), (forIn l ((#[x] : Array Nat), free) (StrLaws.occBody s sub hi 1)).run.fst = #[x]
  | [], x, free => rfl
  | a :: l, x, free => by
    rw [List.forIn_cons]
    unfold StrLaws.occBody
    rw [if_neg (fun c => absurd c.1.1.1 (by simp))]
    exact occ_full s sub hi l x free
theorem occ_first (s sub : Str) (hi : Nat) : ∀ (l : List Nat) (free : Nat) (k : Nat) (r : List Nat) (pre : List Nat), l = pre ++ k :: r → (∀ i ∈ l, free ≤ i) → (∀ i ∈ pre, ¬ (i + sub.length ≤ hi ∧ Builtin.Str.subAt s sub i = true)) → k + sub.length ≤ hi → Builtin.Str.subAt s sub k = true →
    (forIn l ((#[] : Array Nat), free) (StrLaws.occBody s sub hi 1)).run.fst = #[k] := by
  intro l free k r pre
  induction pre generalizing l free with
  | nil =>
    rintro rfl hf _ h1 h2
    rw [List.nil_append, List.forIn_cons]
    unfold StrLaws.occBody
    rw [if_pos ⟨⟨⟨by simp, hf k (by simp)⟩, h1⟩, h2⟩]
    exact occ_full s sub hi r k _
  | cons a pre ih =>
    rintro rfl hf hp h1 h2
    rw [List.cons_append, List.forIn_cons]
    unfold StrLaws.occBody
    rw [if_neg (fun c => hp a (by simp) ⟨c.1.2, c.2⟩)]
    exact ih _ free rfl (fun i hi => hf i (by rw [List.cons_append]; exact List.mem_cons_of_mem _ hi)) (fun i hi => hp i (by simp [hi])) h1 h2
theorem subAt_tx {l : List Nat} {c i : Nat} : Builtin.Str.subAt (tx l) (tx [c]) i = decide (l[i]? = some c) := by
  unfold Builtin.Str.subAt
  show ((l.toArray.extract i (i + 1)) == #[c]) = _
  have e1 : l.toArray.extract i (i + 1) = ((l.drop i).take 1).toArray := by
    rw [List.extract_toArray]
    congr 1
    rw [List.extract_eq_take_drop]
    congr 1
    omega
  rw [e1]
  have e2 : (((l.drop i).take 1).toArray == #[c]) = decide ((l.drop i).take 1 = [c]) := by
    by_cases h : (l.drop i).take 1 = [c]
    · rw [h]; simp
    · rw [decide_eq_false h]
      refine beq_eq_false_iff_ne.mpr fun e => h ?_
      have := congrArg Array.toList e
      simpa using this
  rw [e2]
  congr 1
  apply propext
  by_cases hi : i < l.length
  · rw [List.drop_eq_getElem_cons hi, List.getElem?_eq_getElem hi, List.take_succ_cons, List.take_zero]
    constructor
    · intro h
      injection h with h
      rw [h]
    · intro h
      rw [Option.some.inj h]
  · rw [List.drop_of_length_le (by omega), List.getElem?_eq_none (by omega)]
    simp
theorem find_tx {l pre r : List Nat} {c i : Nat} (hi : i ≤ l.length) (h : l.drop i = pre ++ c :: r) (hp : c ∉ pre) : Txt.find3 (tx l) (tx [c]) (i : Int) = ((i + pre.length : Nat) : Int) := by
  have hl : l.length - i = pre.length + (r.length + 1) := by
    have := congrArg List.length h
    rw [List.length_drop, List.length_append, List.length_cons] at this
    exact this
  have at_ : ∀ j, l[i + j]? = (pre ++ c :: r)[j]? := by
    intro j
    rw [← h, List.getElem?_drop]
  have occ : Builtin.Str.occurrences (tx l) (tx [c]) i (tx l).length 1 = [i + pre.length] := by
    rw [StrLaws.occ_eq, tx_len]
    have e : List.range' i (l.length + 1 - i) = List.range' i pre.length ++ (i + pre.length) :: List.range' (i + pre.length + 1) (r.length + 1) := by
      have a1 := List.range'_append (s := i) (m := pre.length) (n := r.length + 2) (step := 1)
      rw [show l.length + 1 - i = pre.length + (r.length + 2) by omega, ← a1, Nat.one_mul, List.range'_succ]
    have key := occ_first (tx l) (tx [c]) l.length _ i (i + pre.length) _ _ e (fun j hj => by have := List.mem_range'.mp hj; omega) (fun j hj z => ?_) ?_ ?_
    · rw [key]
    · obtain ⟨k, hk, rfl⟩ := List.mem_range'.mp hj
      have z2 := z.2
      rw [subAt_tx, decide_eq_true_eq, Nat.one_mul, at_ k, List.getElem?_append_left hk] at z2
      exact hp (List.mem_of_getElem? z2)
    · rw [tx_len]
      show i + pre.length + 1 ≤ l.length
      omega
    · rw [subAt_tx, decide_eq_true_eq, at_ pre.length, List.getElem?_append_right (Nat.le_refl _), Nat.sub_self]
      rfl
  unfold Txt.find3
  have ef : fromIndex (tx l).length (i : Int) = i := by
    unfold fromIndex
    rw [if_neg (by omega)]
    omega
  rw [ef, occ]
end Hg

set_option maxHeartbeats 4000000
namespace Hg
open PySem PySem.Spec PyProof.Rows L2
/-! ### a comprehension whose elements are new objects, and which may draw -/
section
variable {J : It} {n : Nat} {G : Hp → Prop} {Y : Nat → Hp → V → Hp → Prop}
theorem lc_grow (w : Walk J n G Y) {g : TG} {tt : TT} {te : TE} {vs : List Nat} {σ : L2.St} {G1 H1 : Hp} {D s q : Addr} {B c : Nat} {Qd : Hp → Prop} (hO : Ov s q B G1 H1) (hD : H1 D = none) (P : Nat → List V → Hp → Prop) (hP : P 0 [] G1)
    (hk : ∀ i acc G G', (∀ a ys, G a = some (.tup ys) → G' a = some (.tup ys)) → P i acc G → P i acc G')
    (hl : ∀ i acc G', i ≤ n → P i acc G' → acc.length ≤ i) (hn : n ≤ 1000000) (hG : ∀ i H G', i ≤ n → Ex G1 G' → Ov s q (B + c * i) G' H → G H)
    (hs : ∀ i x Hc Hy acc G', i < n → Ex G1 G' → P i acc G' → Ov s q (B + c * i) G' Hc → Y i Hc x Hy → ∀ (Qe : VK) (Qn : Hp → Prop), (∀ y H4 G2, Ex G' G2 → P (i + 1) (acc ++ [y]) G2 → Ov s q (B + c * (i + 1)) G2 H4 → Qe y H4) →
      (∀ H3 G2, Ex G' G2 → P (i + 1) acc G2 → Ov s q (B + c * (i + 1)) G2 H3 → Qn H3) →
      g x (wipe σ vs) Hy fun σ2 H2 => wipe σ2 vs = wipe σ vs ∧ tt σ2 H2 fun b H3 => if b = true then te σ2 H3 Qe else Qn H3)
    (hd : ∀ H acc G', Ex G1 G' → P n acc G' → G' D = some (.lst acc) → Ov s q (B + c * n) G' H → Qd H) :
    ∃ W : Nat → Nat → Hp → Prop, (∃ m, W 0 m (upd H1 D (.lst []))) ∧ ∀ i m H, W i m H →
      (J.stop i H ∧ Qd H) ∨ (J.go i H ∧ ∃ Nx : Hp → Prop, (∀ H', Nx H' → ∃ m', m' < m ∧ W (i + 1) m' H') ∧ ∀ x H', J.yld i H x H' → g x (wipe σ vs) H' fun σ2 H2 => wipe σ2 vs = wipe σ vs ∧ tt σ2 H2 fun b H3 =>
        if b = true then te σ2 H3 fun y H4 => ∃ acc, H4 D = some (.lst acc) ∧ acc.length < sizeLine ∧ Nx (upd H4 D (.lst (acc ++ [y]))) else Nx H3) := by
  have g1 : G1 D = none := hO.sub.free hD
  have e1 := Ex.new (o := .lst []) g1
  refine lc_it w (fun i H => ∃ acc G', Ex G1 G' ∧ P i acc G' ∧ G' D = some (.lst acc) ∧ Ov s q (B + c * i) G' H) ⟨[], _, e1, hk _ _ _ _ (fun a ys h => e1 _ _ h) hP, upd_same, hO.new hD⟩ (fun i H hi p => ?_) (fun i x Hc Hy hi p y => ?_) (fun H p => ?_)
  · obtain ⟨acc, G', ex, _, _, o⟩ := p
    exact hG i H G' hi ex o
  · obtain ⟨acc, G', ex, pa, hA, o⟩ := p
    refine hs i x Hc Hy acc G' hi ex pa o y _ _ (fun y H4 G2 e2 pa' o' => ?_) (fun H3 G2 e2 pa' o' => ⟨acc, G2, ex.trans e2, pa', e2 _ _ hA, o'⟩)
    have hA2 := e2 _ _ hA
    refine ⟨acc, o'.sub _ _ hA2, ?_, acc ++ [y], _, (ex.trans e2).up g1, hk _ _ _ _ (fun a ys h => tk_put hA2 a ys h) pa', upd_same, o'.put hA2⟩
    have := hl i acc G' (Nat.le_of_lt hi) pa
    rw [sizeLine_eq]
    omega
  · obtain ⟨acc, G', ex, pa, hA, o⟩ := p
    exact hd H acc G' ex pa hA o
end
/-! ### two ways that meet: give P as a metavariable; the first way to be walked must end at fresh names -/
theorem joinA {α : Type} {P : α → Hp → Prop} {A : Prop} (C : α → Hp → Prop) (main : (∀ a H, C a H → P a H) → A) (tail : ∀ a H, C a H → P a H) : A := main tail
theorem joinA3 {α β γ : Type} {P : α → β → γ → Hp → Prop} {A : Prop} (C : α → β → γ → Hp → Prop) (main : (∀ a b c H, C a b c H → P a b c H) → A) (tail : ∀ a b c H, C a b c H → P a b c H) : A := main tail
theorem cut_take {xs : List V} {n : Nat} : cutV xs none (some (n : Int)) = xs.take n := by
  unfold cutV
  rw [HT.sIx_none, HT.sIx_nat, List.drop_zero, Nat.sub_zero]
  by_cases h : n ≤ xs.length
  · rw [Nat.min_eq_left h]
  · rw [Nat.min_eq_right (by omega), List.take_length, List.take_of_length_le (by omega)]
end Hg

set_option maxHeartbeats 4000000
namespace Hg
open PySem PySem.Spec PyProof.Rows L2
/-! ### an error of an own class, made and kept as a value -/
section
variable {X : Cx}
/-- C(e, ..) or C(), kept -/
def tMkV (C : Addr) (sp : Sp) (ta : TA) : TE := fun σ H Q => ta σ H fun vs H1 => vs.length ≤ 1000 ∧ ∀ a, H1 a = none → sp (.ref a :: vs) (upd H1 a (exo a C none)) (fun v H2 => v = .non ∧ Q (.ref a) H2) (fun _ _ _ => False)
theorem pe_mkV {x : Str} {C fI : Addr} {k : Nat} {fd : FuncData} {ps : List Str} {sp : Sp} {p pos : Pos} {e : Expr} {es : List Expr} {ta : TA} (T : OexC X.K C) (iC : PySem.W.findIn X.K (.ref C) "__init__" = some (some (.ref fI)))
    (tI : PySem.W.typeIn X.K (.ref fI) = some (.type "function")) (F1 : FnOk X.prog X.w X.K X.mg X.base CX0 k fI fd ps sp) (hr : Room (k + 1) X.A) (hb : Binds X.K fd ps [])
    (hg : Gl X x) (hm : X.mg x = some (.ref C)) (ha : PA X (e :: es) ta) (hdb : (x == ("__debug__" : Str)) = false := by decide)
    (he : starEach (e :: es) X.env = (false, eval e X.env) :: starEach es X.env := by rfl) (hpl : (backTo pos (starEach es X.env)).any (·.1) = false := by rfl) : PE X (.Call (.Name x p) (e :: es) [] pos) (tMkV C sp ta) := by
  refine ⟨fun pins s σ H Q I h => ?_⟩
  obtain ⟨nm, q, N, bs, bm, sn, sub, ab, col, dd, k0, k1, k2, k3, k5, hC, hbm⟩ := T.cls
  refine wpAny_Call_Name_kw (ld_glob I hg hm ?_ hdb)
  refine PySem.W.callWith_K (h₀ := X.base) I.ok.mod.kin T.kC (thn (ha.run pos pins s σ H _ I h) fun us s1 ⟨vs, H1, I1, r1, hz, q1⟩ => ⟨I1.kIn, ?_⟩) he hpl
  show wpAny _ _ (call (.ref C) us) _ _ _
  obtain ⟨hp, g, dr, tk, os⟩ := s1
  have hsz : hp.objs.size ≤ hp.objs.size + 1 := Nat.le_succ _
  have hn : H1 (hp.objs.size + 1) = none := I1.hok.fresh hsz
  have hq := q1 (hp.objs.size + 1) hn
  have kk : ∀ b o, hp.get? b = some o → ((hp.push (PySem.W.kdv_tup us)).push (PySem.HandSPX.excO C hp.objs.size)).get? b = some o := fun b o e => Heap.get?_push_of_some _ (Heap.get?_push_of_some _ e)
  have hget : ((hp.push (PySem.W.kdv_tup us)).push (PySem.HandSPX.excO C hp.objs.size)).get? (hp.objs.size + 1) = some (PySem.HandSPX.excO C hp.objs.size) := by heap_get
  have I2 : Inv X pins σ (upd H1 (hp.objs.size + 1) (exo (hp.objs.size + 1) C none)) ⟨(hp.push (PySem.W.kdv_tup us)).push (PySem.HandSPX.excO C hp.objs.size), g, dr, tk, os⟩ :=
    I1.laid (t' := tk) (a := hp.objs.size + 1) (o := exo (hp.objs.size + 1) C none) (h' := (hp.push (PySem.W.kdv_tup us)).push (PySem.HandSPX.excO C hp.objs.size)) kk hsz (exo_ok hget)
  have r2 : Vals (V.ref (hp.objs.size + 1) :: vs) (Value.ref (hp.objs.size + 1) :: us) := .cons (show L2.RelV (V.ref (hp.objs.size + 1)) (Value.ref (hp.objs.size + 1)) from rfl) r1
  have hl : (Value.ref (hp.objs.size + 1) :: us ++ []).length = ps.length := by
    have e := r2.length
    rw [F1.len _ _ _ _ hq] at e
    rw [List.append_nil]
    exact e.symm
  have hbb := hb _ (Value.ref (hp.objs.size + 1) :: us) I2.kIn hl
  rw [List.append_nil] at hbb
  have hus : us.length ≤ sizeLine := by
    rw [← Paired.length r1, sizeLine_eq]
    omega
  refine wpAny_call (PySem.HandSPX.call_own F.excBase_ValueError (fun Y => PySem.HandSPX.refsVE_contains Y bm hbm) (I1.kIn _ _ hC) (PySem.W.looks_findIn I1.kIn iC) (fun self => PySem.W.bind_fn I1.kIn self tI) hus
    (codeAny_mono (F1.run _ X.stack _ _ ⟨Value.ref (hp.objs.size + 1) :: us, []⟩ (Value.ref (hp.objs.size + 1) :: us) _ _ (fun _ _ _ => False) (hr.make C us []) (I2.env0.make C us []) hbb r2 hq) fun r s' hq' => ?_))
  match r, hq' with
  | .error er, z => exact False.elim z
  | .ok (.ret u), z =>
    obtain ⟨v, H2, os2, bare2, un2, hok2, rv, ev, q2⟩ := z
    subst ev
    exact ⟨rv, .ref (hp.objs.size + 1), H2, I2.call' (ch := []) os2 un2 hok2 bare2 (fun b z => absurd z (by simp)), rfl, q2⟩
  | .ok .next, z => exact False.elim z
  | .ok .brk, z => exact False.elim z
  | .ok .cont, z => exact False.elim z
theorem pe_mkV0 {x : Str} {C fI : Addr} {k : Nat} {fd : FuncData} {ps : List Str} {sp : Sp} {p pos : Pos} (T : OexC X.K C) (iC : PySem.W.findIn X.K (.ref C) "__init__" = some (some (.ref fI)))
    (tI : PySem.W.typeIn X.K (.ref fI) = some (.type "function")) (F1 : FnOk X.prog X.w X.K X.mg X.base CX0 k fI fd ps sp) (hr : Room (k + 1) X.A) (hb : Binds X.K fd ps [])
    (hg : Gl X x) (hm : X.mg x = some (.ref C)) (hdb : (x == ("__debug__" : Str)) = false := by decide) : PE X (.Call (.Name x p) [] [] pos) (tMkV C sp tNil) := by
  refine ⟨fun pins s σ H Q I h => ?_⟩
  obtain ⟨nm, q, N, bs, bm, sn, sub, ab, col, dd, k0, k1, k2, k3, k5, hC, hbm⟩ := T.cls
  refine wpAny_Call_Name_kw (ld_glob I hg hm ?_ hdb)
  refine PySem.W.callWith_K0 I.kIn T.kC ?_
  obtain ⟨hp, g, dr, tk, os⟩ := s
  have fr : H (hp.objs.size + 1) = none := I.hok.fresh (Nat.le_succ _)
  obtain ⟨_, h⟩ := h
  have hq := h _ fr
  have kk : ∀ b o, hp.get? b = some o → ((hp.push (PySem.W.kdv_tup [])).push (PySem.HandSPX.excO C hp.objs.size)).get? b = some o :=
    fun b o e => Heap.get?_push_of_some _ (Heap.get?_push_of_some _ e)
  have hget : ((hp.push (PySem.W.kdv_tup [])).push (PySem.HandSPX.excO C hp.objs.size)).get? (hp.objs.size + 1) = some (PySem.HandSPX.excO C hp.objs.size) := by heap_get
  have I2 := I.laid (t' := tk) (a := hp.objs.size + 1) (o := exo (hp.objs.size + 1) C none) kk (Nat.le_succ _) (exo_ok hget)
  have hl : ([Value.ref (hp.objs.size + 1)] ++ ([] : List Value)).length = ps.length := (F1.len _ _ _ _ hq)
  have r1 : Vals [V.ref (hp.objs.size + 1)] ([Value.ref (hp.objs.size + 1)] ++ []) := .cons (show L2.RelV (V.ref (hp.objs.size + 1)) (Value.ref (hp.objs.size + 1)) from rfl) .nil
  have run := F1.run _ X.stack _ _ ⟨[Value.ref (hp.objs.size + 1)], []⟩ _ _ _ (fun _ _ _ => False) (hr.make C [] []) (I2.env0.make C [] []) (hb _ [Value.ref (hp.objs.size + 1)] I2.kIn hl) r1 hq
  refine wpAny_call (PySem.HandSPX.call_own F.excBase_ValueError (fun Y => PySem.HandSPX.refsVE_contains Y bm hbm) (I.kIn _ _ hC) (PySem.W.looks_findIn I.kIn iC) (fun self => PySem.W.bind_fn I.kIn self tI) (by simp) (codeAny_mono run fun r s' z => ?_))
  match r, z with
  | .error er, z => exact False.elim z
  | .ok (.ret u), z =>
    obtain ⟨v, H2, os2, bare2, un2, hok2, rv, ev, q2⟩ := z
    subst ev
    exact ⟨rv, .ref (hp.objs.size + 1), H2, I2.call' (ch := []) os2 un2 hok2 bare2 (fun b z => absurd z (by simp)), rfl, q2⟩
  | .ok .next, z => exact False.elim z
  | .ok .brk, z => exact False.elim z
  | .ok .cont, z => exact False.elim z
/-- x.f, x an error that is kept -/
def tXo (K : PySem.W.Frag) (f : Str) (te : TE) : TE := fun σ H Q => te σ H fun x H1 => ∃ (a C d : Addr) (fs : List (Str × V)) (v : V), x = .ref a ∧ XfC K C ∧ PySem.W.findIn K (.ref C) f = some none ∧ H1 a = some (exo a C (some d)) ∧ H1 d = some (exd d fs) ∧ fs.lookup f = some v ∧ Q v H1
theorem pe_xo {e : Expr} {te : TE} {pos : Pos} {n : Str} (he : PE X e te) (hb : attributeBase e n X.env (eval e X.env) = eval e X.env := by rfl) : PE X (.Attribute e n pos) (tXo X.K n te) := by
  refine ⟨fun pins s σ H Q I h => ?_⟩
  refine attr_of hb (thn (he.run pins s σ H _ I h) fun u s1 hh => ?_)
  obtain ⟨x, H1, I1, rx, a, C, d, fs, v, ex, T, hno, ea, ed, l, q⟩ := hh
  subst ex
  obtain rfl : u = Value.ref a := rx
  obtain ⟨t0, hoe⟩ := exo_at I1.hok ea
  obtain ⟨mA, hns, hr⟩ := exd_at I1.hok ed
  obtain ⟨od, ho, hl⟩ := lookIn_ns hns
  obtain ⟨u, hu, ru⟩ := RelO.some_of (v := v) (o := mA n) (by rw [← l]; exact hr n)
  have J : PySem.W.InstAt s1.heap a _ C (some od) := ⟨hoe, rfl, rfl, ho⟩
  exact HandSPX.exc_get I1.kIn J T.ga T.gg T.exC (PySem.W.findObj_own T.hdC hno rfl (by rw [hl, hu])) (handed_of ru) ⟨v, H1, I1.tok _, ru, q⟩
/-- isinstance(x, c), x an error that is kept -/
def rIsX (K : PySem.W.Frag) : List V → Hp → VK → Prop := fun xs H Q => ∃ (a C : Addr) (d : Option Addr) (c : V) (u : Value) (b : Bool), xs = [.ref a, c] ∧ ExcC K C ∧ H a = some (exo a C d) ∧ (∀ dx, d = some dx → ∃ fs, H dx = some (exd dx fs)) ∧ ClsV c u ∧ PySem.W.kitOne K (.ref C) u = some b ∧ Q (.bl b) H
theorem call_isX : CallR X (.builtin "isinstance") (rIsX X.K) := by
  intro pins s σ H xs us Q I r h
  obtain ⟨a, C, d, c, u, b, rfl, T, ea, ed, k, e, q⟩ := h
  obtain ⟨u1, u2, rfl, r1, r2⟩ := vals2 r
  have e2 := k.eq r2
  subst e2
  cases (show u1 = Value.ref a from r1)
  obtain ⟨t0, hoe⟩ := exo_at I.hok ea
  have J : ∃ od, PySem.W.InstAt s.heap a ({ cls := .ref C, dict := d, data := .fields #[.ref t0, .none, .none, .none, .bool false, .none] } : Obj) C od := by
    cases d with
    | none => exact ⟨none, hoe, rfl, rfl, trivial⟩
    | some dx =>
      obtain ⟨fs, ed⟩ := ed dx rfl
      obtain ⟨mA, ⟨o, es, ep, ho, hr⟩, r⟩ := exd_at I.hok ed
      exact ⟨some o, hoe, rfl, rfl, ho⟩
  obtain ⟨od, J⟩ := J
  have hcl : (PySem.W.clsIn X.K C).isSome = true := by
    obtain ⟨cd, hc, _⟩ := PySem.W.any_some T.hd
    rw [hc]; rfl
  exact PySem.W.kia_one (PySem.W.kitx_exc (x := a) (od := od) hcl T.hg T.hk T.hs T.ha T.hn T.ht T.hm) I.kIn J e (fun z => nomatch z) fun tk => ⟨.bl b, H, I.tok tk, rfl, q⟩
end
end Hg

set_option maxHeartbeats 4000000
namespace Hg
open PySem PySem.Spec PyProof.Rows L2
/-! ### what frozen makes of data: tuples all through -/
mutual
def fz : PyData → PyData
  | .list ds => .tuple (fzAll ds)
  | .tuple ds => .tuple (fzAll ds)
  | .none => .none
  | .bool b => .bool b
  | .int i => .int i
  | .str x => .str x
  | .dict kvs => .dict kvs
def fzAll : List PyData → List PyData
  | [] => []
  | d :: ds => fz d :: fzAll ds
end
theorem fzAll_map : ∀ ds : List PyData, fzAll ds = ds.map fz
  | [] => rfl
  | d :: ds => by rw [fzAll, fzAll_map ds, List.map_cons]
mutual
def wk : PyData → Nat
  | .list ds => 2 + wkAll ds
  | .tuple ds => 2 + wkAll ds
  | .none => 1
  | .bool _ => 1
  | .int _ => 1
  | .str _ => 1
  | .dict _ => 1
def wkAll : List PyData → Nat
  | [] => 0
  | d :: ds => wk d + wkAll ds
end

mutual
inductive Tp (H : Hp) : V → PyData → Prop
  | non : Tp H .non .none
  | bl (b : Bool) : Tp H (.bl b) (.bool b)
  | int (i : Int) : Tp H (.int i) (.int i)
  | str (x : Str) : Tp H (.str x) (.str x)
  | tup {a : Addr} {xs : List V} {ds : List PyData} : H a = some (.tup xs) → TpAll H xs ds → Tp H (.ref a) (.tuple ds)
inductive TpAll (H : Hp) : List V → List PyData → Prop
  | nil : TpAll H [] []
  | cons {v : V} {vs : List V} {d : PyData} {ds : List PyData} : Tp H v d → TpAll H vs ds → TpAll H (v :: vs) (d :: ds)
end
abbrev Keeps (H H' : Hp) : Prop := ∀ a xs, H a = some (.tup xs) → H' a = some (.tup xs)
mutual
theorem Tp.mono {H H' : Hp} (k : Keeps H H') : ∀ (d : PyData) (v : V), Tp H v d → Tp H' v d
  | .none, _, h => by cases h; exact .non
  | .bool _, _, h => by cases h; exact .bl _
  | .int _, _, h => by cases h; exact .int _
  | .str _, _, h => by cases h; exact .str _
  | .tuple ds, _, h => by cases h with | tup e t => exact .tup (k _ _ e) (TpAll.mono k ds _ t)
  | .list _, _, h => by cases h
  | .dict _, _, h => by cases h
theorem TpAll.mono {H H' : Hp} (k : Keeps H H') : ∀ (ds : List PyData) (vs : List V), TpAll H vs ds → TpAll H' vs ds
  | [], _, h => by cases h; exact .nil
  | d :: ds, _, h => by cases h with | cons a t => exact .cons (Tp.mono k d _ a) (TpAll.mono k ds _ t)
end
mutual
theorem Tp.dp {K : PySem.W.Frag} {H : Hp} : ∀ (d : PyData) (v : V), Tp H v d → Dp K H v d
  | .none, _, h => by cases h; exact .non
  | .bool _, _, h => by cases h; exact .bl _
  | .int _, _, h => by cases h; exact .int _
  | .str _, _, h => by cases h; exact .str _
  | .tuple ds, _, h => by cases h with | tup e t => exact .tup (SqT.of e) (TpAll.dp ds _ t)
  | .list _, _, h => by cases h
  | .dict _, _, h => by cases h
theorem TpAll.dp {K : PySem.W.Frag} {H : Hp} : ∀ (ds : List PyData) (vs : List V), TpAll H vs ds → DpAll K H vs ds
  | [], _, h => by cases h; exact .nil
  | d :: ds, _, h => by cases h with | cons a t => exact .cons (Tp.dp d _ a) (TpAll.dp ds _ t)
end
theorem TpAll.snoc {H : Hp} {v : V} {d : PyData} (h : Tp H v d) : ∀ {vs : List V} {ds : List PyData}, TpAll H vs ds → TpAll H (vs ++ [v]) (ds ++ [d])
  | [], [], _ => .cons h .nil
  | v :: vs, d :: ds, t => by cases t with | cons a t => exact .cons a (TpAll.snoc h t)
theorem dpAll_len {K : PySem.W.Frag} {H : Hp} : ∀ {vs : List V} {ds : List PyData}, DpAll K H vs ds → vs.length = ds.length
  | [], [], _ => rfl
  | _ :: _, _ :: _, h => by cases h with | cons a t => rw [List.length_cons, List.length_cons, dpAll_len t]
theorem dpAll_at {K : PySem.W.Frag} {H : Hp} : ∀ {vs : List V} {ds : List PyData} {i : Nat} {d : PyData}, DpAll K H vs ds → ds[i]? = some d → ∃ v, vs[i]? = some v ∧ Dp K H v d
  | _ :: _, _ :: _, 0, d, h, e => by cases h with | cons a t => cases e; exact ⟨_, rfl, a⟩
  | _ :: vs, _ :: ds, i + 1, d, h, e => by cases h with | cons a t => exact dpAll_at (i := i) t e
  | [], [], i, d, h, e => by simp at e
/-- the kind of data -/
def kd : PyData → String
  | .none => "NoneType"
  | .bool _ => "bool"
  | .int _ => "int"
  | .str _ => "str"
  | .tuple _ => "tuple"
  | .list _ => "list"
  | .dict _ => "dict"
theorem dp_ty {K : PySem.W.Frag} {H : Hp} {v : V} {d : PyData} (h : Dp K H v d) : kd d ∈ kinds ∧ TyX K H v (.type (kd d)) := by
  cases h with
  | non => exact ⟨by simp [kinds, kd], .base .non⟩
  | bl b => exact ⟨by simp [kinds, kd], .base (.bl b)⟩
  | int i => exact ⟨by simp [kinds, kd], .base (.int i)⟩
  | str x => exact ⟨by simp [kinds, kd], .base (.str x)⟩
  | lst s _ =>
    refine ⟨by simp [kinds, kd], ?_⟩
    rcases s with (e | ⟨o, e⟩) | ⟨o, its, n, e1, e2, _⟩
    · exact .base (.lst e)
    · exact .base (.frz e)
    · exact .kList e1 e2
  | tup s _ =>
    refine ⟨by simp [kinds, kd], ?_⟩
    rcases s with (e | ⟨o, e⟩) | ⟨o, its, n, e1, e2, _⟩
    · exact .base (.tup e)
    · exact .fTuple e
    · exact .kTuple e1 e2
def isSq : PyData → Bool
  | .tuple _ => true
  | .list _ => true
  | _ => false
theorem kit_lst : ∀ n ∈ kinds, kitB n "list" = some (n == "list") := by
  intro n h
  simp only [kinds, List.mem_cons, List.not_mem_nil, or_false] at h
  rcases h with h | h | h | h | h | h <;> subst h <;> decide +kernel
theorem kit_tl {K : PySem.W.Frag} {d : PyData} (h : kd d ∈ kinds) : PySem.W.kitAny K (.type (kd d)) [.type "tuple", .type "list"] = some (isSq d) := by
  have e : isSq d = (kd d == "tuple" || kd d == "list") := by cases d <;> rfl
  rw [e]
  refine kitAny_cons (kit_ty (kit_tup _ h)) (fun h1 => ?_) (fun h1 => by rw [h1]; rfl)
  rw [h1, Bool.false_or]
  refine kitAny_cons (kit_ty (kit_lst _ h)) (fun h2 => ?_) (fun h2 => h2)
  rw [h2]
  exact kitAny_nil
theorem kIsiT {X : Cx} {K : PySem.W.Frag} (hK : X.K = K := by rfl) : CallR X (.builtin "isinstance") (rIsiT K) := hK ▸ call_isiT
/-- isinstance(x, (tuple, list)) -/
theorem isi_tl {K : PySem.W.Frag} {H : Hp} {v : V} {d : PyData} {Q : VK} (h : Dp K H v d) {tp : Addr} (e : H tp = some (.tup [.ty "tuple", .ty "list"])) (q : Q (.bl (isSq d)) H) : rIsiT K [v, .ref tp] H Q := by
  obtain ⟨h1, h2⟩ := dp_ty h
  exact ⟨v, tp, _, _, _, _, rfl, e, .cons (.ty _) (.cons (.ty _) .nil), h2, kit_tl h1, q⟩
theorem dp_atom {K : PySem.W.Frag} {H H' : Hp} {v : V} {d : PyData} (h : Dp K H v d) (n : isSq d = false) : Tp H' v (fz d) := by
  cases h with
  | non => exact .non
  | bl b => exact .bl b
  | int i => exact .int i
  | str x => exact .str x
  | lst _ _ => cases n
  | tup _ _ => cases n
/-- a sequence of data -/
theorem dp_seq {K : PySem.W.Frag} {H : Hp} {v : V} {d : PyData} (h : Dp K H v d) (n : isSq d = true) : ∃ (k : Bool) (a : Addr) (xs : List V) (ds : List PyData), v = .ref a ∧ SqK K k H a xs ∧ DpAll K H xs ds ∧ fz d = .tuple (ds.map fz) ∧ wk d = 2 + wkAll ds := by
  cases h with
  | non => cases n
  | bl b => cases n
  | int i => cases n
  | str x => cases n
  | lst s t => exact ⟨false, _, _, _, rfl, s, t, by rw [fz, fzAll_map], by rw [wk]⟩
  | tup s t => exact ⟨true, _, _, _, rfl, s, t, by rw [fz, fzAll_map], by rw [wk]⟩
mutual
theorem dp_ex {K : PySem.W.Frag} {H H' : Hp} (e : Ex H H') : ∀ (d : PyData) (v : V), Dp K H v d → Dp K H' v d
  | .none, _, h => by cases h; exact .non
  | .bool _, _, h => by cases h; exact .bl _
  | .int _, _, h => by cases h; exact .int _
  | .str _, _, h => by cases h; exact .str _
  | .tuple ds, _, h => by cases h with | tup s t => exact .tup (e.seq (k := true) s) (dpAll_ex e ds _ t)
  | .list ds, _, h => by cases h with | lst s t => exact .lst (e.seq (k := false) s) (dpAll_ex e ds _ t)
  | .dict _, _, h => by cases h
theorem dpAll_ex {K : PySem.W.Frag} {H H' : Hp} (e : Ex H H') : ∀ (ds : List PyData) (vs : List V), DpAll K H vs ds → DpAll K H' vs ds
  | [], _, h => by cases h; exact .nil
  | d :: ds, _, h => by cases h with | cons a t => exact .cons (dp_ex e d _ a) (dpAll_ex e ds _ t)
end
theorem wkAll_len : ∀ ds : List PyData, ds.length ≤ wkAll ds
  | [] => Nat.le_refl _
  | d :: ds => by
    have h1 : 1 ≤ wk d := by cases d <;> simp only [wk] <;> omega
    have h2 := wkAll_len ds
    rw [wkAll, List.length_cons]
    omega
theorem wk_at : ∀ {ds : List PyData} {i : Nat} {d : PyData}, ds[i]? = some d → wkAll (ds.drop i) = wk d + wkAll (ds.drop (i + 1)) ∧ wk d ≤ wkAll ds
  | [], i, d, h => by simp at h
  | e :: ds, 0, d, h => by cases h; exact ⟨rfl, by rw [wkAll]; omega⟩
  | e :: ds, i + 1, d, h => by
    obtain ⟨a, b⟩ := wk_at (ds := ds) (i := i) (by simpa using h)
    exact ⟨a, by rw [wkAll]; omega⟩
/-! ### a stack of what is under way -/
structure Frm1 where
  p : Addr
  a : Addr
  b : Addr
  kk : Bool
  xs : List V
  us : List V
  ds : List PyData
structure FOk (K : PySem.W.Frag) (H0 H : Hp) (f : Frm1) : Prop where
  pair : H f.p = some (.tup [.ref f.a, .ref f.b])
  src : SqK K f.kk H0 f.a f.xs
  dat : DpAll K H0 f.xs f.ds
  blt : H f.b = some (.lst f.us)
  new : H0 f.b = none
  ok : TpAll H f.us ((f.ds.take f.us.length).map fz)
  le : f.us.length ≤ f.ds.length
  sz : wkAll f.ds ≤ 100000
theorem FOk.ext {K : PySem.W.Frag} {H0 H H' : Hp} {f : Frm1} (x : FOk K H0 H f) (e : Ex H H') : FOk K H0 H' f :=
  ⟨e _ _ x.pair, x.src, x.dat, e _ _ x.blt, x.new, TpAll.mono (fun _ _ h => e _ _ h) _ _ x.ok, x.le, x.sz⟩
theorem FOk.put {K : PySem.W.Frag} {H0 H : Hp} {f : Frm1} (x : FOk K H0 H f) {c : Addr} {ys : List V} {o : HO} (hc : H c = some (.lst ys)) (n : c ≠ f.b) : FOk K H0 (upd H c o) f :=
  ⟨tk_put hc _ _ x.pair, x.src, x.dat, (upd_ne (Ne.symm n)).trans x.blt, x.new, TpAll.mono (tk_put hc) _ _ x.ok, x.le, x.sz⟩
theorem FOk.more {K : PySem.W.Frag} {H0 H : Hp} {f : Frm1} (x : FOk K H0 H f) {v : V} {d : PyData} (hd : f.ds[f.us.length]? = some d) (hv : Tp H v (fz d)) : FOk K H0 (upd H f.b (.lst (f.us ++ [v]))) { f with us := f.us ++ [v] } := by
  refine ⟨tk_put x.blt _ _ x.pair, x.src, x.dat, upd_same, x.new, ?_, ?_, x.sz⟩
  · show TpAll _ (f.us ++ [v]) ((f.ds.take (f.us ++ [v]).length).map fz)
    rw [List.length_append, List.length_singleton, List.take_succ, hd, Option.toList_some, List.map_append]
    exact (TpAll.mono (tk_put x.blt) _ _ x.ok).snoc (Tp.mono (tk_put x.blt) _ _ hv)
  · show (f.us ++ [v]).length ≤ f.ds.length
    have := (List.getElem?_eq_some_iff.mp hd).1
    rw [List.length_append, List.length_singleton]
    omega
inductive Link : List Frm1 → PyData → Prop
  | one {f : Frm1} {D : PyData} : fz D = .tuple (f.ds.map fz) → Link [f] D
  | cons {g f : Frm1} {r : List Frm1} {dg D : PyData} : f.ds[f.us.length]? = some dg → fz dg = .tuple (g.ds.map fz) → Link (f :: r) D → Link (g :: f :: r) D
theorem Link.top {g g' : Frm1} {r : List Frm1} {D : PyData} (h : Link (g :: r) D) (e : g'.ds = g.ds) : Link (g' :: r) D := by
  cases h with
  | one h => exact .one (by rw [e]; exact h)
  | cons h1 h2 h3 => exact .cons h1 (by rw [e]; exact h2) h3
def remS : List Frm1 → Nat
  | [] => 0
  | f :: r => 1 + wkAll (f.ds.drop (f.us.length + 1)) + remS r
def rem : List Frm1 → Nat
  | [] => 0
  | g :: r => 1 + wkAll (g.ds.drop g.us.length) + remS r
theorem remS_len : ∀ r : List Frm1, r.length ≤ remS r
  | [] => Nat.le_refl _
  | f :: r => by have := remS_len r; rw [remS, List.length_cons]; omega
theorem rem_len (fs : List Frm1) : fs.length ≤ rem fs := by
  cases fs with
  | nil => exact Nat.le_refl _
  | cons g r => have := remS_len r; rw [rem, List.length_cons]; omega
structure Stk (K : PySem.W.Frag) (H0 H : Hp) (S : Addr) (fs : List Frm1) (D : PyData) : Prop where
  all : ∀ f ∈ fs, FOk K H0 H f
  nod : (fs.map Frm1.b).Nodup
  sb : S ∉ fs.map Frm1.b
  st : H S = some (.lst (fs.reverse.map fun f => V.ref f.p))
  new : H0 S = none
  ex : Ex H0 H
  lk : Link fs D
theorem atI_last {xs : List V} {x : V} : atI (xs ++ [x]) (-1) = some x := by
  have e : ixN (xs.length + 1) (-1) = some xs.length := by
    unfold ixN
    rw [if_neg (by decide), if_pos (by omega)]
    congr 1
    omega
  unfold atI
  rw [List.length_append, List.length_singleton, e]
  simp
/-! ### a comprehension whose elements are new objects, without a stream -/
section
variable {J : It} {n : Nat} {G : Hp → Prop} {Y : Nat → Hp → V → Hp → Prop}
theorem lc_new (w : Walk J n G Y) {g : TG} {tt : TT} {te : TE} {vs : List Nat} {σ : L2.St} {H1 : Hp} {D : Addr} {Qd : Hp → Prop} (hD : H1 D = none) (P : Nat → List V → Hp → Prop) (hP : P 0 [] H1)
    (hk : ∀ i acc H H', Keeps H H' → P i acc H → P i acc H') (hl : ∀ i acc H, i ≤ n → P i acc H → acc.length ≤ i) (hn : n ≤ 1000000) (hG : ∀ H, Ex H1 H → G H)
    (hs : ∀ i x Hc Hy acc, i < n → Ex H1 Hc → P i acc Hc → Y i Hc x Hy → ∀ (Qe : VK) (Qn : Hp → Prop), (∀ y H4, Ex Hc H4 → P (i + 1) (acc ++ [y]) H4 → Qe y H4) → (∀ H3, Ex Hc H3 → P (i + 1) acc H3 → Qn H3) →
      g x (wipe σ vs) Hy fun σ2 H2 => wipe σ2 vs = wipe σ vs ∧ tt σ2 H2 fun b H3 => if b = true then te σ2 H3 Qe else Qn H3)
    (hd : ∀ H acc, Ex H1 H → P n acc H → H D = some (.lst acc) → Qd H) :
    ∃ W : Nat → Nat → Hp → Prop, (∃ m, W 0 m (upd H1 D (.lst []))) ∧ ∀ i m H, W i m H →
      (J.stop i H ∧ Qd H) ∨ (J.go i H ∧ ∃ Nx : Hp → Prop, (∀ H', Nx H' → ∃ m', m' < m ∧ W (i + 1) m' H') ∧ ∀ x H', J.yld i H x H' → g x (wipe σ vs) H' fun σ2 H2 => wipe σ2 vs = wipe σ vs ∧ tt σ2 H2 fun b H3 =>
        if b = true then te σ2 H3 fun y H4 => ∃ acc, H4 D = some (.lst acc) ∧ acc.length < sizeLine ∧ Nx (upd H4 D (.lst (acc ++ [y]))) else Nx H3) := by
  have e1 := Ex.new (o := .lst []) hD
  refine lc_it w (fun i H => ∃ acc, Ex H1 H ∧ P i acc H ∧ H D = some (.lst acc)) ⟨[], e1, hk _ _ _ _ (fun a ys h => e1 _ _ h) hP, upd_same⟩ (fun i H hi p => ?_) (fun i x Hc Hy hi p y => ?_) (fun H p => ?_)
  · obtain ⟨acc, ex, _, _⟩ := p
    exact hG H ex
  · obtain ⟨acc, ex, pa, hA⟩ := p
    refine hs i x Hc Hy acc hi ex pa y _ _ (fun y H4 e2 pa' => ?_) (fun H3 e2 pa' => ⟨acc, ex.trans e2, pa', e2 _ _ hA⟩)
    have hA2 := e2 _ _ hA
    refine ⟨acc, hA2, ?_, acc ++ [y], (ex.trans e2).up hD, hk _ _ _ _ (fun a ys h => tk_put hA2 a ys h) pa', upd_same⟩
    have := hl i acc Hc (Nat.le_of_lt hi) pa
    rw [sizeLine_eq]
    omega
  · obtain ⟨acc, ex, pa, hA⟩ := p
    exact hd H acc ex pa hA
end
theorem depth_at : ∀ {ds : List PyData} {i : Nat} {d : PyData}, ds[i]? = some d → d.depth ≤ PyData.depthAll ds
  | [], i, d, h => by simp at h
  | e :: ds, 0, d, h => by cases h; rw [PyData.depthAll]; omega
  | e :: ds, i + 1, d, h => by
    have := depth_at (ds := ds) (i := i) (by simpa using h)
    rw [PyData.depthAll]
    omega
/-- nothing can be asked of it -/
theorem fn_none {P : Program} {w : World} {K : PySem.W.Frag} {mg : Str → Option Value} {base : Heap} {CX : CXT} {k : Nat} {f : Addr} {fd : FuncData} {ps : List Str} : FnOk P w K mg base CX k f fd ps (fun _ _ _ _ => False) :=
  ⟨fun _ _ _ _ h => h.elim, fun _ _ _ _ _ _ _ _ _ _ _ _ _ h => h.elim⟩
theorem dp_seqd {K : PySem.W.Frag} {H : Hp} {v : V} {d : PyData} (h : Dp K H v d) (n : isSq d = true) : ∃ (k : Bool) (a : Addr) (xs : List V) (ds : List PyData), v = .ref a ∧ SqK K k H a xs ∧ DpAll K H xs ds ∧ fz d = .tuple (ds.map fz) ∧ wk d = 2 + wkAll ds ∧ d.depth = PyData.depthAll ds + 1 := by
  cases h with
  | non => cases n
  | bl b => cases n
  | int i => cases n
  | str x => cases n
  | lst s t => exact ⟨false, _, _, _, rfl, s, t, by rw [fz, fzAll_map], by rw [wk], rfl⟩
  | tup s t => exact ⟨true, _, _, _, rfl, s, t, by rw [fz, fzAll_map], by rw [wk], rfl⟩
section
variable {J : It} {n : Nat} {G : Hp → Prop} {Y : Nat → Hp → V → Hp → Prop}
theorem lc_growD (w : Walk J n G Y) {g : TG} {tt : TT} {te : TE} {vs : List Nat} {σ : L2.St} {G1 H1 : Hp} {D s q : Addr} {B c : Nat} {Qd : Hp → Prop} (hO : Ov s q B G1 H1) (hD : H1 D = none) (P : Nat → List V → Hp → Prop) (hP : P 0 [] G1)
    (hk : ∀ i acc G o, P i acc G → P i acc (upd G D o))
    (hl : ∀ i acc G', i ≤ n → P i acc G' → acc.length ≤ i) (hn : n ≤ 1000000) (hG : ∀ i H G', i ≤ n → Ex G1 G' → Ov s q (B + c * i) G' H → G H)
    (hs : ∀ i x Hc Hy acc G', i < n → Ex G1 G' → P i acc G' → G' D = some (.lst acc) → Ov s q (B + c * i) G' Hc → Y i Hc x Hy → ∀ (Qe : VK) (Qn : Hp → Prop), (∀ y H4 G2, Ex G' G2 → P (i + 1) (acc ++ [y]) G2 → Ov s q (B + c * (i + 1)) G2 H4 → Qe y H4) →
      (∀ H3 G2, Ex G' G2 → P (i + 1) acc G2 → Ov s q (B + c * (i + 1)) G2 H3 → Qn H3) →
      g x (wipe σ vs) Hy fun σ2 H2 => wipe σ2 vs = wipe σ vs ∧ tt σ2 H2 fun b H3 => if b = true then te σ2 H3 Qe else Qn H3)
    (hd : ∀ H acc G', Ex G1 G' → P n acc G' → G' D = some (.lst acc) → Ov s q (B + c * n) G' H → Qd H) :
    ∃ W : Nat → Nat → Hp → Prop, (∃ m, W 0 m (upd H1 D (.lst []))) ∧ ∀ i m H, W i m H →
      (J.stop i H ∧ Qd H) ∨ (J.go i H ∧ ∃ Nx : Hp → Prop, (∀ H', Nx H' → ∃ m', m' < m ∧ W (i + 1) m' H') ∧ ∀ x H', J.yld i H x H' → g x (wipe σ vs) H' fun σ2 H2 => wipe σ2 vs = wipe σ vs ∧ tt σ2 H2 fun b H3 =>
        if b = true then te σ2 H3 fun y H4 => ∃ acc, H4 D = some (.lst acc) ∧ acc.length < sizeLine ∧ Nx (upd H4 D (.lst (acc ++ [y]))) else Nx H3) := by
  have g1 : G1 D = none := hO.sub.free hD
  have e1 := Ex.new (o := .lst []) g1
  refine lc_it w (fun i H => ∃ acc G', Ex G1 G' ∧ P i acc G' ∧ G' D = some (.lst acc) ∧ Ov s q (B + c * i) G' H) ⟨[], _, e1, hk _ _ _ _ hP, upd_same, hO.new hD⟩ (fun i H hi p => ?_) (fun i x Hc Hy hi p y => ?_) (fun H p => ?_)
  · obtain ⟨acc, G', ex, _, _, o⟩ := p
    exact hG i H G' hi ex o
  · obtain ⟨acc, G', ex, pa, hA, o⟩ := p
    refine hs i x Hc Hy acc G' hi ex pa hA o y _ _ (fun y H4 G2 e2 pa' o' => ?_) (fun H3 G2 e2 pa' o' => ⟨acc, G2, ex.trans e2, pa', e2 _ _ hA, o'⟩)
    have hA2 := e2 _ _ hA
    refine ⟨acc, o'.sub _ _ hA2, ?_, acc ++ [y], _, (ex.trans e2).up g1, hk _ _ _ _ pa', upd_same, o'.put hA2⟩
    have := hl i acc G' (Nat.le_of_lt hi) pa
    rw [sizeLine_eq]
    omega
  · obtain ⟨acc, G', ex, pa, hA, o⟩ := p
    exact hd H acc G' ex pa hA o
end
/-! ### what is new -/
def nw (G G2 : Hp) : Hp := fun a => if (G a).isSome then none else G2 a
theorem nw_sub {G G2 : Hp} : Ex (nw G G2) G2 := fun a o h => by
  unfold nw at h
  split at h
  · cases h
  · exact h
theorem nw_of {G G2 : Hp} {a : Addr} {o : HO} (n : G a = none) (h : G2 a = some o) : nw G G2 a = some o := by
  unfold nw
  rw [n]
  exact h
theorem nw_none {G G2 : Hp} {a : Addr} {o : HO} (h : G a = some o) : nw G G2 a = none := by
  unfold nw
  rw [h]
  rfl
theorem nw_inv {G G2 : Hp} {a : Addr} {o : HO} (h : nw G G2 a = some o) : G a = none ∧ G2 a = some o := by
  unfold nw at h
  split at h
  · cases h
  · rename_i c
    exact ⟨by simpa using c, h⟩
theorem nw_ex {G G' G2 G3 : Hp} (e1 : Ex G G') (e2 : Ex G2 G3) : Ex (nw G' G2) (nw G G3) := fun a o h => by
  obtain ⟨n, h⟩ := nw_inv h
  exact nw_of (e1.free n) (e2 _ _ h)
/-- what is new but for D -/
def wo (D : Addr) (G G2 : Hp) : Hp := fun a => if a = D then none else nw G G2 a
theorem wo_upd {D : Addr} {G G2 : Hp} {o : HO} : wo D G (upd G2 D o) = wo D G G2 := by
  funext a
  unfold wo
  by_cases h : a = D
  · rw [if_pos h, if_pos h]
  · rw [if_neg h, if_neg h]
    unfold nw
    rw [upd_ne h]
theorem wo_ex {D : Addr} {G G2 G3 : Hp} (e : Ex G2 G3) : Ex (wo D G G2) (wo D G G3) := fun a o h => by
  unfold wo at h ⊢
  split at h
  · cases h
  · rename_i n
    rw [if_neg n]
    exact nw_ex (Ex.refl G) e _ _ h
theorem wo_nw {D : Addr} {G G2 : Hp} : Ex (wo D G G2) (nw G G2) := fun a o h => by
  unfold wo at h
  split at h
  · cases h
  · exact h
theorem nw_wo {D : Addr} {G G' G2 : Hp} {u : HO} (e : Ex G G') (hD : G' D = some u) : Ex (nw G' G2) (wo D G G2) := fun a o h => by
  have hn : a ≠ D := fun z => by rw [z, nw_none hD] at h; cases h
  unfold wo
  rw [if_neg hn]
  exact nw_ex e (Ex.refl G2) _ _ h
theorem dpAll_snoc {K : PySem.W.Frag} {H : Hp} {v : V} {d : PyData} (h : Dp K H v d) : ∀ {vs : List V} {ds : List PyData}, DpAll K H vs ds → DpAll K H (vs ++ [v]) (ds ++ [d])
  | [], [], _ => .cons h .nil
  | v :: vs, d :: ds, t => by cases t with | cons a t => exact .cons a (dpAll_snoc h t)
end Hg

set_option maxHeartbeats 4000000
namespace Hg
open PySem PySem.Spec PyProof.Rows L2
/-! ### numbers of any size: what division asks where the divisor is great -/
structure SeeX (X : Cx) : Prop where
  ns : X.base.NoSeer
  tr : X.prog.given.tree = none
  st : X.stack = X.env :: X.outer
  gen : X.env.scope.isGenerator = false
  co : X.env.scope.isCoroutine = false
  dp : X.A.depth + Builtin.pylongFrames < recursionLimit
theorem SeeX.room {X : Cx} (S : SeeX X) {pins : List (Addr × Obj)} {σ : L2.St} {H : Hp} {s : Shared} (I : Inv X pins σ H s) : PylongRoom (model X.prog X.w) X.A s :=
  PylongRoom.of I.nolimit S.dp (SeerAt.of (S.ns.keeps I.bk) S.tr (I.ok.frames.trans (congrArg some S.st)) S.gen S.co I.ok.blt I.ok.glob)
theorem seeX {CX : CXT} {P : Program} {w : World} {K : PySem.W.Frag} {mg : Str → Option Value} {base : Heap} {N ps : List Str} {qual : Str} {scope : Scope} {f : Addr} {cd : Value} {A : Around} {outer : List Env} {s : Shared} {H : Hp} {E : XK}
    (NS : base.NoSeer) (hP : P.given.tree = none) (hr : Room 32 (A.deeper (envOfC qual scope s.heap.objs.size f cd))) (S : FnScope N ps scope) : SeeX (cxOf CX P w K mg base N qual scope f cd A outer s H E).nox :=
  ⟨NS, hP, rfl, S.gen, S.co, by
    have h := hr.dp
    have e : Builtin.pylongFrames = 100 := rfl
    show (A.deeper (envOfC qual scope s.heap.objs.size f cd)).depth + Builtin.pylongFrames < recursionLimit
    omega⟩
section
variable {X : Cx}
abbrev rDivP : R2 := rI (fun _ j => j ≠ 0) fun i j => .int (i.fdiv j)
theorem oDivP (S : SeeX X) : OpR X (binaryOp .FloorDiv) rDivP := by
  intro pins s σ H x y v u Q I rx ry h
  obtain ⟨i, j, rfl, rfl, hc, q⟩ := h
  obtain ⟨t, rfl⟩ := rx
  obtain ⟨t', rfl⟩ := ry
  exact PyProof.Rows.floordiv_int hc ⟨.int _, H, I.tok _, ⟨_, rfl⟩, q⟩ (.inr (S.room I))
abbrev rDivmodP : List V → Hp → VK → Prop := fun xs H Q => ∃ i j, xs = [.int i, .int j] ∧ j ≠ 0 ∧ ∀ p, H p = none → Q (.ref p) (upd H p (.tup [.int (i.fdiv j), .int (i.fmod j)]))
theorem call_divmodP (S : SeeX X) : CallR X (.builtin "divmod") rDivmodP := by
  intro pins s σ H xs us Q I r h
  obtain ⟨i, j, rfl, h1, q⟩ := h
  obtain ⟨u, w', rfl, ⟨t, rfl⟩, ⟨t', rfl⟩⟩ := vals2 r
  refine divmod_int h1 ?_ (.inr (S.room I))
  have hn : H s.heap.objs.size = none := I.hok.fresh (Nat.le_refl _)
  refine ⟨.ref s.heap.objs.size, _, ?_, rfl, q _ hn⟩
  refine I.laid (fun b o e => Heap.get?_push_of_some _ e) (Nat.le_refl _) ⟨by simp only [List.length_cons, List.length_nil]; rw [sizeLine_eq]; decide, [.int (i.fdiv j) s.toks, .int (i.fmod j) (s.toks + 1)], .cons ⟨_, rfl⟩ (.cons ⟨_, rfl⟩ .nil), ?_⟩
  exact ⟨_, Heap.get?_push_size s.heap rfl, rfl, 0, rfl⟩
/-- * of two factors of together less than a hundred million bits -/
def CMulB (i j : Int) : Prop := i.natAbs.log2 + j.natAbs.log2 < 100000000
theorem CMulB.ok {i j : Int} (h : CMulB i j) : IntMulOk i j := by
  have b : ∀ x : Int, Builtin.Int.intBits x ≤ x.natAbs.log2 + 1 := fun x => by
    unfold Builtin.Int.intBits
    split <;> omega
  have h1 := b i
  have h2 := b j
  have h3 : i.natAbs.log2 + j.natAbs.log2 < 100000000 := h
  have e : bitsLine = 134217728 := by decide
  unfold IntMulOk
  intro z
  rw [Bool.and_eq_true] at z
  have z2 := z.2
  unfold Builtin.Int.intTooBig at z2
  have z3 := of_decide_eq_true z2
  rw [e] at z3
  omega
abbrev rMulB : R2 := rI CMulB fun i j => .int (i * j)
theorem oMulB : OpR X (binaryOp .Mult) rMulB := opI fun _ _ _ _ _ _ _ hc q => PyProof.Rows.mul_int q hc.ok
end
/-- below 40 million bits -/
def bg (x : Int) : Prop := x.natAbs.log2 < 40000000
theorem bg_mul {x y : Int} (hx : bg x) (hy : bg y) : CMulB x y := by
  unfold bg at hx hy
  unfold CMulB
  omega
theorem bg_le {x : Int} {B : Nat} (h : x.natAbs ≤ B) (hB : B.log2 < 40000000) : bg x := by
  unfold bg
  refine Nat.lt_of_le_of_lt ?_ hB
  by_cases h0 : x.natAbs = 0
  · rw [h0]; simp
  · have : B ≠ 0 := by omega
    exact (Nat.le_log2 this).mpr (Nat.le_trans (Nat.log2_self_le h0) h)
end Hg

namespace Hn
/-! ### sums -/
abbrev Vc := Nat → Int
def sm : Nat → (Nat → Int) → Int
  | 0, _ => 0
  | k + 1, f => sm k f + f k
theorem sm_congr {f g : Nat → Int} : ∀ {k : Nat}, (∀ i, i < k → f i = g i) → sm k f = sm k g
  | 0, _ => rfl
  | k + 1, h => by
    show sm k f + f k = sm k g + g k
    rw [sm_congr (fun i hi => h i (by omega)), h k (by omega)]
theorem sm_zero {f : Nat → Int} {k : Nat} (h : ∀ i, i < k → f i = 0) : sm k f = 0 := by
  rw [sm_congr (g := fun _ => 0) h]
  induction k with
  | zero => rfl
  | succ k ih => show sm k _ + 0 = 0; rw [ih fun i hi => h i (by omega)]; rfl
theorem sm_add (f g : Nat → Int) : ∀ k, sm k (fun i => f i + g i) = sm k f + sm k g
  | 0 => rfl
  | k + 1 => by
    show sm k _ + (f k + g k) = (sm k f + f k) + (sm k g + g k)
    rw [sm_add f g k]; omega
theorem sm_mul (a : Int) (f : Nat → Int) : ∀ k, sm k (fun i => a * f i) = a * sm k f
  | 0 => by simp [sm]
  | k + 1 => by
    show sm k _ + a * f k = a * (sm k f + f k)
    rw [sm_mul a f k, Int.mul_add]
theorem sm_mulr (a : Int) (f : Nat → Int) (k : Nat) : sm k (fun i => f i * a) = sm k f * a := by
  rw [Int.mul_comm, ← sm_mul]
  exact sm_congr fun i _ => Int.mul_comm _ _
theorem sm_swap (f : Nat → Nat → Int) (m : Nat) : ∀ k, sm k (fun i => sm m fun s => f i s) = sm m fun s => sm k fun i => f i s
  | 0 => (sm_zero fun _ _ => rfl).symm
  | k + 1 => by
    show sm k _ + sm m (fun s => f k s) = sm m fun s => (sm k fun i => f i s) + f k s
    rw [sm_swap f m k, sm_add]
theorem sm_one {f : Nat → Int} {k j : Nat} (hj : j < k) (h : ∀ i, i < k → i ≠ j → f i = 0) : sm k f = f j := by
  induction k with
  | zero => omega
  | succ k ih =>
    show sm k f + f k = f j
    by_cases e : j = k
    · subst e
      rw [sm_zero fun i hi => h i (by omega) (by omega)]; omega
    · rw [ih (by omega) fun i hi => h i (by omega), h k (by omega) (by omega)]; omega
theorem sm_abs {f : Nat → Int} {B : Nat} : ∀ {k : Nat}, (∀ i, i < k → (f i).natAbs ≤ B) → (sm k f).natAbs ≤ k * B
  | 0, _ => by simp [sm]
  | k + 1, h => by
    have h1 := sm_abs (k := k) fun i hi => h i (by omega)
    have h2 := h k (by omega)
    have : (k + 1) * B = k * B + B := Nat.succ_mul k B
    show (sm k f + f k).natAbs ≤ _
    omega
/-! ### pigeonholes -/
theorem pigeon : ∀ (m : Nat) (f : Nat → Nat), (∀ i, i < m + 1 → f i < m) → ∃ i j, i < j ∧ j < m + 1 ∧ f i = f j
  | 0, f, h => absurd (h 0 (by omega)) (by omega)
  | m + 1, f, h => by
    by_cases hc : ∃ i, i < m + 1 ∧ f i = f (m + 1)
    · obtain ⟨i, hi, e⟩ := hc
      exact ⟨i, m + 1, hi, by omega, e⟩
    · have hne : ∀ i, i < m + 1 → f i ≠ f (m + 1) := fun i hi e => hc ⟨i, hi, e⟩
      obtain ⟨i, j, h1, h2, h3⟩ := pigeon m (fun i => if f (m + 1) < f i then f i - 1 else f i) (fun i hi => by
        have a := h i (by omega)
        have b := h (m + 1) (by omega)
        have c := hne i hi
        show (if f (m + 1) < f i then f i - 1 else f i) < m
        split <;> omega)
      refine ⟨i, j, h1, by omega, ?_⟩
      have a := hne i (by omega)
      have b := hne j (by omega)
      change (if f (m + 1) < f i then f i - 1 else f i) = (if f (m + 1) < f j then f j - 1 else f j) at h3
      split at h3 <;> split at h3 <;> omega
theorem pigeon' {m N : Nat} (hm : m < N) (f : Nat → Nat) (h : ∀ i, i < N → f i < m) : ∃ i j, i < j ∧ j < N ∧ f i = f j := by
  obtain ⟨i, j, a, b, c⟩ := pigeon m f fun i hi => h i (by omega)
  exact ⟨i, j, a, by omega, c⟩
def enc (b : Nat) : Nat → (Nat → Nat) → Nat
  | 0, _ => 0
  | k + 1, f => enc b k f * b + f k
theorem enc_lt {b : Nat} {f : Nat → Nat} : ∀ {k : Nat}, (∀ i, i < k → f i < b) → enc b k f < b ^ k
  | 0, _ => by simp [enc]
  | k + 1, h => by
    have h1 := enc_lt (k := k) fun i hi => h i (by omega)
    have h2 := h k (by omega)
    show enc b k f * b + f k < b ^ (k + 1)
    rw [Nat.pow_succ]
    have : (enc b k f + 1) * b ≤ b ^ k * b := Nat.mul_le_mul_right b h1
    rw [Nat.succ_mul] at this
    omega
theorem enc_inj {b : Nat} {f g : Nat → Nat} : ∀ {k : Nat}, (∀ i, i < k → f i < b) → (∀ i, i < k → g i < b) → enc b k f = enc b k g → ∀ i, i < k → f i = g i
  | 0, _, _, _, i, hi => by omega
  | k + 1, hf, hg, e, i, hi => by
    change enc b k f * b + f k = enc b k g * b + g k at e
    have a := hf k (by omega)
    have c := hg k (by omega)
    have e2 : f k = g k := by
      have := congrArg (· % b) e
      simp only [Nat.add_mod, Nat.mul_mod_left, Nat.zero_add, Nat.mod_mod] at this
      rwa [Nat.mod_eq_of_lt a, Nat.mod_eq_of_lt c] at this
    have e1 : enc b k f = enc b k g := by
      have : enc b k f * b = enc b k g * b := by omega
      exact Nat.eq_of_mul_eq_mul_right (by omega) this
    by_cases h : i = k
    · rw [h]; exact e2
    · exact enc_inj (fun i hi => hf i (by omega)) (fun i hi => hg i (by omega)) e1 i (by omega)
def dig (b : Nat) : Nat → Nat → Nat → Nat
  | 0, _, _ => 0
  | k + 1, d, i => if i = k then d % b else dig b k (d / b) i
theorem dig_lt {b : Nat} (hb : 0 < b) : ∀ (k d i : Nat), dig b k d i < b
  | 0, d, i => hb
  | k + 1, d, i => by
    unfold dig
    split
    · exact Nat.mod_lt _ hb
    · exact dig_lt hb k _ i
theorem dig_inj {b : Nat} (hb : 0 < b) : ∀ {k d e : Nat}, d < b ^ k → e < b ^ k → (∀ i, i < k → dig b k d i = dig b k e i) → d = e
  | 0, d, e, h1, h2, _ => by simp at h1 h2; omega
  | k + 1, d, e, h1, h2, h => by
    rw [Nat.pow_succ] at h1 h2
    have a := h k (by omega)
    unfold dig at a
    rw [if_pos rfl, if_pos rfl] at a
    have q : d / b = e / b := by
      refine dig_inj hb (k := k) ((Nat.div_lt_iff_lt_mul hb).mpr h1) ((Nat.div_lt_iff_lt_mul hb).mpr h2) fun i hi => ?_
      have := h i (by omega)
      unfold dig at this
      rwa [if_neg (by omega), if_neg (by omega)] at this
    rw [← Nat.div_add_mod d b, ← Nat.div_add_mod e b, q, a]
/-- t equations in k > t unknowns have a small solution -/
theorem siegel {k t M : Nat} (htk : t < k) (hM : 1 ≤ M) (A : Nat → Nat → Int) (hA : ∀ e i, e < t → i < k → (A e i).natAbs ≤ M) :
    ∃ x : Nat → Int, (∃ i, i < k ∧ x i ≠ 0) ∧ (∀ i, i < k → (x i).natAbs ≤ (2 * k * M) ^ t) ∧ ∀ e, e < t → sm k (fun i => A e i * x i) = 0 := by
  have hk : 0 < k := by omega
  have hc1 : 1 ≤ 2 * k * M := Nat.le_trans (Nat.le_trans hM (Nat.le_mul_of_pos_left M hk)) (by rw [Nat.mul_assoc]; omega)
  generalize hX : (2 * k * M) ^ t = X
  have hX1 : 1 ≤ X := by rw [← hX]; exact Nat.pow_pos (by omega)
  have key : (2 * k * M * X + 1) ^ t < (X + 1) ^ k := by
    have h1 : 2 * k * M * X + 1 ≤ 2 * k * M * (X + 1) := by rw [Nat.mul_add]; omega
    have h2 : (2 * k * M * X + 1) ^ t ≤ X * (X + 1) ^ t := by
      refine Nat.le_trans (Nat.pow_le_pow_left h1 t) ?_
      rw [Nat.mul_pow, hX]
      exact Nat.le_refl _
    have h3 : X * (X + 1) ^ t < (X + 1) ^ (t + 1) := by
      rw [Nat.pow_succ, Nat.mul_comm]
      exact Nat.mul_lt_mul_of_pos_left (by omega) (Nat.pow_pos (by omega))
    exact Nat.lt_of_le_of_lt h2 (Nat.lt_of_lt_of_le h3 (Nat.pow_le_pow_right (by omega) (by omega)))
  let val : Nat → Nat → Int := fun d e => sm k (fun i => A e i * (dig (X + 1) k d i : Nat))
  have hval : ∀ d e, e < t → (val d e).natAbs ≤ k * (M * X) := fun d e he => sm_abs fun i hi => by
    rw [Int.natAbs_mul, Int.natAbs_natCast]
    exact Nat.mul_le_mul (hA e i he hi) (Nat.le_of_lt_succ (dig_lt (by omega) k d i))
  have hshift : ∀ d e, e < t → (val d e + (k * (M * X) : Nat)).toNat < 2 * k * M * X + 1 := fun d e he => by
    have := hval d e he
    have e2 : 2 * k * M * X = k * (M * X) + k * (M * X) := by
      rw [← Nat.two_mul, ← Nat.mul_assoc, ← Nat.mul_assoc]
    omega
  obtain ⟨d, d', hlt, hd', hcol⟩ := pigeon' key (fun d => enc (2 * k * M * X + 1) t fun e => (val d e + (k * (M * X) : Nat)).toNat) (fun d _ => enc_lt fun e he => hshift d e he)
  have heq : ∀ e, e < t → val d e = val d' e := fun e he => by
    have := enc_inj (fun e he => hshift d e he) (fun e he => hshift d' e he) hcol e he
    have a := hval d e he
    have b := hval d' e he
    omega
  refine ⟨fun i => (dig (X + 1) k d i : Nat) - (dig (X + 1) k d' i : Nat), ?_, fun i hi => ?_, fun e he => ?_⟩
  · apply Classical.byContradiction
    intro hn
    have : d = d' := dig_inj (b := X + 1) (by omega) (by omega) hd' fun i hi => by
      apply Classical.byContradiction
      intro h
      exact hn ⟨i, hi, fun z => h (by have z : ((dig (X + 1) k d i : Nat) : Int) - (dig (X + 1) k d' i : Nat) = 0 := z; omega)⟩
    omega
  · have a := dig_lt (b := X + 1) (by omega) k d i
    have b := dig_lt (b := X + 1) (by omega) k d' i
    show (((dig (X + 1) k d i : Nat) : Int) - (dig (X + 1) k d' i : Nat)).natAbs ≤ X
    omega
  · have := heq e he
    have e2 : sm k (fun i => A e i * ((dig (X + 1) k d i : Nat) - (dig (X + 1) k d' i : Nat))) = val d e - val d' e := by
      have e3 : (fun i => A e i * (((dig (X + 1) k d i : Nat) : Int) - ((dig (X + 1) k d' i : Nat) : Int))) = fun i => A e i * (dig (X + 1) k d i : Nat) + (-1) * (A e i * (dig (X + 1) k d' i : Nat)) := by
        funext i
        rw [Int.mul_sub]; omega
      rw [e3, sm_add, sm_mul]
      show val d e + -1 * val d' e = _
      omega
    rw [e2]; omega
end Hn

namespace Hn
/-! ### spans -/
inductive Sp (R : Vc → Prop) : Vc → Prop
  | zero : Sp R (fun _ => 0)
  | add {u v : Vc} (k : Int) : R u → Sp R v → Sp R (fun j => k * u j + v j)
theorem Sp.cast {R : Vc → Prop} {u v : Vc} (h : Sp R u) (e : ∀ j, u j = v j) : Sp R v := (funext e : u = v) ▸ h
theorem Sp.of {R : Vc → Prop} {u : Vc} (h : R u) : Sp R u := (Sp.add 1 h .zero).cast fun j => by omega
theorem Sp.plus {R : Vc → Prop} {u v : Vc} (hu : Sp R u) (hv : Sp R v) : Sp R (fun j => u j + v j) := by
  induction hu with
  | zero => exact hv.cast fun j => (Int.zero_add _).symm
  | add k h _ ih => exact (Sp.add k h ih).cast fun j => (Int.add_assoc _ _ _).symm
theorem Sp.mul {R : Vc → Prop} {u : Vc} (a : Int) (hu : Sp R u) : Sp R (fun j => a * u j) := by
  induction hu with
  | zero => exact Sp.zero.cast fun j => by simp
  | add k h _ ih => exact (Sp.add (a * k) h ih).cast fun j => by grind
theorem Sp.comb {R : Vc → Prop} {u v : Vc} (a b : Int) (hu : Sp R u) (hv : Sp R v) : Sp R (fun j => a * u j + b * v j) := (hu.mul a).plus (hv.mul b)
theorem Sp.trans {R R' : Vc → Prop} (h : ∀ u, R u → Sp R' u) {v : Vc} (hv : Sp R v) : Sp R' v := by
  induction hv with
  | zero => exact .zero
  | add k h1 _ ih => exact ((h _ h1).mul k).plus ih
theorem Sp.mono {R R' : Vc → Prop} (h : ∀ u, R u → R' u) {v : Vc} (hv : Sp R v) : Sp R' v := hv.trans fun u hu => .of (h u hu)
theorem Sp.sum {R : Vc → Prop} {T : Nat → Vc} (z : Nat → Int) : ∀ {m : Nat}, (∀ s, s < m → Sp R (T s)) → Sp R (fun j => sm m fun s => z s * T s j)
  | 0, _ => .zero
  | m + 1, h => (Sp.sum z (m := m) fun s hs => h s (by omega)).plus ((h m (by omega)).mul (z m))
theorem Sp.at0 {R : Vc → Prop} {v : Vc} (h : Sp R v) {i : Nat} (hR : ∀ u, R u → u i = 0) : v i = 0 := by
  induction h with
  | zero => rfl
  | @add u v k h1 _ ih =>
    show k * u i + v i = 0
    rw [hR _ h1, ih]; omega
theorem Sp.form {R : Vc → Prop} {v : Vc} (h : Sp R v) {k : Nat} {x : Nat → Int} {c : Nat → Nat} (hR : ∀ u, R u → sm k (fun i => x i * u (c i)) = 0) : sm k (fun i => x i * v (c i)) = 0 := by
  induction h with
  | zero => exact sm_zero fun i _ => by simp
  | @add u v a h1 _ ih =>
    have e : sm k (fun i => x i * (a * u (c i) + v (c i))) = a * sm k (fun i => x i * u (c i)) + sm k (fun i => x i * v (c i)) := by
      rw [← sm_mul, ← sm_add]
      exact sm_congr fun i _ => by grind
    rw [e, hR _ h1, ih]; omega
/-! ### few rows or a form -/
theorem dich {k M : Nat} (hM : 1 ≤ M) (R : Vc → Prop) (c : Nat → Nat) (hR : ∀ u, R u → ∀ i, i < k → (u (c i)).natAbs ≤ M) :
    (∃ x : Nat → Int, (∃ i, i < k ∧ x i ≠ 0) ∧ (∀ i, i < k → (x i).natAbs ≤ (2 * k * M) ^ k) ∧ ∀ u, R u → sm k (fun i => x i * u (c i)) = 0) ∨
    ∃ us : Nat → Vc, (∀ s, s < k → R (us s)) ∧ ∀ y : Nat → Int, (∀ i, i < k → sm k (fun s => y s * us s (c i)) = 0) → ∀ s, s < k → y s = 0 := by
  have step : ∀ t, t ≤ k → (∃ x : Nat → Int, (∃ i, i < k ∧ x i ≠ 0) ∧ (∀ i, i < k → (x i).natAbs ≤ (2 * k * M) ^ k) ∧ ∀ u, R u → sm k (fun i => x i * u (c i)) = 0) ∨
      ∃ us : Nat → Vc, (∀ s, s < t → R (us s)) ∧ ∀ y : Nat → Int, (∀ i, i < k → sm t (fun s => y s * us s (c i)) = 0) → ∀ s, s < t → y s = 0 := by
    intro t
    induction t with
    | zero => intro _; exact .inr ⟨fun _ _ => 0, fun s hs => by omega, fun y _ s hs => by omega⟩
    | succ t ih =>
      intro ht
      rcases ih (by omega) with h | ⟨us, hu, hi⟩
      · exact .inl h
      obtain ⟨x, x0, xb, xe⟩ := siegel (k := k) (t := t) (M := M) (by omega) hM (fun e i => us e (c i)) fun e i he hi => hR _ (hu e he) i hi
      by_cases hall : ∀ u, R u → sm k (fun i => x i * u (c i)) = 0
      · refine .inl ⟨x, x0, fun i hi => Nat.le_trans (xb i hi) (Nat.pow_le_pow_right ?_ (by omega)), hall⟩
        have : 0 < k := by omega
        exact Nat.mul_pos (by omega) hM
      · obtain ⟨u, h1⟩ := Classical.not_forall.mp hall
        obtain ⟨ru, h2⟩ := Classical.not_imp.mp h1
        refine .inr ⟨fun s => if s = t then u else us s, fun s hs => ?_, fun y hy => ?_⟩
        · dsimp only
          split
          · exact ru
          · exact hu s (by omega)
        · have eT : ∀ i, sm (t + 1) (fun s => y s * (if s = t then u else us s) (c i)) = sm t (fun s => y s * us s (c i)) + y t * u (c i) := fun i => by
            show sm t _ + y t * (if t = t then u else us t) (c i) = _
            rw [if_pos rfl]
            congr 1
            exact sm_congr fun s hs => by rw [if_neg (by omega)]
          have z : sm k (fun i => x i * (sm t (fun s => y s * us s (c i)) + y t * u (c i))) = 0 := sm_zero fun i hi => by
            rw [← eT i, hy i hi]; omega
          have e1 : sm k (fun i => x i * (sm t (fun s => y s * us s (c i)) + y t * u (c i))) = sm k (fun i => sm t fun s => y s * (us s (c i) * x i)) + y t * sm k (fun i => x i * u (c i)) := by
            rw [← sm_mul, ← sm_add]
            refine sm_congr fun i _ => ?_
            rw [Int.mul_add, ← sm_mul]
            have : sm t (fun s => x i * (y s * us s (c i))) = sm t fun s => y s * (us s (c i) * x i) := sm_congr fun s _ => by grind
            rw [this]; grind
          have e2 : sm k (fun i => sm t fun s => y s * (us s (c i) * x i)) = 0 := by
            rw [sm_swap]
            refine sm_zero fun s hs => ?_
            rw [sm_mul, xe s hs]; omega
          rw [e1, e2, Int.zero_add] at z
          have yt : y t = 0 := (Int.mul_eq_zero.mp z).resolve_right h2
          have rest := hi y fun i hi => by
            have := eT i
            rw [hy i hi, yt] at this
            omega
          intro s hs
          by_cases e : s = t
          · rw [e]; exact yt
          · exact rest s (by omega)
  exact step k (Nat.le_refl k)
/-! ### an echelon of steps -/
structure Tri (m : Nat) (T : Nat → Vc) (c : Nat → Nat) : Prop where
  lo : ∀ s i, s < m → i < s → T s (c i) = 0
  nz : ∀ s, s < m → T s (c s) ≠ 0
theorem Tri.form {m : Nat} {T : Nat → Vc} {c : Nat → Nat} (h : Tri m T c) {x : Nat → Int} : ∀ {k : Nat}, k ≤ m → (∀ s, s < k → sm k (fun i => x i * T s (c i)) = 0) → ∀ i, i < k → x i = 0
  | 0, _, _, i, hi => by omega
  | k + 1, hk, hs, i, hi => by
    have e := hs k (by omega)
    change sm k (fun i => x i * T k (c i)) + x k * T k (c k) = 0 at e
    rw [sm_zero fun i hi => by rw [h.lo k i (by omega) hi, Int.mul_zero], Int.zero_add] at e
    have xk : x k = 0 := (Int.mul_eq_zero.mp e).resolve_right (h.nz k (by omega))
    by_cases e : i = k
    · rw [e]; exact xk
    · refine Tri.form h (k := k) (by omega) (fun s hs2 => ?_) i (by omega)
      have := hs s (by omega)
      change sm k _ + x k * T s (c k) = 0 at this
      rw [xk] at this
      omega
/-- the first coordinates of a combination that begins with zeros are zero -/
theorem Tri.coef {m : Nat} {T : Nat → Vc} {c : Nat → Nat} (h : Tri m T c) {z : Nat → Int} {v : Vc} (hv : ∀ j, v j = sm m fun s => z s * T s j) : ∀ {k : Nat}, k ≤ m → (∀ i, i < k → v (c i) = 0) → ∀ i, i < k → z i = 0
  | 0, _, _, i, hi => by omega
  | k + 1, hk, hz, i, hi => by
    have rest := Tri.coef h hv (k := k) (by omega) (fun i hi => hz i (by omega))
    by_cases e : i = k
    · subst e
      have a := hv (c i)
      rw [hz i (by omega)] at a
      have : sm m (fun s => z s * T s (c i)) = z i * T i (c i) := sm_one (by omega) fun s hs hne => by
        by_cases hlt : s < i
        · rw [rest s hlt, Int.zero_mul]
        · rw [h.lo s i hs (by omega), Int.mul_zero]
      rw [this] at a
      exact (Int.mul_eq_zero.mp a.symm).resolve_right (h.nz i (by omega))
    · exact rest i (by omega)
structure Gens (m : Nat) (T : Nat → Vc) (R : Vc → Prop) : Prop where
  ts : ∀ s, s < m → Sp R (T s)
  rs : ∀ u, R u → ∃ z : Nat → Int, ∀ j, u j = sm m fun s => z s * T s j
theorem Gens.sp {m : Nat} {T : Nat → Vc} {R : Vc → Prop} (h : Gens m T R) {v : Vc} (hv : Sp R v) : ∃ z : Nat → Int, ∀ j, v j = sm m fun s => z s * T s j := by
  induction hv with
  | zero => exact ⟨fun _ => 0, fun j => (sm_zero fun s _ => by simp).symm⟩
  | @add u v k h1 _ ih =>
    obtain ⟨a, ha⟩ := h.rs _ h1
    obtain ⟨b, hb⟩ := ih
    exact ⟨fun s => k * a s + b s, fun j => by
      show k * u j + v j = _
      rw [ha, hb, ← sm_mul, ← sm_add]
      exact sm_congr fun s _ => by grind⟩
theorem piv_bound {m M n : Nat} {T : Nat → Vc} {c : Nat → Nat} {R : Vc → Prop} (hM : 1 ≤ M) (h : Tri m T c) (g : Gens m T R) (hR : ∀ u, R u → ∀ i, i < m → (u (c i)).natAbs ≤ M) (hmn : m ≤ n) {s : Nat} (hs : s < m) : (T s (c s)).natAbs ≤ (2 * n * M) ^ (n + 1) := by
  have k1 : s + 1 ≤ m := hs
  rcases dich (k := s + 1) hM R c fun u hu i hi => hR u hu i (by omega) with ⟨x, ⟨i, hi, hx⟩, _, xv⟩ | ⟨us, ru, ind⟩
  · exact absurd (h.form k1 (fun s' hs' => Sp.form (g.ts s' (by omega)) xv) i hi) hx
  · obtain ⟨y, ⟨i0, hi0, hy0⟩, yb, ye⟩ := siegel (k := s + 1) (t := s) (M := M) (by omega) hM (fun e t => us t (c e)) fun e t he ht => hR _ (ru t ht) e (by omega)
    have hw : Sp R (fun j => sm (s + 1) fun t => y t * us t j) := Sp.sum y fun t ht => .of (ru t ht)
    obtain ⟨z, hz⟩ := g.sp hw
    have w0 : ∀ i, i < s → (fun j => sm (s + 1) fun t => y t * us t j) (c i) = 0 := fun i hi => by
      have := ye i hi
      show sm (s + 1) (fun t => y t * us t (c i)) = 0
      rw [← this]
      exact sm_congr fun t _ => Int.mul_comm _ _
    have z0 := h.coef hz (k := s) (by omega) w0
    have wne : sm (s + 1) (fun t => y t * us t (c s)) ≠ 0 := fun e => hy0 (ind y (fun i hi => by
      by_cases e2 : i = s
      · rw [e2]; exact e
      · exact w0 i (by omega)) i0 hi0)
    have wc : sm (s + 1) (fun t => y t * us t (c s)) = z s * T s (c s) := by
      rw [show sm (s + 1) (fun t => y t * us t (c s)) = sm m (fun s' => z s' * T s' (c s)) from hz (c s)]
      exact sm_one hs fun s' hs' hne => by
        by_cases hlt : s' < s
        · rw [z0 s' hlt, Int.zero_mul]
        · rw [h.lo s' s hs' (by omega), Int.mul_zero]
    have hb : (sm (s + 1) (fun t => y t * us t (c s))).natAbs ≤ (s + 1) * ((2 * (s + 1) * M) ^ s * M) := sm_abs fun t ht => by
      rw [Int.natAbs_mul]
      exact Nat.mul_le_mul (yb t ht) (hR _ (ru t ht) s hs)
    have hz1 : 1 ≤ (z s).natAbs := by
      apply Classical.byContradiction
      intro hh
      have : z s = 0 := by omega
      rw [wc, this, Int.zero_mul] at wne
      exact wne rfl
    have le1 : (T s (c s)).natAbs ≤ (sm (s + 1) (fun t => y t * us t (c s))).natAbs := by
      rw [wc, Int.natAbs_mul]
      exact Nat.le_mul_of_pos_left _ hz1
    refine Nat.le_trans (Nat.le_trans le1 hb) ?_
    have a1 : 2 * (s + 1) * M ≤ 2 * n * M := Nat.mul_le_mul_right M (by omega)
    have hX : 1 ≤ 2 * n * M := Nat.mul_pos (by omega) hM
    have a2 : (2 * (s + 1) * M) ^ s ≤ (2 * n * M) ^ n := Nat.le_trans (Nat.pow_le_pow_left a1 s) (Nat.pow_le_pow_right hX (by omega))
    have a3 : (s + 1) * M ≤ 2 * n * M := Nat.mul_le_mul_right M (by omega)
    calc (s + 1) * ((2 * (s + 1) * M) ^ s * M) = (2 * (s + 1) * M) ^ s * ((s + 1) * M) := by
          rw [← Nat.mul_assoc, Nat.mul_comm (s + 1), Nat.mul_assoc]
      _ ≤ (2 * n * M) ^ n * (2 * n * M) := Nat.mul_le_mul a2 a3
      _ = (2 * n * M) ^ (n + 1) := (Nat.pow_succ ..).symm
/-- a form on the pivots and one column more -/
theorem form_bound {m M n : Nat} {T : Nat → Vc} {c : Nat → Nat} {R : Vc → Prop} (hM : 1 ≤ M) (h : Tri m T c) (g : Gens m T R) (hR : ∀ u, R u → ∀ i, (u i).natAbs ≤ M) (hmn : m < n) (j : Nat) :
    ∃ (x : Nat → Int) (d : Int), d ≠ 0 ∧ d.natAbs ≤ (2 * n * M) ^ n ∧ (∀ i, i < m → (x i).natAbs ≤ (2 * n * M) ^ n) ∧ ∀ v, Sp R v → sm m (fun i => x i * v (c i)) + d * v j = 0 := by
  have hX : 1 ≤ 2 * n * M := Nat.mul_pos (by omega) hM
  have hpow : (2 * (m + 1) * M) ^ (m + 1) ≤ (2 * n * M) ^ n := Nat.le_trans (Nat.pow_le_pow_left (Nat.mul_le_mul_right M (by omega)) _) (Nat.pow_le_pow_right hX (by omega))
  let c' : Nat → Nat := fun i => if i = m then j else c i
  have e : ∀ (x : Nat → Int) (v : Vc), sm (m + 1) (fun i => x i * v (c' i)) = sm m (fun i => x i * v (c i)) + x m * v j := fun x v => by
    show sm m (fun i => x i * v (c' i)) + x m * v (c' m) = _
    have e1 : c' m = j := if_pos rfl
    rw [e1]
    congr 1
    exact sm_congr fun i hi => by
      have : c' i = c i := if_neg (by omega)
      rw [this]
  rcases dich (k := m + 1) hM R c' fun u hu i hi => hR u hu _ with ⟨x, ⟨i, hi, hx⟩, xb, xv⟩ | ⟨us, ru, ind⟩
  · refine ⟨x, x m, fun hm => ?_, Nat.le_trans (xb m (by omega)) hpow, fun i hi => Nat.le_trans (xb i (by omega)) hpow, fun v hv => ?_⟩
    · have z := h.form (Nat.le_refl m) (x := x) fun s hs => by
        have := Sp.form (g.ts s hs) xv
        rw [e, hm, Int.zero_mul, Int.add_zero] at this
        exact this
      refine hx ?_
      by_cases e2 : i = m
      · rw [e2]; exact hm
      · exact z i (by omega)
    · rw [← e]; exact Sp.form hv xv
  · exfalso
    have hz : ∀ s, ∃ z : Nat → Int, s < m + 1 → ∀ j, us s j = sm m fun l => z l * T l j := fun s => by
      by_cases hs : s < m + 1
      · obtain ⟨z, hz⟩ := g.rs _ (ru s hs)
        exact ⟨z, fun _ => hz⟩
      · exact ⟨fun _ => 0, fun hs' => absurd hs' hs⟩
    obtain ⟨Z, hZ⟩ := Classical.axiomOfChoice hz
    have bnd : ∀ a b : Nat, ∃ B : Nat, ∀ s l, s < a → l < b → (Z s l).natAbs ≤ B := by
      intro a
      induction a with
      | zero => exact fun b => ⟨0, fun s l hs => by omega⟩
      | succ a ih =>
        intro b
        obtain ⟨B, hB⟩ := ih b
        have row : ∃ B', ∀ l, l < b → (Z a l).natAbs ≤ B' := by
          clear hB
          induction b with
          | zero => exact ⟨0, fun l hl => by omega⟩
          | succ b ihb =>
            obtain ⟨B', hB'⟩ := ihb
            refine ⟨B' + (Z a b).natAbs, fun l hl => ?_⟩
            by_cases e : l = b
            · rw [e]; omega
            · have := hB' l (by omega); omega
        obtain ⟨B', hB'⟩ := row
        refine ⟨B + B', fun s l hs hl => ?_⟩
        by_cases e : s = a
        · rw [e]; have := hB' l hl; omega
        · have := hB s l (by omega) hl; omega
    obtain ⟨B, hB⟩ := bnd (m + 1) m
    obtain ⟨y, ⟨i0, hi0, hy0⟩, _, ye⟩ := siegel (k := m + 1) (t := m) (M := B + 1) (by omega) (by omega) (fun l s => Z s l) fun l s hl hs => by have := hB s l hs hl; omega
    refine hy0 (ind y (fun i hi => ?_) i0 hi0)
    have e1 : sm (m + 1) (fun s => y s * us s (c' i)) = sm (m + 1) (fun s => sm m fun l => T l (c' i) * (Z s l * y s)) := sm_congr fun s hs => by
      rw [hZ s hs, ← sm_mul]
      exact sm_congr fun l _ => by grind
    rw [e1, sm_swap]
    refine sm_zero fun l hl => ?_
    rw [sm_mul, ye l hl, Int.mul_zero]
end Hn

namespace Hn
/-! ### rows as lists, steps by columns -/
def fv (l : List Int) : Vc := fun i => l.getD i 0
theorem fv_out {l : List Int} {j : Nat} (h : l.length ≤ j) : fv l j = 0 := by
  unfold fv
  rw [List.getD_eq_getElem?_getD, List.getElem?_eq_none h]; rfl
theorem fv_at {l : List Int} {j : Nat} {x : Int} (h : l[j]? = some x) : fv l j = x := by
  unfold fv
  rw [List.getD_eq_getElem?_getD, h]; rfl
theorem fv_get {l : List Int} {j : Nat} (h : j < l.length) : l[j]? = some (fv l j) := by
  unfold fv
  rw [List.getD_eq_getElem?_getD, List.getElem?_eq_getElem h]; rfl
theorem fv_ext {a b : List Int} (h : a.length = b.length) (e : ∀ j, fv a j = fv b j) : a = b := by
  refine List.ext_getElem? fun j => ?_
  by_cases hj : j < a.length
  · rw [fv_get hj, fv_get (by omega), e]
  · rw [List.getElem?_eq_none (by omega), List.getElem?_eq_none (by omega)]
theorem fv_zip {f : Int → Int → Int} (f0 : f 0 0 = 0) {a b : List Int} (h : a.length = b.length) (j : Nat) : fv (List.zipWith f a b) j = f (fv a j) (fv b j) := by
  by_cases hj : j < a.length
  · refine fv_at ?_
    rw [List.getElem?_zipWith, fv_get hj, fv_get (l := b) (by omega)]
  · rw [fv_out (by rw [List.length_zipWith]; omega), fv_out (l := a) (by omega), fv_out (l := b) (by omega), f0]
theorem fv_map {f : Int → Int} (f0 : f 0 = 0) {a : List Int} (j : Nat) : fv (a.map f) j = f (fv a j) := by
  by_cases hj : j < a.length
  · refine fv_at ?_
    rw [List.getElem?_map, fv_get hj]; rfl
  · rw [fv_out (by rw [List.length_map]; omega), fv_out (l := a) (by omega), f0]
abbrev Steps := List (Option (List Int))
def RowsOf (st : Steps) : Vc → Prop := fun v => ∃ (c : Nat) (l : List Int), st[c]? = some (some l) ∧ v = fv l
def RowsGt (st : Steps) (k : Nat) : Vc → Prop := fun v => ∃ (c : Nat) (l : List Int), k < c ∧ st[c]? = some (some l) ∧ v = fv l
def or1 (R : Vc → Prop) (u : Vc) : Vc → Prop := fun v => R v ∨ v = u
structure Ech (N : Nat) (st : Steps) : Prop where
  len : st.length = N
  row : ∀ (c : Nat) (l : List Int), st[c]? = some (some l) → l.length = N
  lo : ∀ (c : Nat) (l : List Int) (j : Nat), st[c]? = some (some l) → j < c → fv l j = 0
  piv : ∀ (c : Nat) (l : List Int), st[c]? = some (some l) → 0 < fv l c
theorem Ech.lt {N : Nat} {st : Steps} (e : Ech N st) {c : Nat} {x : Option (List Int)} (h : st[c]? = some x) : c < N := by
  rw [← e.len]
  exact (List.getElem?_eq_some_iff.mp h).1
def isStep : Option (Option (List Int)) → Bool
  | some (some _) => true
  | _ => false
def rowAt : Option (Option (List Int)) → List Int
  | some (some l) => l
  | _ => []
theorem isStep_some {x : Option (Option (List Int))} (h : isStep x = true) : x = some (some (rowAt x)) := by
  match x, h with
  | some (some l), _ => rfl
def cols (st : Steps) : List Nat := (List.range st.length).filter fun c => isStep st[c]?
def cI (st : Steps) (i : Nat) : Nat := (cols st).getD i 0
def TI (st : Steps) (i : Nat) : Vc := fv (rowAt st[cI st i]?)
theorem cI_get {st : Steps} {i : Nat} (h : i < (cols st).length) : (cols st)[i]? = some (cI st i) := by
  unfold cI
  rw [List.getD_eq_getElem?_getD, List.getElem?_eq_getElem h]; rfl
theorem cI_step {st : Steps} {i : Nat} (h : i < (cols st).length) : st[cI st i]? = some (some (rowAt st[cI st i]?)) := by
  have := List.mem_of_getElem? (cI_get h)
  exact isStep_some (List.mem_filter.mp this).2
theorem cols_lt {st : Steps} : (cols st).Pairwise (· < ·) := List.Pairwise.filter _ List.pairwise_lt_range
theorem cI_lt {st : Steps} {i j : Nat} (h : i < j) (hj : j < (cols st).length) : cI st i < cI st j := by
  have := List.pairwise_iff_getElem.mp (cols_lt (st := st)) i j (by omega) hj h
  have a := cI_get (st := st) (i := i) (by omega)
  have b := cI_get hj
  rw [List.getElem?_eq_getElem (by omega)] at a
  rw [List.getElem?_eq_getElem hj] at b
  rw [Option.some.inj a, Option.some.inj b] at this
  exact this
theorem cI_of {st : Steps} {c : Nat} {l : List Int} (h : st[c]? = some (some l)) : ∃ i, i < (cols st).length ∧ cI st i = c := by
  have hm : c ∈ cols st := List.mem_filter.mpr ⟨List.mem_range.mpr (List.getElem?_eq_some_iff.mp h).1, by rw [h]; rfl⟩
  obtain ⟨i, hi, e⟩ := List.getElem_of_mem hm
  refine ⟨i, hi, ?_⟩
  have := cI_get hi
  rw [List.getElem?_eq_getElem hi, e] at this
  exact (Option.some.inj this).symm
theorem Ech.tri {N : Nat} {st : Steps} (e : Ech N st) : Tri (cols st).length (TI st) (cI st) :=
  ⟨fun s i hs hi => e.lo _ _ _ (cI_step hs) (cI_lt hi hs), fun s hs => by have := e.piv _ _ (cI_step hs); unfold TI; omega⟩
theorem Ech.m_le {N : Nat} {st : Steps} (e : Ech N st) : (cols st).length ≤ N := by
  rw [← e.len]
  have := List.length_filter_le (fun c => isStep st[c]?) (List.range st.length)
  rwa [List.length_range] at this
theorem Ech.m_lt {N : Nat} {st : Steps} (e : Ech N st) {j : Nat} (hj : j < N) (h : ∀ l, st[j]? ≠ some (some l)) : (cols st).length < N := by
  have h1 : (cols st).length < (List.range st.length).length := by
    refine List.length_filter_lt_length_iff_exists.mpr ⟨j, List.mem_range.mpr (by rw [e.len]; exact hj), fun hh => ?_⟩
    exact h _ (isStep_some hh)
  rwa [List.length_range, e.len] at h1
theorem rows_coef {st : Steps} {v : Vc} (h : RowsOf st v) : ∃ z : Nat → Int, ∀ j, v j = sm (cols st).length fun s => z s * TI st s j := by
  obtain ⟨c, l, hc, rfl⟩ := h
  obtain ⟨i, hi, e⟩ := cI_of hc
  refine ⟨fun s => if s = i then 1 else 0, fun j => ?_⟩
  rw [sm_one hi fun s _ hne => by show (if s = i then (1 : Int) else 0) * TI st s j = 0; rw [if_neg hne, Int.zero_mul]]
  show fv l j = (if i = i then (1 : Int) else 0) * TI st i j
  rw [if_pos rfl, Int.one_mul]
  unfold TI
  rw [e, hc]
  rfl
theorem gens_self (st : Steps) : Gens (cols st).length (TI st) (RowsOf st) := ⟨fun s hs => .of ⟨_, _, cI_step hs, rfl⟩, fun u hu => rows_coef hu⟩
theorem gens_of {st : Steps} {R : Vc → Prop} (h : ∀ v, Sp R v ↔ Sp (RowsOf st) v) : Gens (cols st).length (TI st) R :=
  ⟨fun s hs => (h _).mpr ((gens_self st).ts s hs), fun u hu => (gens_self st).sp ((h u).mp (.of hu))⟩
/-- a vector of the lattice begins at a pivot, with a multiple of it -/
theorem lead {N : Nat} {st : Steps} (e : Ech N st) {v : Vc} (hv : Sp (RowsOf st) v) : (∀ j, v j = 0) ∨ ∃ c l, st[c]? = some (some l) ∧ (∀ j, j < c → v j = 0) ∧ v c ≠ 0 ∧ ∃ q, v c = q * fv l c := by
  obtain ⟨z, hz⟩ := (gens_self st).sp hv
  have tri := e.tri
  have least : ∀ k, k ≤ (cols st).length → (∀ s, s < k → z s = 0) ∨ ∃ s, s < k ∧ z s ≠ 0 ∧ ∀ t, t < s → z t = 0 := by
    intro k
    induction k with
    | zero => exact fun _ => .inl fun s hs => by omega
    | succ k ih =>
      intro hk
      rcases ih (by omega) with h | ⟨s, h1, h2, h3⟩
      · by_cases hz : z k = 0
        · exact .inl fun s hs => by
            by_cases e : s = k
            · rw [e]; exact hz
            · exact h s (by omega)
        · exact .inr ⟨k, by omega, hz, h⟩
      · exact .inr ⟨s, by omega, h2, h3⟩
  rcases least _ (Nat.le_refl _) with h | ⟨s, h1, h2, h3⟩
  · exact .inl fun j => by rw [hz]; exact sm_zero fun s hs => by rw [h s hs, Int.zero_mul]
  · refine .inr ⟨cI st s, rowAt st[cI st s]?, cI_step h1, fun j hj => ?_, ?_⟩
    · rw [hz]
      refine sm_zero fun t ht => ?_
      by_cases hts : t < s
      · rw [h3 t hts, Int.zero_mul]
      · have : cI st s ≤ cI st t := by
          by_cases e : s = t
          · rw [e]; exact Nat.le_refl _
          · exact Nat.le_of_lt (cI_lt (by omega) ht)
        have z0 : TI st t j = 0 := e.lo _ _ _ (cI_step ht) (by omega)
        rw [z0, Int.mul_zero]
    · have ev : v (cI st s) = z s * TI st s (cI st s) := by
        rw [hz]
        refine sm_one h1 fun t ht hne => ?_
        by_cases hts : t < s
        · rw [h3 t hts, Int.zero_mul]
        · rw [tri.lo t s ht (by omega), Int.mul_zero]
      refine ⟨fun h => ?_, z s, ev⟩
      rw [ev] at h
      rcases Int.mul_eq_zero.mp h with h | h
      · exact h2 h
      · exact tri.nz s h1 h
/-! ### the bounds -/
def pB (N M : Nat) : Nat := (2 * N * M) ^ (N + 1)
def zB (N M : Nat) : Nat := (N + 1) * ((2 * N * M) ^ N * M * (pB N M + 1) ^ (N + 1)) + N * ((2 * N * M) ^ N * pB N M)
def bnd (M : Nat) (u : Vc) : Prop := ∀ j, (u j).natAbs ≤ M
theorem Ech.pivB {N M : Nat} {st : Steps} {R : Vc → Prop} (e : Ech N st) (hM : 1 ≤ M) (hR : ∀ u, R u → bnd M u) (h : ∀ v, Sp R v ↔ Sp (RowsOf st) v) {c : Nat} {l : List Int} (hc : st[c]? = some (some l)) : (fv l c).natAbs ≤ pB N M := by
  obtain ⟨i, hi, ei⟩ := cI_of hc
  have := piv_bound hM e.tri (gens_of h) (fun u hu i _ => hR u hu _) e.m_le hi
  unfold TI at this
  rw [ei, hc] at this
  exact this
theorem natAbs_add3 {a b c : Int} {x y z : Nat} (ha : a.natAbs ≤ x) (hb : b.natAbs ≤ y) (hc : c.natAbs ≤ z) : (a + b + c).natAbs ≤ x + y + z := by omega
/-- what is short on the pivots is short -/
theorem Ech.sizeB {N M : Nat} {st : Steps} {R : Vc → Prop} (e : Ech N st) (hM : 1 ≤ M) (hR : ∀ u, R u → bnd M u) (h : ∀ v, Sp R v ↔ Sp (RowsOf st) v) {u v w : Vc} {a : Int} (hu : bnd M u) (hw : Sp R w) (ha : a.natAbs ≤ (pB N M + 1) ^ (N + 1))
    (hv : ∀ j, v j = a * u j + w j) (hs : ∀ c l, st[c]? = some (some l) → (v c).natAbs ≤ pB N M) {j : Nat} (hj : j < N) : (v j).natAbs ≤ zB N M := by
  have hX : 1 ≤ 2 * N * M := Nat.mul_pos (by omega) hM
  have hXN : 1 ≤ (2 * N * M) ^ N := Nat.pow_pos hX
  have hz : pB N M ≤ zB N M := by
    unfold zB
    have : pB N M ≤ N * ((2 * N * M) ^ N * pB N M) := Nat.le_trans (Nat.le_mul_of_pos_left _ hXN) (Nat.le_mul_of_pos_left _ (by omega))
    omega
  by_cases hst : ∃ l, st[j]? = some (some l)
  · obtain ⟨l, hl⟩ := hst
    exact Nat.le_trans (hs j l hl) hz
  · have mlt := e.m_lt hj fun l hl => hst ⟨l, hl⟩
    obtain ⟨x, d, d0, dB, xB, hf⟩ := form_bound hM e.tri (gens_of h) hR mlt j
    have f1 := hf w hw
    generalize hm : (cols st).length = m at *
    generalize hW : (2 * N * M) ^ N = W at *
    have hci : ∀ i, i < m → (v (cI st i)).natAbs ≤ pB N M := fun i hi => hs _ _ (cI_step (by omega))
    -- d v j = a (d u j) - sum x v + a sum x u
    have key : d * v j = a * (d * u j) + -(sm m fun i => x i * v (cI st i)) + a * sm m fun i => x i * u (cI st i) := by
      have e1 : sm m (fun i => x i * v (cI st i)) = a * sm m (fun i => x i * u (cI st i)) + sm m (fun i => x i * w (cI st i)) := by
        rw [← sm_mul, ← sm_add]
        exact sm_congr fun i _ => by rw [hv]; grind
      rw [e1, hv j]
      grind
    have b1 : (a * (d * u j)).natAbs ≤ (pB N M + 1) ^ (N + 1) * (W * M) := by
      rw [Int.natAbs_mul, Int.natAbs_mul]
      exact Nat.mul_le_mul ha (Nat.mul_le_mul dB (hu j))
    have b2 : (-(sm m fun i => x i * v (cI st i))).natAbs ≤ N * (W * pB N M) := by
      rw [Int.natAbs_neg]
      refine Nat.le_trans (sm_abs (B := W * pB N M) fun i hi => ?_) (Nat.mul_le_mul_right _ (by omega))
      rw [Int.natAbs_mul]
      exact Nat.mul_le_mul (xB i hi) (hci i hi)
    have b3 : (a * sm m fun i => x i * u (cI st i)).natAbs ≤ (pB N M + 1) ^ (N + 1) * (N * (W * M)) := by
      rw [Int.natAbs_mul]
      refine Nat.mul_le_mul ha (Nat.le_trans (sm_abs (B := W * M) fun i hi => ?_) (Nat.mul_le_mul_right _ (by omega)))
      rw [Int.natAbs_mul]
      exact Nat.mul_le_mul (xB i hi) (hu _)
    have b4 := natAbs_add3 b1 b2 b3
    rw [← key] at b4
    have hd : (v j).natAbs ≤ (d * v j).natAbs := by
      rw [Int.natAbs_mul]
      exact Nat.le_mul_of_pos_left _ (by omega)
    refine Nat.le_trans hd (Nat.le_trans b4 ?_)
    unfold zB
    rw [hW]
    generalize (pB N M + 1) ^ (N + 1) = Q
    have e5 : (N + 1) * (W * M * Q) = Q * (N * (W * M)) + Q * (W * M) := by grind
    omega
theorem le_mul1 {a b : Int} (hb : 0 ≤ b) (ha : 1 ≤ a) : b ≤ a * b := by
  have := Int.mul_le_mul_of_nonneg_right ha hb
  omega
/-! ### reduced steps: there is one list of them for a lattice -/
def Red (st : Steps) : Prop := ∀ (c : Nat) (l : List Int) (j : Nat) (l' : List Int), st[c]? = some (some l) → c < j → st[j]? = some (some l') → 0 ≤ fv l j ∧ fv l j < fv l' j
theorem Sp.sub {R : Vc → Prop} {u v : Vc} (hu : Sp R u) (hv : Sp R v) : Sp R (fun j => u j - v j) := (hu.comb 1 (-1) hv).cast fun j => by omega
theorem uniq_aux {N : Nat} {a b : Steps} (ea : Ech N a) (eb : Ech N b) (ra : Red a) (rb : Red b) (h : ∀ v, Sp (RowsOf a) v ↔ Sp (RowsOf b) v) {c : Nat} {l : List Int} (hc : a[c]? = some (some l)) : b[c]? = some (some l) := by
  have step : ∀ {a b : Steps} (_ : Ech N a) (_ : Ech N b) (_ : ∀ v, Sp (RowsOf a) v → Sp (RowsOf b) v) {c : Nat} {l : List Int}, a[c]? = some (some l) → ∃ l', b[c]? = some (some l') ∧ ∃ q, fv l c = q * fv l' c := by
    intro a b ea eb h c l hc
    have hp := ea.piv _ _ hc
    rcases lead eb (h _ (.of ⟨c, l, hc, rfl⟩)) with h0 | ⟨c', l', hc', hz, hn, q, hq⟩
    · have := h0 c; omega
    · have : c' = c := by
        rcases Nat.lt_trichotomy c' c with g | g | g
        · exact absurd (ea.lo _ _ _ hc g) hn
        · exact g
        · have := hz c g; omega
      subst this
      exact ⟨l', hc', q, hq⟩
  obtain ⟨l', hc', q, hq⟩ := step ea eb (fun v hv => (h v).mp hv) hc
  obtain ⟨l2, hc2, q2, hq2⟩ := step eb ea (fun v hv => (h v).mpr hv) hc'
  rw [hc] at hc2
  cases hc2
  have hp := ea.piv _ _ hc
  have hp' := eb.piv _ _ hc'
  have hpe : fv l c = fv l' c := by
    have q1 : 0 < q := by
      apply Classical.byContradiction
      intro hh
      have : q * fv l' c ≤ 0 := Int.mul_nonpos_of_nonpos_of_nonneg (by omega) (by omega)
      omega
    have q3 : 0 < q2 := by
      apply Classical.byContradiction
      intro hh
      have : q2 * fv l c ≤ 0 := Int.mul_nonpos_of_nonpos_of_nonneg (by omega) (by omega)
      omega
    have a1 : fv l' c ≤ q * fv l' c := le_mul1 (by omega) (by omega)
    have a2 : fv l c ≤ q2 * fv l c := le_mul1 (by omega) (by omega)
    omega
  have hd : Sp (RowsOf b) (fun j => fv l j - fv l' j) := Sp.sub ((h _).mp (.of ⟨c, l, hc, rfl⟩)) (.of ⟨c, l', hc', rfl⟩)
  have he : ∀ j, fv l j = fv l' j := by
    rcases lead eb hd with h0 | ⟨k, lk, hk, hz, hn, q3, hq3⟩
    · exact fun j => by have := h0 j; omega
    · exfalso
      have hck : c < k := by
        rcases Nat.lt_trichotomy c k with g | g | g
        · exact g
        · subst g; exact absurd (show fv l c - fv l' c = 0 by omega) hn
        · exact absurd (show fv l k - fv l' k = 0 by rw [ea.lo _ _ _ hc g, eb.lo _ _ _ hc' g]; rfl) hn
      obtain ⟨la, hla, qa, hqa⟩ := step eb ea (fun v hv => (h v).mpr hv) hk
      obtain ⟨lb, hlb, qb, hqb⟩ := step ea eb (fun v hv => (h v).mp hv) hla
      rw [hk] at hlb
      cases hlb
      have pk := eb.piv _ _ hk
      have pa := ea.piv _ _ hla
      have hpk : fv la k = fv lk k := by
        have q1 : 0 < qa := by
          apply Classical.byContradiction
          intro hh
          have : qa * fv la k ≤ 0 := Int.mul_nonpos_of_nonpos_of_nonneg (by omega) (by omega)
          omega
        have q2 : 0 < qb := by
          apply Classical.byContradiction
          intro hh
          have : qb * fv lk k ≤ 0 := Int.mul_nonpos_of_nonpos_of_nonneg (by omega) (by omega)
          omega
        have a1 : fv la k ≤ qa * fv la k := le_mul1 (by omega) (by omega)
        have a2 : fv lk k ≤ qb * fv lk k := le_mul1 (by omega) (by omega)
        omega
      have r1 := ra c l k la hc hck hla
      have r2 := rb c l' k lk hc' hck hk
      change fv l k - fv l' k ≠ 0 at hn
      change fv l k - fv l' k = q3 * fv lk k at hq3
      rcases Int.lt_trichotomy q3 0 with g | g | g
      · have : (-q3) * fv lk k ≥ fv lk k := le_mul1 (by omega) (by omega)
        rw [Int.neg_mul] at this
        omega
      · rw [g] at hq3; omega
      · have : q3 * fv lk k ≥ fv lk k := le_mul1 (by omega) (by omega)
        omega
  have : l = l' := fv_ext (by rw [ea.row _ _ hc, eb.row _ _ hc']) he
  rw [hc', this]
theorem uniq {N : Nat} {a b : Steps} (ea : Ech N a) (eb : Ech N b) (ra : Red a) (rb : Red b) (h : ∀ v, Sp (RowsOf a) v ↔ Sp (RowsOf b) v) : a = b := by
  refine List.ext_getElem? fun c => ?_
  by_cases hc : c < N
  · have hca : c < a.length := by rw [ea.len]; exact hc
    have hcb : c < b.length := by rw [eb.len]; exact hc
    have ha : a[c]? = some a[c] := List.getElem?_eq_getElem hca
    have hb : b[c]? = some b[c] := List.getElem?_eq_getElem hcb
    rcases hA : a[c] with _ | l
    · rcases hB : b[c] with _ | l
      · rw [ha, hb, hA, hB]
      · rw [hB] at hb
        have := uniq_aux eb ea rb ra (fun v => (h v).symm) hb
        rw [ha, hA] at this
        cases this
    · rw [hA] at ha
      rw [ha, uniq_aux ea eb ra rb h ha]
  · rw [List.getElem?_eq_none (by rw [ea.len]; omega), List.getElem?_eq_none (by rw [eb.len]; omega)]
end Hn

namespace Hn
def lessL (xs : List Int) (q : Int) (ys : List Int) : List Int := List.zipWith (fun e t => e - q * t) xs ys
def combL (f : Int) (xs : List Int) (g : Int) (ys : List Int) : List Int := List.zipWith (fun e a => f * e + g * a) xs ys
theorem fv_less {xs ys : List Int} {q : Int} (h : xs.length = ys.length) (j : Nat) : fv (lessL xs q ys) j = fv xs j - q * fv ys j := fv_zip (f := fun e t => e - q * t) (by simp) h j
theorem fv_comb {xs ys : List Int} {f g : Int} (h : xs.length = ys.length) (j : Nat) : fv (combL f xs g ys) j = f * fv xs j + g * fv ys j := fv_zip (f := fun e a => f * e + g * a) (by simp) h j
theorem len_less {xs ys : List Int} {q : Int} (h : xs.length = ys.length) : (lessL xs q ys).length = xs.length := by unfold lessL; rw [List.length_zipWith]; omega
theorem len_comb {xs ys : List Int} {f g : Int} (h : xs.length = ys.length) : (combL f xs g ys).length = xs.length := by unfold combL; rw [List.length_zipWith]; omega
theorem bnd_less {A Q B : Nat} {xs ys : List Int} {q : Int} (h : xs.length = ys.length) (hx : bnd A (fv xs)) (hq : q.natAbs ≤ Q) (hy : bnd B (fv ys)) : bnd (A + Q * B) (fv (lessL xs q ys)) := fun j => by
  rw [fv_less h]
  have h1 : (q * fv ys j).natAbs ≤ Q * B := by rw [Int.natAbs_mul]; exact Nat.mul_le_mul hq (hy j)
  have h2 := hx j
  omega
theorem bnd_comb {A B F G : Nat} {xs ys : List Int} {f g : Int} (h : xs.length = ys.length) (hf : f.natAbs ≤ F) (hx : bnd A (fv xs)) (hg : g.natAbs ≤ G) (hy : bnd B (fv ys)) : bnd (F * A + G * B) (fv (combL f xs g ys)) := fun j => by
  rw [fv_comb h]
  have h1 : (f * fv xs j).natAbs ≤ F * A := by rw [Int.natAbs_mul]; exact Nat.mul_le_mul hf (hx j)
  have h2 : (g * fv ys j).natAbs ≤ G * B := by rw [Int.natAbs_mul]; exact Nat.mul_le_mul hg (hy j)
  omega
theorem bnd_mono {A B : Nat} (h : A ≤ B) {v : Vc} (hv : bnd A v) : bnd B v := fun j => Nat.le_trans (hv j) h
theorem bnd_out {N A : Nat} {l : List Int} (hl : l.length = N) (h : ∀ j, j < N → (fv l j).natAbs ≤ A) : bnd A (fv l) := fun j => by
  by_cases hj : j < N
  · exact h j hj
  · rw [fv_out (by omega)]; simp
/-! ### a row brought below the pivots behind a column -/
structure LowTo (N : Nat) (st : Steps) (c p : Nat) (xs zs : List Int) : Prop where
  len : zs.length = N
  dif : ∃ w : Vc, Sp (RowsGt st c) w ∧ ∀ j, fv zs j = fv xs j + w j
  red : ∀ (k : Nat) (l : List Int), c < k → k < p → st[k]? = some (some l) → 0 ≤ fv zs k ∧ fv zs k < fv l k
theorem LowTo.start {N : Nat} {st : Steps} {c : Nat} {xs : List Int} (h : xs.length = N) : LowTo N st c (c + 1) xs xs :=
  ⟨h, ⟨_, .zero, fun j => by omega⟩, fun k l h1 h2 => by omega⟩
theorem LowTo.none {N : Nat} {st : Steps} {c p : Nat} {xs zs : List Int} (h : LowTo N st c p xs zs) (hp : ∀ l, st[p]? ≠ some (some l)) : LowTo N st c (p + 1) xs zs :=
  ⟨h.len, h.dif, fun k l h1 h2 h3 => by
    by_cases e : k = p
    · exact absurd (e ▸ h3) (hp l)
    · exact h.red k l h1 (by omega) h3⟩
theorem LowTo.some {N : Nat} {st : Steps} (e : Ech N st) {c p : Nat} {xs zs l : List Int} (h : LowTo N st c p xs zs) (hcp : c < p) (hp : st[p]? = some (some l)) : LowTo N st c (p + 1) xs (lessL zs (fv zs p / fv l p) l) := by
  have hl := e.row _ _ hp
  have hll : zs.length = l.length := by rw [h.len, hl]
  refine ⟨by rw [len_less hll, h.len], ?_, fun k l' h1 h2 h3 => ?_⟩
  · obtain ⟨w, hw, ew⟩ := h.dif
    exact ⟨_, hw.comb 1 (-(fv zs p / fv l p)) (.of ⟨p, l, hcp, hp, rfl⟩), fun j => by rw [fv_less hll, ew]; grind⟩
  · rw [fv_less hll]
    by_cases ek : k = p
    · subst ek
      rw [hp] at h3
      cases h3
      have pp := e.piv _ _ hp
      have := Int.emod_nonneg (fv zs k) (b := fv l k) (by omega)
      have := Int.emod_lt_of_pos (fv zs k) pp
      have e3 : fv zs k - fv zs k / fv l k * fv l k = fv zs k % fv l k := by
        have := Int.mul_ediv_add_emod (fv zs k) (fv l k)
        rw [Int.mul_comm] at this
        omega
      omega
    · rw [e.lo p l k hp (by omega), Int.mul_zero, Int.sub_zero]
      exact h.red k l' h1 (by omega) h3
abbrev Low (N : Nat) (st : Steps) (c : Nat) (xs zs : List Int) : Prop := LowTo N st c N xs zs
theorem gt_of {st : Steps} {c : Nat} {v : Vc} (h : RowsGt st c v) : RowsOf st v := let ⟨k, l, _, a, b⟩ := h; ⟨k, l, a, b⟩
theorem gt_low {N : Nat} {st : Steps} (e : Ech N st) {c : Nat} {w : Vc} (hw : Sp (RowsGt st c) w) {j : Nat} (hj : j ≤ c) : w j = 0 := hw.at0 fun u ⟨k, l, h1, h2, h3⟩ => by rw [h3]; exact e.lo _ _ _ h2 (by omega)
theorem Low.lo {N : Nat} {st : Steps} (e : Ech N st) {c p : Nat} {xs zs : List Int} (h : LowTo N st c p xs zs) {j : Nat} (hj : j ≤ c) : fv zs j = fv xs j := by
  obtain ⟨w, hw, ew⟩ := h.dif
  rw [ew, gt_low e hw hj]; omega
/-! ### one row enters -/
structure BR (N M : Nat) (R : Vc → Prop) (st : Steps) : Prop where
  e : Ech N st
  sp : ∀ v, Sp R v ↔ Sp (RowsOf st) v
  zs : ∀ (j : Nat) (l : List Int), st[j]? = some (some l) → bnd (zB N M) (fv l)
  rM : ∀ u, R u → bnd M u
structure RI (N M : Nat) (R : Vc → Prop) (st0 : Steps) (u : List Int) (c : Nat) (st : Steps) (row : List Int) : Prop where
  e : Ech N st
  non : ∀ j : Nat, st[j]? = some none ↔ st0[j]? = some none
  same : ∀ j, c ≤ j → st[j]? = st0[j]?
  rl : row.length = N
  rz : ∀ j, j < c → fv row j = 0
  gen : ∀ v, Sp (or1 (RowsOf st) (fv row)) v ↔ Sp (or1 R (fv u)) v
  al : ∃ (a : Int) (w : Vc), a.natAbs ≤ (pB N M + 1) ^ c ∧ Sp R w ∧ ∀ j, fv row j = a * fv u j + w j
  zs : ∀ (j : Nat) (l : List Int), st[j]? = some (some l) → bnd (zB N M) (fv l)
  pv : ∀ (j : Nat) (l : List Int), st[j]? = some (some l) → (fv l j).natAbs ≤ pB N M
  rb : bnd (zB N M * (1 + zB N M) ^ c) (fv row)
theorem m_le_z (N M : Nat) (hM : 1 ≤ M) : M ≤ zB N M := by
  unfold zB
  have h1 : 1 ≤ (2 * N * M) ^ N := by
    cases N with
    | zero => simp
    | succ n => exact Nat.pow_pos (Nat.mul_pos (by omega) hM)
  have h2 : 1 ≤ (pB N M + 1) ^ (N + 1) := Nat.pow_pos (by omega)
  have h3 : M ≤ (2 * N * M) ^ N * M * (pB N M + 1) ^ (N + 1) := Nat.le_trans (Nat.le_mul_of_pos_left M h1) (Nat.le_mul_of_pos_right _ h2)
  have h4 : M ≤ (N + 1) * ((2 * N * M) ^ N * M * (pB N M + 1) ^ (N + 1)) := Nat.le_trans h3 (Nat.le_mul_of_pos_left _ (by omega))
  omega
theorem sp_or {R R' : Vc → Prop} {u : Vc} (h : ∀ v, Sp R v ↔ Sp R' v) (v : Vc) : Sp (or1 R u) v ↔ Sp (or1 R' u) v := by
  have key : ∀ {R R' : Vc → Prop}, (∀ v, Sp R v → Sp R' v) → ∀ v, Sp (or1 R u) v → Sp (or1 R' u) v := fun h v hv => hv.trans fun x hx => by
    rcases hx with hx | hx
    · exact (h x (.of hx)).mono fun y hy => .inl hy
    · exact .of (.inr hx)
  exact ⟨key (fun v => (h v).mp) v, key (fun v => (h v).mpr) v⟩
section
variable {N M : Nat} {R : Vc → Prop} {st0 : Steps} {u : List Int}
theorem RI.start (b : BR N M R st0) (hM : 1 ≤ M) (hl : u.length = N) (hu : bnd M (fv u)) : RI N M R st0 u 0 st0 u :=
  ⟨b.e, fun _ => Iff.rfl, fun _ _ => rfl, hl, fun j hj => by omega, fun v => sp_or (fun v => (b.sp v).symm) v, ⟨1, _, by simp, .zero, fun j => by omega⟩, b.zs, fun j l h => b.e.pivB hM b.rM b.sp h,
    bnd_mono (by rw [Nat.pow_zero, Nat.mul_one]; exact m_le_z N M hM) hu⟩
variable {c : Nat} {st : Steps} {row : List Int}
theorem RI.toR (b : BR N M R st0) (I : RI N M R st0 u c st row) {v : Vc} (h : Sp (RowsGt st c) v) : Sp R v :=
  h.trans fun x ⟨k, l, h1, h2, h3⟩ => (b.sp x).mpr (.of ⟨k, l, by rw [← I.same k (by omega)]; exact h2, h3⟩)
theorem RI.skip (I : RI N M R st0 u c st row) (h : fv row c = 0) : RI N M R st0 u (c + 1) st row :=
  ⟨I.e, I.non, fun j hj => I.same j (by omega), I.rl, fun j hj => by
      by_cases e : j = c
      · rw [e]; exact h
      · exact I.rz j (by omega), I.gen, by
      obtain ⟨a, w, h1, h2, h3⟩ := I.al
      exact ⟨a, w, Nat.le_trans h1 (Nat.pow_le_pow_right (by omega) (by omega)), h2, h3⟩, I.zs, I.pv, bnd_mono (Nat.mul_le_mul_left _ (Nat.pow_le_pow_right (by omega) (by omega))) I.rb⟩
theorem or1_l {R : Vc → Prop} {u v : Vc} (h : Sp R v) : Sp (or1 R u) v := h.mono fun x hx => .inl hx
theorem or1_r {R : Vc → Prop} {u : Vc} : Sp (or1 R u) u := .of (.inr rfl)
theorem RI.less (b : BR N M R st0) (I : RI N M R st0 u c st row) {l : List Int} {q : Int} (hc : st[c]? = some (some l)) (hq : fv row c = q * fv l c) : RI N M R st0 u (c + 1) st (lessL row q l) := by
  have hl := I.e.row _ _ hc
  have hll : row.length = l.length := by rw [I.rl, hl]
  have pl := I.e.piv _ _ hc
  have el : Sp (RowsOf st) (fv l) := .of ⟨c, l, hc, rfl⟩
  refine ⟨I.e, I.non, fun j hj => I.same j (by omega), by rw [len_less hll, I.rl], fun j hj => ?_, fun v => ?_, ?_, I.zs, I.pv, ?_⟩
  · rw [fv_less hll]
    by_cases e : j = c
    · rw [e, hq]; omega
    · rw [I.rz j (by omega), I.e.lo _ _ _ hc (by omega)]; omega
  · rw [← I.gen v]
    constructor
    · refine fun hv => hv.trans fun x hx => ?_
      rcases hx with hx | hx
      · exact .of (.inl hx)
      · rw [hx]
        exact ((or1_r (R := RowsOf st) (u := fv row)).comb 1 (-q) (or1_l el)).cast fun j => by rw [fv_less hll]; grind
    · refine fun hv => hv.trans fun x hx => ?_
      rcases hx with hx | hx
      · exact .of (.inl hx)
      · rw [hx]
        exact ((or1_r (R := RowsOf st) (u := fv (lessL row q l))).comb 1 q (or1_l el)).cast fun j => by rw [fv_less hll]; grind
  · obtain ⟨a, w, h1, h2, h3⟩ := I.al
    have lR : Sp R (fv l) := (b.sp _).mpr (.of ⟨c, l, by rw [← I.same c (Nat.le_refl c)]; exact hc, rfl⟩)
    exact ⟨a, _, Nat.le_trans h1 (Nat.pow_le_pow_right (by omega) (by omega)), h2.comb 1 (-q) lR, fun j => by rw [fv_less hll, h3]; grind⟩
  · have hqb : q.natAbs ≤ zB N M * (1 + zB N M) ^ c := by
      have h1 : (fv row c).natAbs = q.natAbs * (fv l c).natAbs := by rw [hq, Int.natAbs_mul]
      have h2 := I.rb c
      have h3 : q.natAbs ≤ q.natAbs * (fv l c).natAbs := Nat.le_mul_of_pos_right _ (by omega)
      omega
    refine bnd_mono ?_ (bnd_less hll I.rb hqb (I.zs _ _ hc))
    rw [Nat.pow_succ, ← Nat.mul_assoc, Nat.mul_add, Nat.mul_one]
    exact Nat.le_refl _
/-- what a vector of the new lattice measures that is reduced behind c -/
theorem RI.size (b : BR N M R st0) (hM : 1 ≤ M) (hu : bnd M (fv u)) (I : RI N M R st0 u c st row) {zs : List Int} (hl : zs.length = N) {a : Int} {w : Vc} (ha : a.natAbs ≤ (pB N M + 1) ^ (N + 1)) (hw : Sp R w) (hv : ∀ j, fv zs j = a * fv u j + w j)
    (h0 : ∀ j, j < c → fv zs j = 0) (h1 : ∀ l, st0[c]? = some (some l) → (fv zs c).natAbs ≤ pB N M) (h2 : ∀ (k : Nat) (l : List Int), c < k → st[k]? = some (some l) → 0 ≤ fv zs k ∧ fv zs k < fv l k) : bnd (zB N M) (fv zs) := by
  refine bnd_out hl fun j hj => b.e.sizeB hM b.rM b.sp hu hw ha hv (fun k l hk => ?_) hj
  rcases Nat.lt_trichotomy k c with g | g | g
  · rw [h0 k g]; simp
  · subst g; exact h1 l hk
  · have hk' : st[k]? = some (some l) := by rw [I.same k (by omega)]; exact hk
    have := h2 k l g hk'
    have := b.e.pivB hM b.rM b.sp hk
    omega
theorem set_at {st : Steps} {c : Nat} {x : Option (List Int)} (h : c < st.length) (j : Nat) : (st.set c x)[j]? = if j = c then some x else st[j]? := by
  rw [List.getElem?_set]
  by_cases e : c = j
  · rw [if_pos e, if_pos e.symm, if_pos h]
  · rw [if_neg e, if_neg (Ne.symm e)]
theorem RI.cN (I : RI N M R st0 u c st row) {l : List Int} (hc : st[c]? = some (some l)) : c < st.length := by rw [I.e.len]; exact I.e.lt hc
theorem RI.merge (b : BR N M R st0) (hM : 1 ≤ M) (hu : bnd M (fv u)) (I : RI N M R st0 u c st row) {l new left : List Int} {g s t p r : Int} (hc : st[c]? = some (some l)) (hg : 0 < g) (ep : fv l c = p * g) (er : fv row c = r * g) (eg : s * fv l c + t * fv row c = g)
    (ht : t.natAbs ≤ 1 + (fv l c).natAbs) (hn : Low N st c (combL s l t row) new) (hf : Low N st c (combL (-r) l p row) left) : RI N M R st0 u (c + 1) (st.set c (some new)) left := by
  have hl := I.e.row _ _ hc
  have hll : l.length = row.length := by rw [I.rl, hl]
  have pl := I.e.piv _ _ hc
  have cN := I.cN hc
  have cN' : c < N := I.e.lt hc
  have one : s * p + t * r = 1 := by
    have : (s * p + t * r) * g = 1 * g := by rw [ep, er] at eg; grind
    exact Int.eq_of_mul_eq_mul_right (by omega) this
  obtain ⟨w1, hw1, e1⟩ := hn.dif
  obtain ⟨w2, hw2, e2⟩ := hf.dif
  have p1 : fv l c = p * g := ep
  have newc : fv new c = g := by rw [Low.lo I.e hn (Nat.le_refl c), fv_comb hll]; exact eg
  have new0 : ∀ j, j < c → fv new j = 0 := fun j hj => by rw [Low.lo I.e hn (by omega), fv_comb hll, I.e.lo _ _ _ hc hj, I.rz j hj]; simp
  have left0 : ∀ j, j < c + 1 → fv left j = 0 := fun j hj => by
    rw [Low.lo I.e hf (by omega), fv_comb hll]
    by_cases e : j = c
    · rw [e, ep, er]; grind
    · rw [I.e.lo _ _ _ hc (by omega), I.rz j (by omega)]; simp
  have lR : Sp R (fv l) := (b.sp _).mpr (.of ⟨c, l, by rw [← I.same c (Nat.le_refl c)]; exact hc, rfl⟩)
  have gle : g.natAbs ≤ pB N M := by
    have h1 := I.pv _ _ hc
    have hp : 0 < p := by
      apply Classical.byContradiction
      intro hh
      have : p * g ≤ 0 := Int.mul_nonpos_of_nonpos_of_nonneg (by omega) (by omega)
      omega
    have : g ≤ p * g := le_mul1 (by omega) (by omega)
    omega
  have ple : p.natAbs ≤ pB N M := by
    have h1 := I.pv _ _ hc
    have h2 : (fv l c).natAbs = p.natAbs * g.natAbs := by rw [ep, Int.natAbs_mul]
    have h3 : p.natAbs ≤ p.natAbs * g.natAbs := Nat.le_mul_of_pos_right _ (by omega)
    omega
  obtain ⟨a, w, ha, hw, hv⟩ := I.al
  have Q1 : 1 ≤ pB N M + 1 := by omega
  have up : ∀ x : Int, x.natAbs ≤ pB N M + 1 → (x * a).natAbs ≤ (pB N M + 1) ^ (c + 1) := fun x hx => by
    rw [Int.natAbs_mul, Nat.pow_succ, Nat.mul_comm]
    exact Nat.mul_le_mul ha hx
  have tb : t.natAbs ≤ pB N M + 1 := by have := I.pv _ _ hc; omega
  have alN : ∀ j, fv new j = (t * a) * fv u j + (s * fv l j + t * w j + w1 j) := fun j => by rw [e1, fv_comb hll, hv]; grind
  have alF : ∀ j, fv left j = (p * a) * fv u j + (-r * fv l j + p * w j + w2 j) := fun j => by rw [e2, fv_comb hll, hv]; grind
  have spN : Sp R (fun j => s * fv l j + t * w j + w1 j) := (lR.comb s t hw).plus (I.toR b hw1)
  have spF : Sp R (fun j => -r * fv l j + p * w j + w2 j) := (lR.comb (-r) p hw).plus (I.toR b hw2)
  have powN : (pB N M + 1) ^ (c + 1) ≤ (pB N M + 1) ^ (N + 1) := Nat.pow_le_pow_right Q1 (by omega)
  have zN : bnd (zB N M) (fv new) := I.size b hM hu hn.len (Nat.le_trans (up t tb) powN) spN alN new0 (fun _ _ => by rw [newc]; exact gle) fun k l' h1 h2 => hn.red k l' h1 (I.e.lt h2) h2
  have zF : bnd (zB N M) (fv left) := I.size b hM hu hf.len (Nat.le_trans (up p (by omega)) powN) spF alF (fun j hj => left0 j (by omega)) (fun _ _ => by rw [left0 c (by omega)]; simp) fun k l' h1 h2 => hf.red k l' h1 (I.e.lt h2) h2
  have at_ : ∀ j x, (st.set c (some new))[j]? = some (some x) → (j = c ∧ x = new) ∨ (j ≠ c ∧ st[j]? = some (some x)) := fun j x h => by
    rw [set_at cN] at h
    by_cases e : j = c
    · rw [if_pos e] at h; cases h; exact .inl ⟨e, rfl⟩
    · rw [if_neg e] at h; exact .inr ⟨e, h⟩
  refine ⟨⟨by rw [List.length_set]; exact I.e.len, fun k x hk => ?_, fun k x j hk hj => ?_, fun k x hk => ?_⟩, fun j => ?_, fun j hj => ?_, hf.len, left0, fun v => ?_, ⟨p * a, _, up p (by omega), spF, alF⟩, fun k x hk => ?_, fun k x hk => ?_, bnd_mono (Nat.le_mul_of_pos_right _ (Nat.pow_pos (by omega))) zF⟩
  · rcases at_ k x hk with ⟨rfl, rfl⟩ | ⟨_, h⟩
    · exact hn.len
    · exact I.e.row _ _ h
  · rcases at_ k x hk with ⟨rfl, rfl⟩ | ⟨_, h⟩
    · exact new0 j hj
    · exact I.e.lo _ _ _ h hj
  · rcases at_ k x hk with ⟨rfl, rfl⟩ | ⟨_, h⟩
    · rw [newc]; exact hg
    · exact I.e.piv _ _ h
  · rw [set_at cN]
    by_cases e : j = c
    · rw [if_pos e, e]
      constructor
      · intro h; cases h
      · intro h
        rw [← I.same c (Nat.le_refl c), hc] at h
        cases h
    · rw [if_neg e]; exact I.non j
  · rw [set_at cN, if_neg (by omega)]; exact I.same j (by omega)
  · rw [← I.gen v]
    have gt' : ∀ {w : Vc}, Sp (RowsGt st c) w → Sp (RowsOf (st.set c (some new))) w := fun h => h.mono fun x ⟨k, l', h1, h2, h3⟩ => ⟨k, l', by rw [set_at cN, if_neg (by omega)]; exact h2, h3⟩
    constructor
    · refine fun hv => hv.trans fun x hx => ?_
      rcases hx with ⟨k, x', hk, rfl⟩ | rfl
      · rcases at_ k x' hk with ⟨rfl, rfl⟩ | ⟨_, h⟩
        · exact (((or1_l (.of ⟨k, l, hc, rfl⟩)).comb s t or1_r).plus (or1_l (hw1.mono fun _ => gt_of))).cast fun j => by rw [e1, fv_comb hll]
        · exact or1_l (.of ⟨k, x', h, rfl⟩)
      · exact (((or1_l (.of ⟨c, l, hc, rfl⟩)).comb (-r) p or1_r).plus (or1_l (hw2.mono fun _ => gt_of))).cast fun j => by rw [e2, fv_comb hll]
    · have hnew : Sp (or1 (RowsOf (st.set c (some new))) (fv left)) (fun j => fv new j - w1 j) := Sp.sub (or1_l (.of ⟨c, new, by rw [set_at cN, if_pos rfl], rfl⟩)) (or1_l (gt' hw1))
      have hleft : Sp (or1 (RowsOf (st.set c (some new))) (fv left)) (fun j => fv left j - w2 j) := Sp.sub or1_r (or1_l (gt' hw2))
      refine fun hv => hv.trans fun x hx => ?_
      rcases hx with ⟨k, x', hk, rfl⟩ | rfl
      · by_cases e : k = c
        · subst e
          rw [hc] at hk
          cases hk
          refine (hnew.comb p (-t) hleft).cast fun j => ?_
          rw [e1, e2, fv_comb hll, fv_comb hll]
          have : fv l j = (s * p + t * r) * fv l j := by rw [one, Int.one_mul]
          grind
        · exact or1_l (.of ⟨k, x', by rw [set_at cN, if_neg e]; exact hk, rfl⟩)
      · refine (hnew.comb r s hleft).cast fun j => ?_
        rw [e1, e2, fv_comb hll, fv_comb hll]
        have : fv row j = (s * p + t * r) * fv row j := by rw [one, Int.one_mul]
        grind
  · rcases at_ k x hk with ⟨rfl, rfl⟩ | ⟨_, h⟩
    · exact zN
    · exact I.zs _ _ h
  · rcases at_ k x hk with ⟨rfl, rfl⟩ | ⟨_, h⟩
    · rw [newc]; exact gle
    · exact I.pv _ _ h
theorem or1_M (hR : ∀ v, R v → bnd M v) (hu : bnd M (fv u)) : ∀ v, or1 R (fv u) v → bnd M v := fun v h => h.elim (hR v) fun e => e ▸ hu
theorem RI.fin (b : BR N M R st0) (hu : bnd M (fv u)) (I : RI N M R st0 u N st row) : BR N M (or1 R (fv u)) st := by
  refine ⟨I.e, fun v => ?_, I.zs, or1_M b.rM hu⟩
  rw [← I.gen v]
  have r0 : ∀ j, fv row j = 0 := fun j => by
    by_cases hj : j < N
    · exact I.rz j hj
    · exact fv_out (by rw [I.rl]; omega)
  exact ⟨fun h => h.trans fun x hx => hx.elim .of fun e => Sp.zero.cast fun j => by rw [e, r0], or1_l⟩
theorem RI.create (b : BR N M R st0) (hM : 1 ≤ M) (hu : bnd M (fv u)) (I : RI N M R st0 u c st row) (hc : st[c]? = some none) {k : Int} (hk : k = 1 ∨ k = -1) {pos z : List Int} (hl : pos.length = N) (ep : ∀ j, fv pos j = k * fv row j) (hp : 0 < fv pos c) (hz : Low N st c pos z) :
    BR N M (or1 R (fv u)) (st.set c (some z)) := by
  have cN' : c < N := I.e.lt hc
  have cN : c < st.length := by rw [I.e.len]; exact cN'
  have kk : k * k = 1 := by rcases hk with h | h <;> rw [h] <;> rfl
  have ka : k.natAbs ≤ 1 := by rcases hk with h | h <;> rw [h] <;> decide
  obtain ⟨w1, hw1, e1⟩ := hz.dif
  obtain ⟨a, w, ha, hw, hv⟩ := I.al
  have zc : fv z c = fv pos c := Low.lo I.e hz (Nat.le_refl c)
  have z0 : ∀ j, j < c → fv z j = 0 := fun j hj => by rw [Low.lo I.e hz (by omega), ep, I.rz j hj, Int.mul_zero]
  have alZ : ∀ j, fv z j = (k * a) * fv u j + (k * w j + w1 j) := fun j => by rw [e1, ep, hv]; grind
  have zZ : bnd (zB N M) (fv z) := I.size b hM hu hz.len (a := k * a) (by
      rw [Int.natAbs_mul]
      have h1 : (pB N M + 1) ^ c ≤ (pB N M + 1) ^ (N + 1) := Nat.pow_le_pow_right (by omega) (by omega)
      have h2 : k.natAbs * a.natAbs ≤ 1 * (pB N M + 1) ^ c := Nat.mul_le_mul ka ha
      omega) ((hw.mul k).plus (I.toR b hw1)) alZ z0 (fun l hl => by
      have := (I.non c).mp hc
      rw [this] at hl
      cases hl) fun k l' h1 h2 => hz.red k l' h1 (I.e.lt h2) h2
  have at_ : ∀ j x, (st.set c (some z))[j]? = some (some x) → (j = c ∧ x = z) ∨ (j ≠ c ∧ st[j]? = some (some x)) := fun j x h => by
    rw [set_at cN] at h
    by_cases e : j = c
    · rw [if_pos e] at h; cases h; exact .inl ⟨e, rfl⟩
    · rw [if_neg e] at h; exact .inr ⟨e, h⟩
  refine ⟨⟨by rw [List.length_set]; exact I.e.len, fun k x hk => ?_, fun k x j hk hj => ?_, fun k x hk => ?_⟩, fun v => ?_, fun k x hk => ?_, or1_M b.rM hu⟩
  · rcases at_ k x hk with ⟨rfl, rfl⟩ | ⟨_, h⟩
    · exact hz.len
    · exact I.e.row _ _ h
  · rcases at_ k x hk with ⟨rfl, rfl⟩ | ⟨_, h⟩
    · exact z0 j hj
    · exact I.e.lo _ _ _ h hj
  · rcases at_ k x hk with ⟨rfl, rfl⟩ | ⟨_, h⟩
    · rw [zc]; exact hp
    · exact I.e.piv _ _ h
  · rw [← I.gen v]
    have gt' : ∀ {w : Vc}, Sp (RowsGt st c) w → Sp (RowsOf (st.set c (some z))) w := fun h => h.mono fun x ⟨k, l', h1, h2, h3⟩ => ⟨k, l', by rw [set_at cN, if_neg (by omega)]; exact h2, h3⟩
    constructor
    · refine fun hv => hv.trans fun x hx => ?_
      rcases hx with ⟨k', x', hk', rfl⟩ | rfl
      · by_cases e : k' = c
        · rw [e, hc] at hk'; cases hk'
        · exact .of ⟨k', x', by rw [set_at cN, if_neg e]; exact hk', rfl⟩
      · refine ((Sp.sub (.of ⟨c, z, by rw [set_at cN, if_pos rfl], rfl⟩) (gt' hw1)).mul k).cast fun j => ?_
        show k * (fv z j - w1 j) = _
        rw [e1, ep]
        have : fv row j = (k * k) * fv row j := by rw [kk, Int.one_mul]
        grind
    · refine fun hv => hv.trans fun x ⟨k', x', hk', ex⟩ => ?_
      subst ex
      rcases at_ k' x' hk' with ⟨rfl, rfl⟩ | ⟨_, h⟩
      · exact ((or1_r.mul k).plus (or1_l (hw1.mono fun _ => gt_of))).cast fun j => by rw [e1, ep]
      · exact or1_l (.of ⟨k', x', h, rfl⟩)
  · rcases at_ k x hk with ⟨rfl, rfl⟩ | ⟨_, h⟩
    · exact zZ
    · exact I.zs _ _ h
end
end Hn

namespace Hn
def shift (L : Nat) (v : Vc) : Vc := fun j => if j < L then 0 else v (j - L)
theorem shift_lo {L j : Nat} {v : Vc} (h : j < L) : shift L v j = 0 := if_pos h
theorem shift_hi {L j : Nat} {v : Vc} : shift L v (j + L) = v j := by
  unfold shift
  rw [if_neg (by omega), Nat.add_sub_cancel]
theorem shift_zero {v : Vc} : shift 0 v = v := by
  funext j
  exact shift_hi (L := 0)
theorem fv_drop {l : List Int} {L j : Nat} : fv (l.drop L) j = fv l (j + L) := by
  by_cases h : j + L < l.length
  · refine fv_at ?_
    rw [List.getElem?_drop, Nat.add_comm]
    exact fv_get h
  · rw [fv_out (by rw [List.length_drop]; omega), fv_out (by omega)]
def dropS (L : Nat) (st : Steps) : Steps := (st.drop L).map (Option.map (List.drop L))
theorem dropS_at {L : Nat} {st : Steps} (c : Nat) : (dropS L st)[c]? = (st[L + c]?).map (Option.map (List.drop L)) := by
  unfold dropS
  rw [List.getElem?_map, List.getElem?_drop]
theorem dropS_some {L : Nat} {st : Steps} {c : Nat} {x : List Int} (h : (dropS L st)[c]? = some (some x)) : ∃ l, st[L + c]? = some (some l) ∧ x = l.drop L := by
  rw [dropS_at] at h
  match hh : st[L + c]?, h with
  | some (some l), h => exact ⟨l, rfl, by cases h; rfl⟩
theorem dropS_none {L : Nat} {st : Steps} {c : Nat} : (dropS L st)[c]? = some none ↔ st[L + c]? = some none := by
  rw [dropS_at]
  match st[L + c]? with
  | none => exact ⟨fun h => (nomatch h), fun h => (nomatch h)⟩
  | some none => exact ⟨fun _ => rfl, fun _ => rfl⟩
  | some (some l) => exact ⟨fun h => (nomatch h), fun h => (nomatch h)⟩
structure FI (N M L n : Nat) (R : Vc → Prop) (st : Steps) (k : Nat) (tl : Steps) : Prop where
  e : Ech n tl
  sp : ∀ v, Sp (RowsOf tl) v ↔ Sp R (shift L v)
  non : ∀ c : Nat, tl[c]? = some none ↔ st[L + c]? = some none
  zs : ∀ (c : Nat) (l : List Int), tl[c]? = some (some l) → bnd (zB N M) (fv l)
  pv : ∀ (c : Nat) (l : List Int), tl[c]? = some (some l) → (fv l c).natAbs ≤ pB N M
  red : ∀ (c : Nat) (l : List Int) (j : Nat) (l' : List Int), k ≤ c → tl[c]? = some (some l) → c < j → tl[j]? = some (some l') → 0 ≤ fv l j ∧ fv l j < fv l' j
section
variable {N M L n : Nat} {R : Vc → Prop} {st : Steps}
theorem FI.start (b : BR N M R st) (hM : 1 ≤ M) (hN : N = L + n) : FI N M L n R st n (dropS L st) := by
  have len : (dropS L st).length = n := by
    unfold dropS
    rw [List.length_map, List.length_drop, b.e.len]; omega
  have e : Ech n (dropS L st) := ⟨len, fun c x h => by
      obtain ⟨l, hl, rfl⟩ := dropS_some h
      rw [List.length_drop, b.e.row _ _ hl]; omega, fun c x j h hj => by
      obtain ⟨l, hl, rfl⟩ := dropS_some h
      rw [fv_drop]; exact b.e.lo _ _ _ hl (by omega), fun c x h => by
      obtain ⟨l, hl, rfl⟩ := dropS_some h
      rw [fv_drop, Nat.add_comm]; exact b.e.piv _ _ hl⟩
  refine ⟨e, fun v => ?_, fun c => dropS_none, fun c x h => ?_, fun c x h => ?_, fun c l j l' hk h1 h2 h3 => ?_⟩
  · rw [b.sp]
    constructor
    · intro h
      induction h with
      | zero => exact Sp.zero.cast fun j => by unfold shift; split <;> rfl
      | @add u v k hu _ ih =>
        obtain ⟨c, x, hx, rfl⟩ := hu
        obtain ⟨l, hl, rfl⟩ := dropS_some hx
        refine (Sp.add k ⟨L + c, l, hl, rfl⟩ ih).cast fun j => ?_
        by_cases hj : j < L
        · rw [shift_lo hj, shift_lo hj, b.e.lo _ _ _ hl (by omega)]; simp
        · obtain ⟨i, rfl⟩ : ∃ i, j = i + L := ⟨j - L, by omega⟩
          rw [shift_hi, shift_hi, fv_drop]
    · intro h
      obtain ⟨z, hz⟩ := (gens_self st).sp h
      have hz0 : ∀ s, s < (cols st).length → cI st s < L → z s = 0 := fun s hs hc => b.e.tri.coef hz (k := s + 1) hs (fun i hi => shift_lo (by
        by_cases e : i = s
        · rw [e]; exact hc
        · have := cI_lt (st := st) (i := i) (j := s) (by omega) hs
          omega)) s (by omega)
      have key : Sp (RowsOf (dropS L st)) (fun j => sm (cols st).length fun s => z s * (if cI st s < L then (fun _ => 0 : Vc) else fv ((rowAt st[cI st s]?).drop L)) j) := by
        refine Sp.sum z fun s hs => ?_
        by_cases hc : cI st s < L
        · rw [if_pos hc]; exact .zero
        · rw [if_neg hc]
          refine .of ⟨cI st s - L, _, ?_, rfl⟩
          rw [dropS_at, show L + (cI st s - L) = cI st s by omega, cI_step hs]
          rfl
      refine key.cast fun j => ?_
      rw [← shift_hi (L := L) (v := v), hz]
      refine sm_congr fun s hs => ?_
      by_cases hc : cI st s < L
      · rw [hz0 s hs hc]; simp
      · rw [if_neg hc, fv_drop]; rfl
  · obtain ⟨l, hl, rfl⟩ := dropS_some h
    exact fun j => by rw [fv_drop]; exact b.zs _ _ hl _
  · obtain ⟨l, hl, rfl⟩ := dropS_some h
    rw [fv_drop, Nat.add_comm]
    exact b.e.pivB hM b.rM b.sp hl
  · have := e.lt h1
    omega
theorem FI.skip {k : Nat} {tl : Steps} (F : FI N M L n R st (k + 1) tl) (h : tl[k]? = some none) : FI N M L n R st k tl :=
  ⟨F.e, F.sp, F.non, F.zs, F.pv, fun c l j l' hk h1 h2 h3 => by
    by_cases e : c = k
    · subst e; rw [h] at h1; cases h1
    · exact F.red c l j l' (by omega) h1 h2 h3⟩
theorem FI.step (b : BR N M R st) (hM : 1 ≤ M) (hN : N = L + n) {k : Nat} {tl : Steps} (F : FI N M L n R st (k + 1) tl) {l z : List Int} (h : tl[k]? = some (some l)) (hz : Low n tl k l z) : FI N M L n R st k (tl.set k (some z)) := by
  have kn : k < n := F.e.lt h
  have kN : k < tl.length := by rw [F.e.len]; exact kn
  obtain ⟨w, hw, ew⟩ := hz.dif
  have zk : fv z k = fv l k := Low.lo F.e hz (Nat.le_refl k)
  have z0 : ∀ j, j < k → fv z j = 0 := fun j hj => by rw [Low.lo F.e hz (by omega)]; exact F.e.lo _ _ _ h hj
  have at_ : ∀ j x, (tl.set k (some z))[j]? = some (some x) → (j = k ∧ x = z) ∨ (j ≠ k ∧ tl[j]? = some (some x)) := fun j x h => by
    rw [set_at kN] at h
    by_cases e : j = k
    · rw [if_pos e] at h; cases h; exact .inl ⟨e, rfl⟩
    · rw [if_neg e] at h; exact .inr ⟨e, h⟩
  have zsp : Sp (RowsOf tl) (fv z) := ((Sp.of ⟨k, l, h, rfl⟩ : Sp (RowsOf tl) (fv l)).plus (hw.mono fun _ => gt_of)).cast fun j => (ew j).symm
  have zZ : bnd (zB N M) (fv z) := by
    refine bnd_out hz.len fun j hj => ?_
    have := b.e.sizeB hM b.rM b.sp (u := fun _ => 0) (v := shift L (fv z)) (w := shift L (fv z)) (a := 0) (fun _ => by simp) ((F.sp _).mp zsp) (by simp) (fun j => by simp) (fun c x hc => ?_) (j := j + L) (by omega)
    · rw [shift_hi] at this; exact this
    · by_cases hcL : c < L
      · rw [shift_lo hcL]; simp
      · obtain ⟨i, rfl⟩ : ∃ i, c = i + L := ⟨c - L, by omega⟩
        rw [shift_hi]
        rcases Nat.lt_trichotomy i k with g | g | g
        · rw [z0 i g]; simp
        · rw [g, zk]; exact F.pv _ _ h
        · have iN : i + L < N := b.e.lt hc
          have : i < tl.length := by rw [F.e.len]; omega
          have hi : tl[i]? = some tl[i] := List.getElem?_eq_getElem this
          rcases hh : tl[i] with _ | y
          · rw [hh] at hi
            have := (F.non i).mp hi
            rw [Nat.add_comm, hc] at this
            cases this
          · rw [hh] at hi
            have := hz.red i y g (by omega) hi
            have := F.pv _ _ hi
            omega
  have gt' : ∀ {w : Vc}, Sp (RowsGt tl k) w → Sp (RowsOf (tl.set k (some z))) w := fun h => h.mono fun x ⟨k', l', h1, h2, h3⟩ => ⟨k', l', by rw [set_at kN, if_neg (by omega)]; exact h2, h3⟩
  refine ⟨⟨by rw [List.length_set]; exact F.e.len, fun c x hc => ?_, fun c x j hc hj => ?_, fun c x hc => ?_⟩, fun v => ?_, fun c => ?_, fun c x hc => ?_, fun c x hc => ?_, fun c x j y hk h1 h2 h3 => ?_⟩
  · rcases at_ c x hc with ⟨rfl, rfl⟩ | ⟨_, h⟩
    · exact hz.len
    · exact F.e.row _ _ h
  · rcases at_ c x hc with ⟨rfl, rfl⟩ | ⟨_, h⟩
    · exact z0 j hj
    · exact F.e.lo _ _ _ h hj
  · rcases at_ c x hc with ⟨rfl, rfl⟩ | ⟨_, h'⟩
    · rw [zk]; exact F.e.piv _ _ h
    · exact F.e.piv _ _ h'
  · rw [← F.sp]
    constructor
    · refine fun hv => hv.trans fun x ⟨c, y, hc, ey⟩ => ?_
      subst ey
      rcases at_ c y hc with ⟨rfl, rfl⟩ | ⟨_, h⟩
      · exact zsp
      · exact .of ⟨c, y, h, rfl⟩
    · refine fun hv => hv.trans fun x ⟨c, y, hc, ey⟩ => ?_
      subst ey
      by_cases e : c = k
      · subst e
        rw [h] at hc
        cases hc
        exact (Sp.sub (.of ⟨c, z, by rw [set_at kN, if_pos rfl], rfl⟩) (gt' hw)).cast fun j => by rw [ew]; omega
      · exact .of ⟨c, y, by rw [set_at kN, if_neg e]; exact hc, rfl⟩
  · rw [set_at kN]
    by_cases e : c = k
    · rw [if_pos e, e]
      constructor
      · intro h; cases h
      · intro h'
        rw [← F.non k, h] at h'
        cases h'
    · rw [if_neg e]; exact F.non c
  · rcases at_ c x hc with ⟨rfl, rfl⟩ | ⟨_, h⟩
    · exact zZ
    · exact F.zs _ _ h
  · rcases at_ c x hc with ⟨rfl, rfl⟩ | ⟨_, h'⟩
    · rw [zk]; exact F.pv _ _ h
    · exact F.pv _ _ h'
  · have hj : ∃ y', tl[j]? = some (some y') ∧ fv y' j = fv y j := by
      rcases at_ j y h3 with ⟨rfl, rfl⟩ | ⟨_, h'⟩
      · exact ⟨l, h, zk.symm⟩
      · exact ⟨y, h', rfl⟩
    obtain ⟨y', hy', ey⟩ := hj
    rcases at_ c x h1 with ⟨rfl, rfl⟩ | ⟨ne, h'⟩
    · have := hz.red j y' h2 (F.e.lt hy') hy'
      omega
    · have := F.red c x j y' (by omega) h' h2 hy'
      omega
end
/-! ### the basis of a lattice -/
def Hnf (n : Nat) (V : Vc → Prop) (B : List (List Int)) : Prop := ∃ tl, Ech n tl ∧ Red tl ∧ (∀ v, Sp (RowsOf tl) v ↔ V v) ∧ B = tl.filterMap id
theorem Hnf.uniq {n : Nat} {V : Vc → Prop} {B C : List (List Int)} (hB : Hnf n V B) (hC : Hnf n V C) : B = C := by
  obtain ⟨a, ea, ra, sa, rfl⟩ := hB
  obtain ⟨b, eb, rb, sb, rfl⟩ := hC
  rw [Hn.uniq ea eb ra rb fun v => (sa v).trans (sb v).symm]
theorem Hnf.congr {n : Nat} {V W : Vc → Prop} {B : List (List Int)} (hB : Hnf n V B) (h : ∀ v, V v ↔ W v) : Hnf n W B := let ⟨a, ea, ra, sa, e⟩ := hB; ⟨a, ea, ra, fun v => (sa v).trans (h v), e⟩
def RL (B : List (List Int)) : Vc → Prop := fun v => ∃ r ∈ B, v = fv r
theorem rows_RL {tl : Steps} {v : Vc} : RowsOf tl v ↔ RL (tl.filterMap id) v := by
  constructor
  · rintro ⟨c, l, h, rfl⟩
    exact ⟨l, List.mem_filterMap.mpr ⟨some l, List.mem_of_getElem? h, rfl⟩, rfl⟩
  · rintro ⟨r, hr, rfl⟩
    obtain ⟨x, hx, ex⟩ := List.mem_filterMap.mp hr
    change x = some r at ex
    subst ex
    obtain ⟨c, hc⟩ := List.mem_iff_getElem?.mp hx
    exact ⟨c, r, hc, rfl⟩
theorem Hnf.span {n : Nat} {V : Vc → Prop} {B : List (List Int)} (hB : Hnf n V B) (v : Vc) : V v ↔ Sp (RL B) v := by
  obtain ⟨a, ea, ra, sa, rfl⟩ := hB
  rw [← sa]
  exact ⟨fun h => h.mono fun x hx => rows_RL.mp hx, fun h => h.mono fun x hx => rows_RL.mpr hx⟩
/-- two bases of one size whose rows generate the same are one -/
theorem Hnf.same {n : Nat} {V W : Vc → Prop} {B C : List (List Int)} (hB : Hnf n V B) (hC : Hnf n W C) (h1 : ∀ r ∈ B, W (fv r)) (h2 : ∀ r ∈ C, V (fv r)) : B = C := by
  refine (hB.congr (W := W) fun v => ?_).uniq hC
  constructor
  · intro hv
    rw [hB.span] at hv
    rw [hC.span]
    refine hv.trans fun x ⟨r, hr, e⟩ => ?_
    rw [e, ← hC.span]
    exact h1 r hr
  · intro hv
    rw [hC.span] at hv
    rw [hB.span]
    refine hv.trans fun x ⟨r, hr, e⟩ => ?_
    rw [e, ← hB.span]
    exact h2 r hr
end Hn

namespace Hn
/-! ### Euclid -/
structure Bz (a b c d l m : Int) : Prop where
  x : ∃ x, c = l * a + x * b
  y : ∃ y, d = m * a + y * b
  dv : ∀ g, g ∣ c → g ∣ d → g ∣ a ∧ g ∣ b
  bd : l.natAbs * d.natAbs + m.natAbs * c.natAbs ≤ b.natAbs
  lb : l.natAbs ≤ b.natAbs
  c0 : c ≠ 0
  sg : m = 0 ∨ 0 ≤ c * d
  cb : c.natAbs ≤ a.natAbs + b.natAbs
  db : d.natAbs ≤ b.natAbs
theorem Bz.start {a b : Int} (ha : 0 < a) (hb : b ≠ 0) : Bz a b a b 1 0 :=
  ⟨⟨0, by omega⟩, ⟨1, by omega⟩, fun g h1 h2 => ⟨h1, h2⟩, by simp, by simp; omega, by omega, .inl rfl, by omega, Nat.le_refl _⟩
theorem fdm (c d : Int) : c.fdiv d * d + c.fmod d = c := by
  have := Int.mul_fdiv_add_fmod c d
  rw [Int.mul_comm]
  exact this
theorem fmod_neg_le (c : Int) {d : Int} (h : d < 0) : c.fmod d ≤ 0 := by
  have h1 := Int.fmod_nonneg_of_pos (-c) (b := -d) (by omega)
  rw [Int.neg_fmod_neg] at h1
  omega
theorem fmod_neg_gt (c : Int) {d : Int} (h : d < 0) : d < c.fmod d := by
  have h1 := Int.fmod_lt_of_pos (-c) (b := -d) (by omega)
  rw [Int.neg_fmod_neg] at h1
  omega
theorem fmod_sign {c d : Int} (hd : d ≠ 0) : 0 ≤ d * c.fmod d ∧ (c.fmod d).natAbs < d.natAbs := by
  rcases Int.lt_or_gt_of_ne hd with h | h
  · have h1 := fmod_neg_le c h
    have h2 := fmod_neg_gt c h
    exact ⟨Int.mul_nonneg_of_nonpos_of_nonpos (by omega) h1, by omega⟩
  · have h1 := Int.fmod_nonneg_of_pos c h
    have h2 := Int.fmod_lt_of_pos c h
    exact ⟨Int.mul_nonneg (by omega) h1, by omega⟩
theorem same_sum {c d : Int} (hd : d ≠ 0) (h : 0 ≤ c * d) : c.natAbs = (c.fdiv d).natAbs * d.natAbs + (c.fmod d).natAbs := by
  have e := fdm c d
  rcases Int.lt_or_gt_of_ne hd with h1 | h1
  · have r1 := fmod_neg_le c h1
    have r2 := fmod_neg_gt c h1
    have c1 : c ≤ 0 := by
      apply Classical.byContradiction
      intro hh
      have : c * d < 0 := Int.mul_neg_of_pos_of_neg (by omega) h1
      omega
    have q0 : 0 ≤ c.fdiv d := by
      apply Classical.byContradiction
      intro hh
      have : (-1 - c.fdiv d) * (-d) ≥ 0 := Int.mul_nonneg (by omega) (by omega)
      have e2 : (-1 - c.fdiv d) * (-d) = d + c.fdiv d * d := by grind
      omega
    have q1 : (c.fdiv d).natAbs * d.natAbs = (c.fdiv d * d).natAbs := (Int.natAbs_mul ..).symm
    have q2 : c.fdiv d * d ≤ 0 := Int.mul_nonpos_of_nonneg_of_nonpos q0 (by omega)
    omega
  · have r1 := Int.fmod_nonneg_of_pos c h1
    have r2 := Int.fmod_lt_of_pos c h1
    have c1 : 0 ≤ c := by
      apply Classical.byContradiction
      intro hh
      have : c * d < 0 := Int.mul_neg_of_neg_of_pos (by omega) h1
      omega
    have q0 : 0 ≤ c.fdiv d := by
      apply Classical.byContradiction
      intro hh
      have : (-1 - c.fdiv d) * d ≥ 0 := Int.mul_nonneg (by omega) (by omega)
      have e2 : (-1 - c.fdiv d) * d = -d - c.fdiv d * d := by grind
      omega
    have q1 : (c.fdiv d).natAbs * d.natAbs = (c.fdiv d * d).natAbs := (Int.natAbs_mul ..).symm
    have q2 : 0 ≤ c.fdiv d * d := Int.mul_nonneg q0 (by omega)
    omega
theorem fdiv_le {c d : Int} (hd : d ≠ 0) : (c.fdiv d).natAbs ≤ c.natAbs + 1 := by
  have e := fdm c d
  have s := (fmod_sign (c := c) hd).2
  have h1 : (c.fdiv d * d).natAbs ≤ c.natAbs + d.natAbs := by omega
  rw [Int.natAbs_mul] at h1
  generalize (c.fdiv d).natAbs = q at *
  generalize c.natAbs = x at *
  have hd1 : 1 ≤ d.natAbs := by omega
  generalize d.natAbs = y at *
  apply Classical.byContradiction
  intro hh
  have h2 : (x + 2) * y ≤ q * y := Nat.mul_le_mul_right y (by omega)
  rw [Nat.add_mul] at h2
  have h3 : x ≤ x * y := Nat.le_mul_of_pos_right x (by omega)
  omega
theorem Bz.step {a b c d l m : Int} (z : Bz a b c d l m) (hd : d ≠ 0) : Bz a b d (c.fmod d) m (l - c.fdiv d * m) := by
  obtain ⟨x, hx⟩ := z.x
  obtain ⟨y, hy⟩ := z.y
  have e := fdm c d
  have sgn := fmod_sign (c := c) hd
  have mb : m.natAbs ≤ b.natAbs := by
    have h1 := z.bd
    have h2 : m.natAbs ≤ m.natAbs * c.natAbs := Nat.le_mul_of_pos_right _ (by have := z.c0; omega)
    omega
  refine ⟨⟨y, hy⟩, ⟨x - c.fdiv d * y, ?_⟩, fun g h1 h2 => z.dv g ?_ h1, ?_, mb, hd, .inr sgn.1, ?_, ?_⟩
  · have : c.fmod d = c - c.fdiv d * d := by omega
    rw [this]
    grind
  · rw [← e]
    exact Int.dvd_add (Int.dvd_mul_of_dvd_right h1) h2
  · have bd := z.bd
    rcases z.sg with h0 | h0
    · subst h0
      simp only [Int.mul_zero, Int.sub_zero, Int.natAbs_zero, Nat.zero_mul, Nat.zero_add]
      simp only [Int.natAbs_zero, Nat.zero_mul] at bd
      omega
    · have ss := same_sum hd h0
      have h1 : (l - c.fdiv d * m).natAbs ≤ l.natAbs + (c.fdiv d).natAbs * m.natAbs := by
        have : (c.fdiv d * m).natAbs = (c.fdiv d).natAbs * m.natAbs := Int.natAbs_mul ..
        omega
      have h2 : (l - c.fdiv d * m).natAbs * d.natAbs ≤ (l.natAbs + (c.fdiv d).natAbs * m.natAbs) * d.natAbs := Nat.mul_le_mul_right _ h1
      have h3 : (l.natAbs + (c.fdiv d).natAbs * m.natAbs) * d.natAbs + m.natAbs * (c.fmod d).natAbs = l.natAbs * d.natAbs + m.natAbs * c.natAbs := by
        rw [ss]; grind
      omega
  · have := z.db; omega
  · have := z.db; omega
theorem Bz.fin {a b c l m : Int} (hb : b ≠ 0) (z : Bz a b c 0 l m) {k : Int} (hk : k = 1 ∨ k = -1) (hp : 0 < k * c) : ∃ p r, a = p * (k * c) ∧ b = r * (k * c) ∧ (k * l) * a + (k * c - k * l * a).fdiv b * b = k * c ∧ ((k * c - k * l * a).fdiv b).natAbs ≤ 1 + a.natAbs ∧ (k * l).natAbs ≤ b.natAbs := by
  obtain ⟨x, hx⟩ := z.x
  obtain ⟨⟨p, hp1⟩, ⟨r, hr1⟩⟩ := z.dv c (Int.dvd_refl _) (Int.dvd_zero _)
  have kk : k * k = 1 := by rcases hk with h | h <;> rw [h] <;> rfl
  have e1 : k * c - k * l * a = (k * x) * b := by rw [hx]; grind
  have e2 : (k * c - k * l * a).fdiv b = k * x := by
    rw [e1]
    exact Int.mul_fdiv_cancel _ hb
  have kl : (k * l).natAbs ≤ b.natAbs := by
    have := z.lb
    rcases hk with h | h <;> rw [h] <;> omega
  refine ⟨k * p, k * r, by grind, by grind, by rw [e2]; grind, ?_, kl⟩
  rw [e2]
  have h1 : ((k * x) * b).natAbs ≤ b.natAbs + b.natAbs * a.natAbs := by
    rw [← e1]
    have h2 : (k * l * a).natAbs ≤ b.natAbs * a.natAbs := by rw [Int.natAbs_mul]; exact Nat.mul_le_mul_right _ kl
    have h3 : (k * c).natAbs ≤ b.natAbs := by
      have h4 : b.natAbs = (k * r).natAbs * (k * c).natAbs := by rw [← Int.natAbs_mul]; congr 1; grind
      have h5 : (k * r) ≠ 0 := by
        intro h
        have : b = (k * r) * (k * c) := by grind
        rw [h] at this
        omega
      rw [h4]
      exact Nat.le_mul_of_pos_left _ (by omega)
    omega
  rw [Int.natAbs_mul] at h1
  apply Classical.byContradiction
  intro hh
  have h2 : (a.natAbs + 2) * b.natAbs ≤ (k * x).natAbs * b.natAbs := Nat.mul_le_mul_right _ (by omega)
  have h3 : (a.natAbs + 2) * b.natAbs = b.natAbs * a.natAbs + 2 * b.natAbs := by grind
  have h4 : 0 < b.natAbs := by omega
  omega
end Hn

namespace Hn
theorem LowTo.of_set {N : Nat} {st : Steps} {c p : Nat} {x : Option (List Int)} {xs zs : List Int} (hc : c < st.length) (h : LowTo N (st.set c x) c p xs zs) : LowTo N st c p xs zs := by
  refine ⟨h.len, ?_, fun k l h1 h2 h3 => h.red k l h1 h2 (by rw [set_at hc, if_neg (by omega)]; exact h3)⟩
  obtain ⟨w, hw, e⟩ := h.dif
  exact ⟨w, hw.mono fun y ⟨k, l, h1, h2, h3⟩ => ⟨k, l, h1, by rw [set_at hc, if_neg (by omega)] at h2; exact h2, h3⟩, e⟩
theorem Ech.set {N : Nat} {st : Steps} (e : Ech N st) {c : Nat} {z : List Int} (hc : c < N) (hl : z.length = N) (h0 : ∀ j, j < c → fv z j = 0) (hp : 0 < fv z c) : Ech N (st.set c (some z)) := by
  have cN : c < st.length := by rw [e.len]; exact hc
  have at_ : ∀ j x, (st.set c (some z))[j]? = some (some x) → (j = c ∧ x = z) ∨ (j ≠ c ∧ st[j]? = some (some x)) := fun j x h => by
    rw [set_at cN] at h
    by_cases e : j = c
    · rw [if_pos e] at h; cases h; exact .inl ⟨e, rfl⟩
    · rw [if_neg e] at h; exact .inr ⟨e, h⟩
  refine ⟨by rw [List.length_set]; exact e.len, fun k x hk => ?_, fun k x j hk hj => ?_, fun k x hk => ?_⟩
  · rcases at_ k x hk with ⟨rfl, rfl⟩ | ⟨_, h⟩
    · exact hl
    · exact e.row _ _ h
  · rcases at_ k x hk with ⟨rfl, rfl⟩ | ⟨_, h⟩
    · exact h0 j hj
    · exact e.lo _ _ _ h hj
  · rcases at_ k x hk with ⟨rfl, rfl⟩ | ⟨_, h⟩
    · exact hp
    · exact e.piv _ _ h
theorem pB_le {N : Nat} (M : Nat) (hN : 1 ≤ N) (hM : 1 ≤ M) : pB N M ≤ zB N M := by
  have hX : 1 ≤ 2 * N * M := Nat.mul_pos (by omega) hM
  have hXN : 1 ≤ (2 * N * M) ^ N := Nat.pow_pos hX
  unfold zB
  have : pB N M ≤ N * ((2 * N * M) ^ N * pB N M) := Nat.le_trans (Nat.le_mul_of_pos_left _ hXN) (Nat.le_mul_of_pos_left _ (by omega))
  omega
section
variable {N M : Nat} {R : Vc → Prop} {st0 st : Steps} {u row : List Int} {c : Nat}
/-- what the merged step is -/
theorem RI.merged (b : BR N M R st0) (hM : 1 ≤ M) (hu : bnd M (fv u)) (I : RI N M R st0 u c st row) {l new : List Int} {g s t p r : Int} (hc : st[c]? = some (some l)) (hg : 0 < g) (ep : fv l c = p * g) (er : fv row c = r * g) (eg : s * fv l c + t * fv row c = g)
    (ht : t.natAbs ≤ 1 + (fv l c).natAbs) (hn : Low N st c (combL s l t row) new) : Ech N (st.set c (some new)) ∧ bnd (zB N M) (fv new) := by
  have hl := I.e.row _ _ hc
  have hll : l.length = row.length := by rw [I.rl, hl]
  have pl := I.e.piv _ _ hc
  have cN' : c < N := I.e.lt hc
  obtain ⟨w1, hw1, e1⟩ := hn.dif
  have newc : fv new c = g := by rw [Low.lo I.e hn (Nat.le_refl c), fv_comb hll]; exact eg
  have new0 : ∀ j, j < c → fv new j = 0 := fun j hj => by rw [Low.lo I.e hn (by omega), fv_comb hll, I.e.lo _ _ _ hc hj, I.rz j hj]; simp
  have lR : Sp R (fv l) := (b.sp _).mpr (.of ⟨c, l, by rw [← I.same c (Nat.le_refl c)]; exact hc, rfl⟩)
  have gle : g.natAbs ≤ pB N M := by
    have h1 := I.pv _ _ hc
    have hp : 0 < p := by
      apply Classical.byContradiction
      intro hh
      have : p * g ≤ 0 := Int.mul_nonpos_of_nonpos_of_nonneg (by omega) (by omega)
      omega
    have : g ≤ p * g := le_mul1 (by omega) (by omega)
    omega
  obtain ⟨a, w, ha, hw, hv⟩ := I.al
  have Q1 : 1 ≤ pB N M + 1 := by omega
  have tb : t.natAbs ≤ pB N M + 1 := by have := I.pv _ _ hc; omega
  have alN : ∀ j, fv new j = (t * a) * fv u j + (s * fv l j + t * w j + w1 j) := fun j => by rw [e1, fv_comb hll, hv]; grind
  have spN : Sp R (fun j => s * fv l j + t * w j + w1 j) := (lR.comb s t hw).plus (I.toR b hw1)
  have up : (t * a).natAbs ≤ (pB N M + 1) ^ (c + 1) := by
    rw [Int.natAbs_mul, Nat.pow_succ, Nat.mul_comm]
    exact Nat.mul_le_mul ha tb
  have powN : (pB N M + 1) ^ (c + 1) ≤ (pB N M + 1) ^ (N + 1) := Nat.pow_le_pow_right Q1 (by omega)
  exact ⟨I.e.set cN' hn.len new0 (by rw [newc]; exact hg), I.size b hM hu hn.len (Nat.le_trans up powN) spN alN new0 (fun _ _ => by rw [newc]; exact gle) fun k l' h1 h2 => hn.red k l' h1 (I.e.lt h2) h2⟩
/-- the sizes on the way -/
theorem RI.combs (b : BR N M R st0) (hM : 1 ≤ M) (I : RI N M R st0 u c st row) {l : List Int} {g s t p r : Int} (hc : st[c]? = some (some l)) (hg : 0 < g) (ep : fv l c = p * g) (er : fv row c = r * g)
    (hs : s.natAbs ≤ (fv row c).natAbs) (ht : t.natAbs ≤ 1 + (fv l c).natAbs) :
    bnd (zB N M * (1 + zB N M) ^ (c + 2)) (fv (combL s l t row)) ∧ bnd (zB N M * (1 + zB N M) ^ (c + 2)) (fv (combL (-r) l p row)) ∧ s.natAbs ≤ zB N M * (1 + zB N M) ^ (c + 2) ∧ t.natAbs ≤ zB N M * (1 + zB N M) ^ (c + 2) ∧ r.natAbs ≤ zB N M * (1 + zB N M) ^ (c + 2) ∧ p.natAbs ≤ zB N M * (1 + zB N M) ^ (c + 2) ∧
    (fv l c).natAbs + (fv row c).natAbs < zB N M * (1 + zB N M) ^ (c + 2) := by
  have hl := I.e.row _ _ hc
  have hll : l.length = row.length := by rw [I.rl, hl]
  have pl := I.e.piv _ _ hc
  have cN' : c < N := I.e.lt hc
  have lz := I.zs _ _ hc
  have rz := I.rb
  have lc := lz c
  have rc := rz c
  generalize hz : zB N M = z at *
  have z1 : 1 ≤ z := by omega
  generalize hq : (1 + z) ^ c = q at *
  have q1 : 1 ≤ q := by rw [← hq]; exact Nat.pow_pos (by omega)
  have e2 : (1 + z) ^ (c + 2) = q * ((1 + z) * (1 + z)) := by rw [← hq, Nat.pow_succ, Nat.pow_succ, Nat.mul_assoc]
  have rr : r.natAbs ≤ z * q := by
    have h2 : (fv row c).natAbs = r.natAbs * g.natAbs := by rw [er, Int.natAbs_mul]
    have h3 : r.natAbs ≤ r.natAbs * g.natAbs := Nat.le_mul_of_pos_right _ (by omega)
    omega
  have pp : p.natAbs ≤ z := by
    have h2 : (fv l c).natAbs = p.natAbs * g.natAbs := by rw [ep, Int.natAbs_mul]
    have h3 : p.natAbs ≤ p.natAbs * g.natAbs := Nat.le_mul_of_pos_right _ (by omega)
    omega
  have big : z * q * z + (1 + z) * (z * q) ≤ z * (q * ((1 + z) * (1 + z))) := by
    have e3 : z * (q * ((1 + z) * (1 + z))) = z * q * z + (1 + z) * (z * q) + z * q * (z * z) := by grind
    omega
  have zq : z ≤ z * q := Nat.le_mul_of_pos_right _ q1
  have mid : z * q + 1 + z ≤ z * (q * ((1 + z) * (1 + z))) := by
    have e3 : z * (q * ((1 + z) * (1 + z))) = z * q + 2 * (z * q * z) + z * q * (z * z) := by grind
    have h1 : 1 ≤ z * q * z := Nat.mul_pos (Nat.mul_pos z1 q1) z1
    have h2 : z ≤ z * q * z := Nat.le_mul_of_pos_left _ (Nat.mul_pos z1 q1)
    omega
  rw [e2]
  refine ⟨bnd_mono big (bnd_comb hll (F := z * q) (by omega) lz (G := 1 + z) (by omega) rz), bnd_mono (Nat.le_trans (Nat.add_le_add_left (Nat.mul_le_mul_right _ (by omega)) _) big) (bnd_comb hll (F := z * q) (by rw [Int.natAbs_neg]; exact rr) lz (G := z) pp rz), by omega, by omega, by omega, by omega, ?_⟩
  have e4 : z * (q * ((1 + z) * (1 + z))) = z * q + 2 * (z * q * z) + z * q * (z * z) := by grind
  have h1 : z ≤ z * q * z := Nat.le_mul_of_pos_left _ (Nat.mul_pos z1 q1)
  omega
end
end Hn

set_option exponentiation.threshold 100000
namespace Hn
/-! ### the numbers stay small -/
def zE (N x : Nat) : Nat := N + x * N + x + (x * (N + 1) + 1) * (N + 1) + 1
theorem zB_le {N M x : Nat} (h1 : 2 * N * M ≤ 2 ^ x) (h2 : M ≤ 2 ^ x) : zB N M ≤ 2 ^ zE N x := by
  have hX : (2 * N * M) ^ N ≤ 2 ^ (x * N) := by rw [Nat.pow_mul]; exact Nat.pow_le_pow_left h1 N
  have hp : pB N M ≤ 2 ^ (x * (N + 1)) := by unfold pB; rw [Nat.pow_mul]; exact Nat.pow_le_pow_left h1 _
  have hp1 : pB N M + 1 ≤ 2 ^ (x * (N + 1) + 1) := by
    rw [Nat.pow_succ]
    have : 1 ≤ 2 ^ (x * (N + 1)) := Nat.pow_pos (by decide)
    omega
  have hq : (pB N M + 1) ^ (N + 1) ≤ 2 ^ ((x * (N + 1) + 1) * (N + 1)) := by rw [Nat.pow_mul]; exact Nat.pow_le_pow_left hp1 _
  have hn : N + 1 ≤ 2 ^ N := Nat.lt_two_pow_self
  have t1 : (N + 1) * ((2 * N * M) ^ N * M * (pB N M + 1) ^ (N + 1)) ≤ 2 ^ (N + x * N + x + (x * (N + 1) + 1) * (N + 1)) := by
    have : (2 : Nat) ^ (N + x * N + x + (x * (N + 1) + 1) * (N + 1)) = 2 ^ N * (2 ^ (x * N) * 2 ^ x * 2 ^ ((x * (N + 1) + 1) * (N + 1))) := by
      rw [← Nat.pow_add, ← Nat.pow_add, ← Nat.pow_add]; congr 1; omega
    rw [this]
    exact Nat.mul_le_mul hn (Nat.mul_le_mul (Nat.mul_le_mul hX h2) hq)
  have t2 : N * ((2 * N * M) ^ N * pB N M) ≤ 2 ^ (N + x * N + x + (x * (N + 1) + 1) * (N + 1)) := by
    have a : N * ((2 * N * M) ^ N * pB N M) ≤ 2 ^ N * (2 ^ (x * N) * 2 ^ (x * (N + 1))) := Nat.mul_le_mul (by omega) (Nat.mul_le_mul hX hp)
    have b : 2 ^ N * (2 ^ (x * N) * 2 ^ (x * (N + 1))) = 2 ^ (N + (x * N + x * (N + 1))) := by rw [← Nat.pow_add, ← Nat.pow_add]
    refine Nat.le_trans a ?_
    rw [b]
    refine Nat.pow_le_pow_right (by decide) ?_
    have : (x * (N + 1) + 1) * (N + 1) = x * (N + 1) * N + x * (N + 1) + (N + 1) := by grind
    omega
  have e2 : (2 : Nat) ^ zE N x = 2 ^ (N + x * N + x + (x * (N + 1) + 1) * (N + 1)) * 2 := by unfold zE; rw [Nat.pow_succ]
  rw [e2]
  unfold zB
  omega
theorem log_le {A e : Nat} (h : A ≤ 2 ^ e) : A.log2 ≤ e := by
  by_cases h0 : A = 0
  · subst h0; simp
  · have : A < 2 ^ (e + 1) := Nat.lt_of_le_of_lt h (Nat.pow_lt_pow_right (by decide) (by omega))
    have := (Nat.log2_lt h0).mpr this
    omega
theorem rm_le {N M x : Nat} (h1 : 2 * N * M ≤ 2 ^ x) (h2 : M ≤ 2 ^ x) (h : zE N x + (zE N x + 1) * (2 * N + 4) < 40000000) : (zB N M * (1 + zB N M) ^ (2 * N + 4)).log2 < 40000000 := by
  have a := zB_le h1 h2
  have b : 1 + zB N M ≤ 2 ^ (zE N x + 1) := by
    rw [Nat.pow_succ]
    have : 1 ≤ 2 ^ zE N x := Nat.pow_pos (by decide)
    omega
  refine Nat.lt_of_le_of_lt (log_le (e := zE N x + (zE N x + 1) * (2 * N + 4)) ?_) h
  have e2 : (2 : Nat) ^ (zE N x + (zE N x + 1) * (2 * N + 4)) = 2 ^ zE N x * (2 ^ (zE N x + 1)) ^ (2 * N + 4) := by rw [Nat.pow_add, Nat.pow_mul]
  rw [e2]
  exact Nat.mul_le_mul a (Nat.pow_le_pow_left b _)
/-! ### rows with their pivot columns -/
structure EchR (n : Nat) (cs : List Nat) (R : List (List Int)) : Prop where
  len : cs.length = R.length
  asc : cs.Pairwise (· < ·)
  lt : ∀ c ∈ cs, c < n
  row : ∀ (i c : Nat) (r : List Int), cs[i]? = some c → R[i]? = some r → r.length = n ∧ (∀ j, j < c → fv r j = 0) ∧ 0 < fv r c
def spread : Nat → Nat → List Nat → List (List Int) → Steps
  | _, 0, _, _ => []
  | k, f + 1, c :: cs, r :: R => if c = k then some r :: spread (k + 1) f cs R else none :: spread (k + 1) f (c :: cs) (r :: R)
  | k, f + 1, _, _ => none :: spread (k + 1) f [] []
theorem spread_len : ∀ (k f : Nat) (cs : List Nat) (R : List (List Int)), (spread k f cs R).length = f
  | _, 0, cs, R => by unfold spread; rfl
  | k, f + 1, [], R => by unfold spread; simp [spread_len (k + 1) f]
  | k, f + 1, c :: cs, [] => by unfold spread; simp [spread_len (k + 1) f]
  | k, f + 1, c :: cs, r :: R => by
    unfold spread
    split <;> simp [spread_len (k + 1) f]
theorem spread_nil : ∀ (k f : Nat), (spread k f [] []).filterMap id = []
  | _, 0 => by unfold spread; rfl
  | k, f + 1 => by unfold spread; simp [spread_nil (k + 1) f]
theorem spread_rows : ∀ (k f : Nat) (cs : List Nat) (R : List (List Int)), cs.length = R.length → cs.Pairwise (· < ·) → (∀ c ∈ cs, k ≤ c ∧ c < k + f) → (spread k f cs R).filterMap id = R
  | k, 0, [], [], _, _, _ => by unfold spread; rfl
  | k, 0, c :: cs, R, _, _, h => by have := h c (by simp); omega
  | k, f + 1, [], [], _, _, _ => by unfold spread; simp [spread_nil]
  | k, f + 1, [], r :: R, hl, _, _ => by simp at hl
  | k, f + 1, c :: cs, [], hl, _, _ => by simp at hl
  | k, f + 1, c :: cs, r :: R, hl, ha, h => by
    have hc := h c (by simp)
    have h1 := (List.pairwise_cons.mp ha).1
    unfold spread
    by_cases e : c = k
    · rw [if_pos e]
      simp only [List.filterMap_cons, id]
      rw [spread_rows (k + 1) f cs R (by simpa using hl) (List.pairwise_cons.mp ha).2 fun d hd => by have := h1 d hd; have := h d (by simp [hd]); omega]
    · rw [if_neg e]
      simp only [List.filterMap_cons, id]
      exact spread_rows (k + 1) f (c :: cs) (r :: R) hl ha fun d hd => by
        have := h d hd
        rcases List.mem_cons.mp hd with g | g
        · omega
        · have := h1 d g; omega
theorem spread_nil_at : ∀ (k f j : Nat) (r : List Int), (spread k f [] [])[j]? ≠ some (some r)
  | _, 0, j, r => by unfold spread; simp
  | k, f + 1, 0, r => by unfold spread; simp
  | k, f + 1, j + 1, r => by unfold spread; simpa using spread_nil_at (k + 1) f j r
theorem spread_at : ∀ (k f : Nat) (cs : List Nat) (R : List (List Int)) (j : Nat) (r : List Int), cs.length = R.length → cs.Pairwise (· < ·) → (∀ c ∈ cs, k ≤ c ∧ c < k + f) → ((spread k f cs R)[j]? = some (some r) ↔ ∃ i : Nat, cs[i]? = some (k + j) ∧ R[i]? = some r)
  | k, 0, [], [], j, r, _, _, _ => by unfold spread; simp
  | k, 0, c :: cs, R, j, r, _, _, h => by have := h c (by simp); omega
  | k, f + 1, [], [], j, r, _, _, _ => by simp [spread_nil_at]
  | k, f + 1, [], _ :: R, _, _, hl, _, _ => by simp at hl
  | k, f + 1, c :: cs, [], _, _, hl, _, _ => by simp at hl
  | k, f + 1, c :: cs, r0 :: R, j, r, hl, ha, h => by
    have hc := h c (by simp)
    have h1 := (List.pairwise_cons.mp ha).1
    unfold spread
    by_cases e : c = k
    · rw [if_pos e]
      cases j with
      | zero =>
        constructor
        · intro g
          have g : some r0 = some r := by simpa using g
          exact ⟨0, by simp [e], by simpa using g⟩
        · rintro ⟨i, g1, g2⟩
          cases i with
          | zero => simpa using g2
          | succ i =>
            have g1 : cs[i]? = some k := by simpa using g1
            have := h1 k (List.mem_of_getElem? g1)
            omega
      | succ j =>
        have ih := spread_at (k + 1) f cs R j r (by simpa using hl) (List.pairwise_cons.mp ha).2 fun d hd => by have := h1 d hd; have := h d (by simp [hd]); omega
        rw [List.getElem?_cons_succ, ih]
        constructor
        · rintro ⟨i, g1, g2⟩
          exact ⟨i + 1, by rw [List.getElem?_cons_succ, g1]; congr 1; omega, by simpa using g2⟩
        · rintro ⟨i, g1, g2⟩
          cases i with
          | zero => have : c = k + (j + 1) := by simpa using g1
                    omega
          | succ i => exact ⟨i, by rw [List.getElem?_cons_succ] at g1; rw [g1]; congr 1; omega, by simpa using g2⟩
    · rw [if_neg e]
      have ih := fun j => spread_at (k + 1) f (c :: cs) (r0 :: R) j r hl ha fun d hd => by
        have := h d hd
        rcases List.mem_cons.mp hd with g | g
        · omega
        · have := h1 d g; omega
      cases j with
      | zero =>
        constructor
        · intro g; simp at g
        · rintro ⟨i, g1, g2⟩
          have := List.mem_of_getElem? g1
          rcases List.mem_cons.mp this with g | g
          · omega
          · have := h1 _ g; omega
      | succ j =>
        rw [List.getElem?_cons_succ, ih]
        constructor
        · rintro ⟨i, g1, g2⟩
          exact ⟨i, by rw [g1]; congr 1; omega, g2⟩
        · rintro ⟨i, g1, g2⟩
          exact ⟨i, by rw [g1]; congr 1; omega, g2⟩
namespace EchR
variable {n : Nat} {cs : List Nat} {R : List (List Int)}
theorem at_ (e : EchR n cs R) (j : Nat) (r : List Int) : (spread 0 n cs R)[j]? = some (some r) ↔ ∃ i : Nat, cs[i]? = some j ∧ R[i]? = some r := by
  have := spread_at 0 n cs R j r e.len e.asc fun c hc => ⟨Nat.zero_le _, by have := e.lt c hc; omega⟩
  rwa [Nat.zero_add] at this
theorem rows (e : EchR n cs R) : (spread 0 n cs R).filterMap id = R := spread_rows 0 n cs R e.len e.asc fun c hc => ⟨Nat.zero_le _, by have := e.lt c hc; omega⟩
theorem ech (e : EchR n cs R) : Ech n (spread 0 n cs R) := by
  refine ⟨spread_len _ _ _ _, fun c l h => ?_, fun c l j h hj => ?_, fun c l h => ?_⟩
  · obtain ⟨i, h1, h2⟩ := (e.at_ c l).mp h
    exact (e.row i c l h1 h2).1
  · obtain ⟨i, h1, h2⟩ := (e.at_ c l).mp h
    exact (e.row i c l h1 h2).2.1 j hj
  · obtain ⟨i, h1, h2⟩ := (e.at_ c l).mp h
    exact (e.row i c l h1 h2).2.2
theorem rl (e : EchR n cs R) (v : Vc) : Sp (RowsOf (spread 0 n cs R)) v ↔ Sp (RL R) v := by
  have h : ∀ x, RowsOf (spread 0 n cs R) x ↔ RL R x := fun x => by rw [rows_RL, e.rows]
  exact ⟨fun g => g.mono fun x hx => (h x).mp hx, fun g => g.mono fun x hx => (h x).mpr hx⟩
theorem lead (e : EchR n cs R) {v : Vc} (hv : Sp (RL R) v) : (∀ j, v j = 0) ∨ ∃ (i c : Nat) (r : List Int), cs[i]? = some c ∧ R[i]? = some r ∧ (∀ j, j < c → v j = 0) ∧ v c ≠ 0 ∧ ∃ q, v c = q * fv r c := by
  rcases Hn.lead e.ech ((e.rl v).mpr hv) with h | ⟨c, l, hc, h1, h2, h3⟩
  · exact .inl h
  · obtain ⟨i, g1, g2⟩ := (e.at_ c l).mp hc
    exact .inr ⟨i, c, l, g1, g2, h1, h2, h3⟩
theorem hnf (e : EchR n cs R) (red : ∀ (i j c : Nat) (r r' : List Int), i < j → cs[j]? = some c → R[i]? = some r → R[j]? = some r' → 0 ≤ fv r c ∧ fv r c < fv r' c) : Hnf n (Sp (RL R)) R := by
  refine ⟨spread 0 n cs R, e.ech, fun c l j l' h1 hcj h2 => ?_, e.rl, e.rows.symm⟩
  obtain ⟨i, a1, a2⟩ := (e.at_ c l).mp h1
  obtain ⟨i', b1, b2⟩ := (e.at_ j l').mp h2
  have hi : i < i' := by
    have hil := (List.getElem?_eq_some_iff.mp a1).1
    have hil' := (List.getElem?_eq_some_iff.mp b1).1
    rcases Nat.lt_trichotomy i i' with g | g | g
    · exact g
    · subst g; rw [a1] at b1; cases b1; omega
    · have := List.pairwise_iff_getElem.mp e.asc i' i hil' hil g
      rw [List.getElem?_eq_getElem hil] at a1
      rw [List.getElem?_eq_getElem hil'] at b1
      cases a1
      cases b1
      omega
  exact red i i' j l l' hi b1 a2 b2
end EchR
/-! ### steps on a list of rows -/
def plusL (f : Int) (xs ys : List Int) : List Int := List.zipWith (fun a b => f * a + b) xs ys
theorem fv_plus {f : Int} {xs ys : List Int} (h : xs.length = ys.length) (j : Nat) : fv (plusL f xs ys) j = f * fv xs j + fv ys j := fv_zip (f := fun a b => f * a + b) (by simp) h j
theorem len_plus {f : Int} {xs ys : List Int} (h : xs.length = ys.length) : (plusL f xs ys).length = ys.length := by unfold plusL; rw [List.length_zipWith]; omega
theorem bnd_plus {f : Int} {xs ys : List Int} {F A B : Nat} (h : xs.length = ys.length) (hf : f.natAbs ≤ F) (hx : bnd A (fv xs)) (hy : bnd B (fv ys)) : bnd (F * A + B) (fv (plusL f xs ys)) := fun j => by
  rw [fv_plus h]
  have h1 : (f * fv xs j).natAbs ≤ F * A := by rw [Int.natAbs_mul]; exact Nat.mul_le_mul hf (hx j)
  have h2 := hy j
  omega
/-- a row is replaced by what leads back to it -/
theorem span_set {R : List (List Int)} {i : Nat} {r r' : List Int} (hi : R[i]? = some r) (h1 : Sp (RL R) (fv r')) (h2 : Sp (RL (R.set i r')) (fv r)) (v : Vc) : Sp (RL (R.set i r')) v ↔ Sp (RL R) v := by
  have hil := (List.getElem?_eq_some_iff.mp hi).1
  constructor
  · refine fun g => g.trans fun x ⟨y, hy, ex⟩ => ?_
    rw [ex]
    obtain ⟨j, hj⟩ := List.mem_iff_getElem?.mp hy
    rw [List.getElem?_set] at hj
    by_cases e : i = j
    · rw [if_pos e, if_pos hil] at hj
      cases hj
      exact h1
    · rw [if_neg e] at hj
      exact .of ⟨y, List.mem_of_getElem? hj, rfl⟩
  · refine fun g => g.trans fun x ⟨y, hy, ex⟩ => ?_
    rw [ex]
    obtain ⟨j, hj⟩ := List.mem_iff_getElem?.mp hy
    by_cases e : i = j
    · subst e
      rw [hi] at hj
      cases hj
      exact h2
    · exact .of ⟨y, List.mem_of_getElem? (i := j) (by rw [List.getElem?_set, if_neg e]; exact hj), rfl⟩
theorem span_plus {R : List (List Int)} {i j : Nat} {r s : List Int} (f : Int) (hi : R[i]? = some r) (hj : R[j]? = some s) (hij : i ≠ j) (hl : s.length = r.length) (v : Vc) : Sp (RL (R.set i (plusL f s r))) v ↔ Sp (RL R) v := by
  have hil := (List.getElem?_eq_some_iff.mp hi).1
  refine span_set hi ?_ ?_ v
  · exact ((Sp.of ⟨s, List.mem_of_getElem? hj, rfl⟩ : Sp (RL R) (fv s)).comb f 1 (.of ⟨r, List.mem_of_getElem? hi, rfl⟩)).cast fun k => by rw [fv_plus hl]; omega
  · have a : Sp (RL (R.set i (plusL f s r))) (fv (plusL f s r)) := .of ⟨_, List.mem_of_getElem? (i := i) (by rw [List.getElem?_set, if_pos rfl, if_pos hil]), rfl⟩
    have b : Sp (RL (R.set i (plusL f s r))) (fv s) := .of ⟨_, List.mem_of_getElem? (i := j) (by rw [List.getElem?_set, if_neg hij]; exact hj), rfl⟩
    exact (a.comb 1 (-f) b).cast fun k => by rw [fv_plus hl]; grind
theorem span_neg {R : List (List Int)} {i : Nat} {r r' : List Int} (hi : R[i]? = some r) (e : ∀ k, fv r' k = -fv r k) (v : Vc) : Sp (RL (R.set i r')) v ↔ Sp (RL R) v := by
  have hil := (List.getElem?_eq_some_iff.mp hi).1
  refine span_set hi (((Sp.of ⟨r, List.mem_of_getElem? hi, rfl⟩ : Sp (RL R) (fv r)).mul (-1)).cast fun k => by rw [e]; omega) ?_ v
  exact ((Sp.of ⟨r', List.mem_of_getElem? (i := i) (by rw [List.getElem?_set, if_pos rfl, if_pos hil]), rfl⟩ : Sp (RL (R.set i r')) (fv r')).mul (-1)).cast fun k => by rw [e]; omega
theorem span_more {R S : List (List Int)} {r : List Int} (h : Sp (RL R) (fv r)) (hS : ∀ x, x ∈ S ↔ x ∈ R ∨ x = r) (v : Vc) : Sp (RL S) v ↔ Sp (RL R) v := by
  constructor
  · refine fun g => g.trans fun x ⟨y, hy, ex⟩ => ?_
    rw [ex]
    rcases (hS y).mp hy with h1 | h1
    · exact .of ⟨y, h1, rfl⟩
    · rw [h1]; exact h
  · exact fun g => g.mono fun x ⟨y, hy, ex⟩ => ⟨y, (hS y).mpr (.inl hy), ex⟩
end Hn

namespace Hn
/-! ### a form's own numbers are smaller than those on the way to it -/
def hB (N M : Nat) : Nat := pB N M + N * ((2 * N * M) ^ N * pB N M)
theorem Ech.sizeH {N M : Nat} {st : Steps} {R : Vc → Prop} (e : Ech N st) (hM : 1 ≤ M) (hR : ∀ u, R u → bnd M u) (h : ∀ v, Sp R v ↔ Sp (RowsOf st) v) {v : Vc} (hv : Sp R v)
    (hs : ∀ c l, st[c]? = some (some l) → (v c).natAbs ≤ pB N M) {j : Nat} (hj : j < N) : (v j).natAbs ≤ hB N M := by
  by_cases hst : ∃ l, st[j]? = some (some l)
  · obtain ⟨l, hl⟩ := hst
    have := hs j l hl
    unfold hB
    omega
  · have mlt := e.m_lt hj fun l hl => hst ⟨l, hl⟩
    obtain ⟨x, d, d0, dB, xB, hf⟩ := form_bound hM e.tri (gens_of h) hR mlt j
    have f1 := hf v hv
    generalize hm : (cols st).length = m at *
    have hci : ∀ i, i < m → (v (cI st i)).natAbs ≤ pB N M := fun i hi => hs _ _ (cI_step (by omega))
    have key : d * v j = -(sm m fun i => x i * v (cI st i)) := by omega
    have b2 : (d * v j).natAbs ≤ N * ((2 * N * M) ^ N * pB N M) := by
      rw [key, Int.natAbs_neg]
      refine Nat.le_trans (sm_abs (B := (2 * N * M) ^ N * pB N M) fun i hi => ?_) (Nat.mul_le_mul_right _ (by omega))
      rw [Int.natAbs_mul]
      exact Nat.mul_le_mul (xB i hi) (hci i hi)
    have hd : (v j).natAbs ≤ (d * v j).natAbs := by
      rw [Int.natAbs_mul]
      exact Nat.le_mul_of_pos_left _ (by omega)
    unfold hB
    omega
theorem FI.hb {N M L n : Nat} {R : Vc → Prop} {st tl : Steps} (b : BR N M R st) (hM : 1 ≤ M) (hN : N = L + n) (F : FI N M L n R st 0 tl) {c : Nat} {l : List Int} (h : tl[c]? = some (some l)) : bnd (hB N M) (fv l) := by
  have zsp : Sp R (shift L (fv l)) := (F.sp _).mp (.of ⟨c, l, h, rfl⟩)
  refine bnd_out (F.e.row _ _ h) fun j hj => ?_
  have := b.e.sizeH hM b.rM b.sp zsp (fun c' x hc => ?_) (j := j + L) (by omega)
  · rw [shift_hi] at this; exact this
  · by_cases hcL : c' < L
    · rw [shift_lo hcL]; simp
    · obtain ⟨i, rfl⟩ : ∃ i, c' = i + L := ⟨c' - L, by omega⟩
      rw [shift_hi]
      rcases Nat.lt_trichotomy i c with g | g | g
      · rw [F.e.lo _ _ _ h g]; simp
      · rw [g]; exact F.pv _ _ h
      · have iN : i + L < N := b.e.lt hc
        have : i < tl.length := by rw [F.e.len]; omega
        have hi : tl[i]? = some tl[i] := List.getElem?_eq_getElem this
        rcases hh : tl[i] with _ | y
        · rw [hh] at hi
          have := (F.non i).mp hi
          rw [Nat.add_comm, hc] at this
          cases this
        · rw [hh] at hi
          have := F.red c l i y (Nat.zero_le _) h g hi
          have := F.pv _ _ hi
          omega
theorem hB_le_zB {N M : Nat} (hM : 1 ≤ M) (hN : 1 ≤ N) : hB N M ≤ zB N M := by
  unfold hB zB
  have hX : 1 ≤ 2 * N * M := Nat.mul_pos (by omega) hM
  have a : 1 ≤ (2 * N * M) ^ N := Nat.one_le_pow _ _ hX
  have b : pB N M + 1 ≤ (pB N M + 1) ^ (N + 1) := Nat.le_self_pow (by omega) _
  have c : 1 * 1 * (pB N M + 1) ≤ (2 * N * M) ^ N * M * (pB N M + 1) ^ (N + 1) := Nat.mul_le_mul (Nat.mul_le_mul a hM) b
  have d : 1 * ((2 * N * M) ^ N * M * (pB N M + 1) ^ (N + 1)) ≤ (N + 1) * ((2 * N * M) ^ N * M * (pB N M + 1) ^ (N + 1)) := Nat.mul_le_mul_right _ (by omega)
  omega
theorem hB_ge1 {N M : Nat} (hM : 1 ≤ M) (hN : 1 ≤ N) : M ≤ hB N M := by
  unfold hB pB
  have hX : 1 ≤ 2 * N * M := Nat.mul_pos (by omega) hM
  have : 2 * N * M ≤ (2 * N * M) ^ (N + 1) := Nat.le_self_pow (by omega) _
  have : 1 * M ≤ 2 * N * M := Nat.mul_le_mul_right _ (by omega)
  omega
def hE (N y : Nat) : Nat := N + y * (2 * N + 1) + 1
theorem hB_le {N M y : Nat} (h1 : 2 * N * M ≤ 2 ^ y) : hB N M ≤ 2 ^ hE N y := by
  have hX : (2 * N * M) ^ N ≤ 2 ^ (y * N) := by rw [Nat.pow_mul]; exact Nat.pow_le_pow_left h1 N
  have hp : pB N M ≤ 2 ^ (y * (N + 1)) := by unfold pB; rw [Nat.pow_mul]; exact Nat.pow_le_pow_left h1 _
  have hn : N + 1 ≤ 2 ^ N := Nat.lt_two_pow_self
  have hm : (2 * N * M) ^ N * pB N M ≤ 2 ^ (y * N) * 2 ^ (y * (N + 1)) := Nat.mul_le_mul hX hp
  have t : N * ((2 * N * M) ^ N * pB N M) ≤ 2 ^ (N + (y * N + y * (N + 1))) := by
    rw [Nat.pow_add, Nat.pow_add 2 (y * N)]
    exact Nat.mul_le_mul (by omega) hm
  have p : pB N M ≤ 2 ^ (N + (y * N + y * (N + 1))) := Nat.le_trans hp (Nat.pow_le_pow_right (by decide) (by omega))
  have e : hE N y = N + (y * N + y * (N + 1)) + 1 := by unfold hE; grind
  rw [e, Nat.pow_succ]
  unfold hB
  omega
theorem hE_mono {N N' y y' : Nat} (h : N ≤ N') (g : y ≤ y') : hE N y ≤ hE N' y' := by
  unfold hE
  have : y * (2 * N + 1) ≤ y' * (2 * N' + 1) := Nat.mul_le_mul g (by omega)
  omega
theorem hB_pow {N N' M x : Nat} (hN : N ≤ N') (h8 : N' ≤ 8) (hM : M ≤ 2 ^ x) : hB N M ≤ 2 ^ hE N' (x + 4) := by
  refine Nat.le_trans (hB_le (y := x + 4) ?_) (Nat.pow_le_pow_right (by decide) (hE_mono hN (Nat.le_refl _)))
  have : 2 * N * M ≤ 2 ^ 4 * 2 ^ x := Nat.mul_le_mul (by omega) hM
  rw [Nat.pow_add]
  omega
end Hn

set_option maxHeartbeats 4000000
namespace Hg
open PySem PySem.Spec PyProof.Rows L2
/-! ### what the lattice functions promise -/
abbrev iV (l : List Int) : List V := l.map V.int
def sm8 (B : Nat) : Prop := B.log2 < 40000000
theorem bg_at {B : Nat} (h : sm8 B) {l : List Int} (hb : Hn.bnd B (Hn.fv l)) {x : Int} (hx : x ∈ l) : bg x := by
  obtain ⟨i, hi⟩ := List.mem_iff_getElem?.mp hx
  refine bg_le ?_ h
  have := hb i
  rwa [Hn.fv_at hi] at this
theorem sm8_mono {A B : Nat} (h : A ≤ B) (hB : sm8 B) : sm8 A := by
  unfold sm8 at *
  by_cases h0 : A = 0
  · subst h0; simp
  · have : B ≠ 0 := by omega
    exact Nat.lt_of_le_of_lt ((Nat.le_log2 this).mpr (Nat.le_trans (Nat.log2_self_le h0) h)) hB
def sp_bezout (_ : PySem.W.Frag) : Sp := fun vs H Q _ => ∃ (a b : Int) (B : Nat), vs = [.int a, .int b] ∧ 0 < a ∧ b ≠ 0 ∧ a.natAbs + b.natAbs < B ∧ B.log2 < 40000000 ∧
  ∀ (g s t p r : Int) (q : Addr) (H' : Hp), Ex H H' → H' q = some (.tup [.int g, .int s, .int t]) → 0 < g → a = p * g → b = r * g → s * a + t * b = g → s.natAbs ≤ b.natAbs → t.natAbs ≤ 1 + a.natAbs → Q (.ref q) H'
def sp__combined (_ : PySem.W.Frag) : Sp := fun vs H Q _ => ∃ (a b : Addr) (f g : Int) (xs ys : List Int), vs = [.int f, .ref a, .int g, .ref b] ∧ H a = some (.lst (iV xs)) ∧ H b = some (.lst (iV ys)) ∧ xs.length = ys.length ∧ xs.length ≤ 1000 ∧ bg f ∧ bg g ∧ (∀ x ∈ xs, bg x) ∧ (∀ y ∈ ys, bg y) ∧
  ∀ (H' : Hp) (p : Addr), Ex H H' → H p = none → H' p = some (.lst (iV (Hn.combL f xs g ys))) → Q (.ref p) H'
def sp__less (K : PySem.W.Frag) : Sp := fun vs H Q _ => ∃ (k : Bool) (a b : Addr) (q : Int) (xs ys : List Int), vs = [.ref a, .int q, .ref b] ∧ H a = some (.lst (iV xs)) ∧ SqK K k H b (iV ys) ∧ xs.length = ys.length ∧ xs.length ≤ 1000 ∧ bg q ∧ (∀ y ∈ ys, bg y) ∧
  ∀ (H' : Hp) (p : Addr), Ex H H' → (p = a ∨ H p = none) → H' p = some (.lst (iV (Hn.lessL xs q ys))) → Q (.ref p) H'
def RowV (H : Hp) (sa : Addr) (v : V) : Option (List Int) → Prop
  | none => v = .non
  | some l => ∃ a, v = .ref a ∧ a ≠ sa ∧ H a = some (.lst (iV l))
structure StAt (H : Hp) (sa : Addr) (vs : List V) (st : Hn.Steps) : Prop where
  at_ : H sa = some (.lst vs)
  len : vs.length = st.length
  row : ∀ (i : Nat) (v : V) (x : Option (List Int)), vs[i]? = some v → st[i]? = some x → RowV H sa v x
theorem RowV.ex {H H' : Hp} {sa : Addr} {v : V} {x : Option (List Int)} (e : Ex H H') (h : RowV H sa v x) : RowV H' sa v x := by
  cases x with
  | none => exact h
  | some l => obtain ⟨a, h1, h2, h3⟩ := h; exact ⟨a, h1, h2, e _ _ h3⟩
theorem StAt.ex {H H' : Hp} {sa : Addr} {vs : List V} {st : Hn.Steps} (e : Ex H H') (h : StAt H sa vs st) : StAt H' sa vs st := ⟨e _ _ h.at_, h.len, fun i v x h1 h2 => (h.row i v x h1 h2).ex e⟩
theorem StAt.get {H : Hp} {sa : Addr} {vs : List V} {st : Hn.Steps} (h : StAt H sa vs st) {i : Nat} (hi : i < st.length) : ∃ v, vs[i]? = some v ∧ st[i]? = some st[i] ∧ RowV H sa v st[i] := by
  have hv : i < vs.length := by rw [h.len]; exact hi
  have e1 : vs[i]? = some vs[i] := List.getElem?_eq_getElem hv
  have e2 : st[i]? = some st[i] := List.getElem?_eq_getElem hi
  exact ⟨vs[i], e1, e2, h.row i _ _ e1 e2⟩
theorem StAt.set {H : Hp} {sa : Addr} {vs : List V} {st : Hn.Steps} (h : StAt H sa vs st) {c : Nat} {a : Addr} {l : List Int} (n : a ≠ sa) (ha : H a = some (.lst (iV l))) : StAt (upd H sa (.lst (vs.set c (.ref a)))) sa (vs.set c (.ref a)) (st.set c (some l)) := by
  refine ⟨upd_same, by rw [List.length_set, List.length_set, h.len], fun i v x h1 h2 => ?_⟩
  have keep : ∀ {b : Addr} {o : HO}, b ≠ sa → H b = some o → upd H sa (.lst (vs.set c (.ref a))) b = some o := fun hb e => (upd_ne hb).trans e
  rw [List.getElem?_set] at h1 h2
  by_cases e : c = i
  · rw [if_pos e] at h1 h2
    split at h1
    · split at h2
      · cases h1
        cases h2
        exact ⟨a, rfl, n, keep n ha⟩
      · cases h2
    · cases h1
  · rw [if_neg e] at h1 h2
    have := h.row i v x h1 h2
    cases x with
    | none => exact this
    | some l' => obtain ⟨b, e1, e2, e3⟩ := this; exact ⟨b, e1, e2, keep e2 e3⟩
def sp__lowered (_ : PySem.W.Frag) : Sp := fun vs H Q _ => ∃ (a sa : Addr) (c N B Z : Nat) (xs : List Int) (ws : List V) (st : Hn.Steps), vs = [.ref a, .int (c : Nat), .ref sa] ∧ a ≠ sa ∧ H a = some (.lst (iV xs)) ∧ StAt H sa ws st ∧ Hn.Ech N st ∧ N ≤ 100 ∧ c < N ∧ xs.length = N ∧
  Hn.bnd B (Hn.fv xs) ∧ (∀ (j : Nat) (l : List Int), st[j]? = some (some l) → Hn.bnd Z (Hn.fv l)) ∧ sm8 (B * (1 + Z) ^ N) ∧ sm8 Z ∧
  ∀ (H' : Hp) (p : Addr) (zs : List Int), Ex H H' → p ≠ sa → H' p = some (.lst (iV zs)) → Hn.Low N st c xs zs → Q (.ref p) H'
/-- all but what lies at sa stays -/
def ExB (sa : Addr) (H H' : Hp) : Prop := ∀ a o, a ≠ sa → H a = some o → H' a = some o
theorem ExB.of {sa : Addr} {H H' : Hp} (e : Ex H H') : ExB sa H H' := fun a o _ h => e a o h
theorem ExB.trans {sa : Addr} {A B C : Hp} (x : ExB sa A B) (y : ExB sa B C) : ExB sa A C := fun a o n h => y a o n (x a o n h)
theorem ExB.put {sa : Addr} {H : Hp} {o : HO} : ExB sa H (upd H sa o) := fun a u n h => (upd_ne n).trans h
/-- the numbers of a lattice with N columns and entries up to M stay small enough -/
def rm (N M : Nat) : Prop := sm8 (Hn.zB N M * (1 + Hn.zB N M) ^ (2 * N + 4))
def sp__merge (_ : PySem.W.Frag) : Sp := fun vs H Q _ => ∃ (ra sa : Addr) (c N M : Nat) (R : Hn.Vc → Prop) (u row l : List Int) (ws : List V) (st0 st : Hn.Steps), vs = [.ref sa, .int (c : Nat), .ref ra] ∧ ra ≠ sa ∧ H ra = some (.lst (iV row)) ∧ StAt H sa ws st ∧ N ≤ 100 ∧ rm N M ∧ 1 ≤ M ∧ Hn.bnd M (Hn.fv u) ∧
  Hn.BR N M R st0 ∧ Hn.RI N M R st0 u c st row ∧ st[c]? = some (some l) ∧ Hn.fv row c ≠ 0 ∧
  ∀ (H' : Hp) (p : Addr) (row' : List Int) (ws' : List V) (st' : Hn.Steps), ExB sa H H' → p ≠ sa → H' p = some (.lst (iV row')) → StAt H' sa ws' st' → Hn.RI N M R st0 u (c + 1) st' row' → Q (.ref p) H'
def sp__enter (_ : PySem.W.Frag) : Sp := fun vs H Q _ => ∃ (ra sa : Addr) (N M : Nat) (R : Hn.Vc → Prop) (u : List Int) (ws : List V) (st : Hn.Steps), vs = [.ref sa, .ref ra] ∧ ra ≠ sa ∧ H ra = some (.lst (iV u)) ∧ StAt H sa ws st ∧ N ≤ 100 ∧ rm N M ∧ 1 ≤ M ∧ u.length = N ∧ Hn.bnd M (Hn.fv u) ∧
  Hn.BR N M R st ∧ ∀ (H' : Hp) (ws' : List V) (st' : Hn.Steps), ExB sa H H' → StAt H' sa ws' st' → Hn.BR N M (Hn.or1 R (Hn.fv u)) st' → Q .non H'
/-! ### a list of rows is made -/
theorem ExB.ex {D : Addr} {H H' : Hp} (e : ExB D H H') (n : H D = none) : Ex H H' := fun a o h => e a o (fun z => by rw [z, n] at h; cases h) h
theorem RowV.exB {H H' : Hp} {sa : Addr} {v : V} {x : Option (List Int)} (e : ExB sa H H') (h : RowV H sa v x) : RowV H' sa v x := by
  cases x with
  | none => exact h
  | some l => obtain ⟨a, h1, h2, h3⟩ := h; exact ⟨a, h1, h2, e _ _ h2 h3⟩
theorem lc_rows (w : Walk J n G Y) {g : TG} {tt : TT} {te : TE} {vs : List Nat} {σ : L2.St} {H1 : Hp} {D : Addr} {Qd : Hp → Prop} (hD : H1 D = none) (P : Nat → List V → Hp → Prop) (hP : ∀ H, P 0 [] H)
    (hk : ∀ i acc H H', ExB D H H' → P i acc H → P i acc H') (hl : ∀ i acc H, P i acc H → acc.length ≤ i) (hn : n ≤ 1000000) (hG : ∀ H, Ex H1 H → G H)
    (hs : ∀ i x Hc Hy acc, i < n → Ex H1 Hc → Hc D = some (.lst acc) → P i acc Hc → Y i Hc x Hy → ∀ (Qe : VK) (Qn : Hp → Prop), (∀ y H4, Ex Hc H4 → P (i + 1) (acc ++ [y]) H4 → Qe y H4) → (∀ H3, Ex Hc H3 → P (i + 1) acc H3 → Qn H3) →
      g x (wipe σ vs) Hy fun σ2 H2 => wipe σ2 vs = wipe σ vs ∧ tt σ2 H2 fun b H3 => if b = true then te σ2 H3 Qe else Qn H3)
    (hd : ∀ H acc, Ex H1 H → P n acc H → H D = some (.lst acc) → Qd H) :
    ∃ W : Nat → Nat → Hp → Prop, (∃ m, W 0 m (upd H1 D (.lst []))) ∧ ∀ i m H, W i m H →
      (J.stop i H ∧ Qd H) ∨ (J.go i H ∧ ∃ Nx : Hp → Prop, (∀ H', Nx H' → ∃ m', m' < m ∧ W (i + 1) m' H') ∧ ∀ x H', J.yld i H x H' → g x (wipe σ vs) H' fun σ2 H2 => wipe σ2 vs = wipe σ vs ∧ tt σ2 H2 fun b H3 =>
        if b = true then te σ2 H3 fun y H4 => ∃ acc, H4 D = some (.lst acc) ∧ acc.length < sizeLine ∧ Nx (upd H4 D (.lst (acc ++ [y]))) else Nx H3) := by
  refine lc_it w (fun i H => Ex H1 H ∧ ∃ acc, H D = some (.lst acc) ∧ P i acc H ∧ i ≤ n) ⟨Ex.new hD, [], upd_same, hP _, Nat.zero_le _⟩ (fun i H _ p => hG H p.1) (fun i x Hc Hy hi p y => ?_) (fun H p => ?_)
  · obtain ⟨ex, acc, hacc, hp, hin⟩ := p
    refine hs i x Hc Hy acc hi ex hacc hp y _ _ (fun y H4 e hp4 => ?_) (fun H3 e hp3 => ?_)
    · refine ⟨acc, e _ _ hacc, ?_, (ex.trans e).up hD, acc ++ [y], upd_same, hk _ _ _ _ ExB.put hp4, hi⟩
      have := hl _ _ _ hp
      rw [sizeLine_eq]
      omega
    · exact ⟨ex.trans e, acc, e _ _ hacc, hp3, hi⟩
  · obtain ⟨ex, acc, hacc, hp, _⟩ := p
    exact hd H acc ex hp hacc
theorem ExB.seq {K : PySem.W.Frag} {k : Bool} {sa : Addr} {H H' : Hp} {a : Addr} {xs : List V} (e : ExB sa H H') (n : H sa = none) (h : SqK K k H a xs) : SqK K k H' a xs := by
  have keep : ∀ {o : HO}, H a = some o → H' a = some o := fun z => e _ _ (fun q => by rw [q, n] at z; cases z) z
  have rd : ∀ {u : HO}, Rd H a u → Rd H' a u := fun {u} z => z.elim (fun z => .inl (keep z)) fun ⟨o, z⟩ => .inr ⟨o, keep z⟩
  cases k with
  | true => exact Or.imp rd id h
  | false => exact Or.imp rd id h
/-- rows that are handed in -/
def RowsK (K : PySem.W.Frag) (H : Hp) (xs : List V) (rows : List (List Int)) : Prop := xs.length = rows.length ∧ ∀ (i : Nat) (x : V) (r : List Int), xs[i]? = some x → rows[i]? = some r → ∃ (k : Bool) (a : Addr), x = .ref a ∧ SqK K k H a (iV r)
theorem RowsK.ex {K : PySem.W.Frag} {H H' : Hp} {xs : List V} {rows : List (List Int)} (e : Ex H H') (h : RowsK K H xs rows) : RowsK K H' xs rows :=
  ⟨h.1, fun i x r h1 h2 => by obtain ⟨k, a, e1, e2⟩ := h.2 i x r h1 h2; exact ⟨k, a, e1, e.seq e2⟩⟩
def sp__tails (K : PySem.W.Frag) : Sp := fun vs H Q _ => ∃ (k : Bool) (a : Addr) (L n M : Nat) (xs : List V) (rows : List (List Int)), vs = [.ref a, .int (L : Nat), .int (n : Nat)] ∧ SqK K k H a xs ∧ RowsK K H xs rows ∧ L + n ≤ 100 ∧ rows.length ≤ 1000 ∧ (∀ r ∈ rows, r.length = L + n ∧ Hn.bnd M (Hn.fv r)) ∧ 1 ≤ M ∧ rm (L + n) M ∧
  ∀ (H' : Hp) (p : Addr) (as : List Addr) (B : List (List Int)), Ex H H' → H' p = some (.tup (as.map V.ref)) → RowsIn H' as B → Hn.Hnf n (fun v => Hn.Sp (Hn.RL rows) (Hn.shift L v)) B → (∀ r ∈ B, r.length = n ∧ Hn.bnd (Hn.hB (L + n) M) (Hn.fv r)) → Q (.ref p) H'
def sp_hermite (K : PySem.W.Frag) : Sp := fun vs H Q _ => ∃ (k : Bool) (a : Addr) (n M : Nat) (xs : List V) (rows : List (List Int)), vs = [.ref a, .int (n : Nat)] ∧ SqK K k H a xs ∧ RowsK K H xs rows ∧ n ≤ 100 ∧ rows.length ≤ 1000 ∧ (∀ r ∈ rows, r.length = n ∧ Hn.bnd M (Hn.fv r)) ∧ 1 ≤ M ∧ rm n M ∧
  ∀ (H' : Hp) (p : Addr) (as : List Addr) (B : List (List Int)), Ex H H' → H' p = some (.tup (as.map V.ref)) → RowsIn H' as B → Hn.Hnf n (Hn.Sp (Hn.RL rows)) B → (∀ r ∈ B, r.length = n ∧ Hn.bnd (Hn.hB n M) (Hn.fv r)) → Q (.ref p) H'
end Hg
namespace Hn
theorem BR.congr {N M : Nat} {R R' : Vc → Prop} {st : Steps} (b : BR N M R st) (h : ∀ v, R v ↔ R' v) : BR N M R' st := by
  have : R = R' := funext fun v => propext (h v)
  exact this ▸ b
theorem BR.empty {N M : Nat} : BR N M (fun _ => False) (List.replicate N none) := by
  have no : ∀ {c : Nat} {l : List Int}, (List.replicate N (none : Option (List Int)))[c]? ≠ some (some l) := fun {c l} h => by
    have := List.mem_of_getElem? h
    have := List.eq_of_mem_replicate this
    cases this
  refine ⟨⟨List.length_replicate, fun c l h => (no h).elim, fun c l j h => (no h).elim, fun c l h => (no h).elim⟩, fun v => ⟨fun h => h.trans fun x hx => hx.elim, fun h => h.trans fun x ⟨c, l, hc, _⟩ => (no hc).elim⟩, fun j l h => (no h).elim, fun u h => h.elim⟩
end Hn

namespace Hn
/-! ### the law's way to a basis -/
structure BI (n : Nat) (cs : List Nat) (Z : Nat) (R : List (List Int)) (i k : Nat) : Prop where
  e : EchR n cs R
  red : ∀ (h j c : Nat) (r r' : List Int), h < j → (j < i ∨ (j = i ∧ h < k)) → cs[j]? = some c → R[h]? = some r → R[j]? = some r' → 0 ≤ fv r c ∧ fv r c < fv r' c
  raw : ∀ (j : Nat) (r : List Int), i ≤ j → R[j]? = some r → bnd Z (fv r)
  low : ∀ (j : Nat) (r : List Int), k ≤ j → R[j]? = some r → bnd (Z * (1 + Z) ^ i) (fv r)
  all : ∀ (j : Nat) (r : List Int), R[j]? = some r → bnd (Z * (1 + Z) ^ (i + 1)) (fv r)
theorem BI.start {n Z : Nat} {cs : List Nat} {R : List (List Int)} (e : EchR n cs R) (h : ∀ r ∈ R, bnd Z (fv r)) : BI n cs Z R 0 0 :=
  ⟨e, fun h j c r r' h1 h2 => by omega, fun j r _ hr => h r (List.mem_of_getElem? hr), fun j r _ hr => by rw [Nat.pow_zero, Nat.mul_one]; exact h r (List.mem_of_getElem? hr),
    fun j r hr => bnd_mono (Nat.le_mul_of_pos_right _ (Nat.pow_pos (by omega))) (h r (List.mem_of_getElem? hr))⟩
theorem BI.next {n Z : Nat} {cs : List Nat} {R : List (List Int)} {i : Nat} (b : BI n cs Z R i i) : BI n cs Z R (i + 1) 0 :=
  ⟨b.e, fun h j c r r' h1 h2 h3 h4 h5 => b.red h j c r r' h1 (by omega) h3 h4 h5, fun j r h1 h2 => b.raw j r (by omega) h2, fun j r _ h => b.all j r h,
    fun j r h => bnd_mono (Nat.mul_le_mul_left _ (Nat.pow_le_pow_right (by omega) (by omega))) (b.all j r h)⟩
theorem BI.hnf {n Z : Nat} {cs : List Nat} {R : List (List Int)} {i : Nat} (b : BI n cs Z R i 0) (h : R.length ≤ i) : Hnf n (Sp (RL R)) R :=
  b.e.hnf fun h' j c r r' h1 h2 h3 h4 => b.red h' j c r r' h1 (.inl (by have := (List.getElem?_eq_some_iff.mp h4).1; omega)) h2 h3 h4
theorem asc_lt {cs : List Nat} (h : cs.Pairwise (· < ·)) {i j a b : Nat} (hij : i < j) (ha : cs[i]? = some a) (hb : cs[j]? = some b) : a < b := by
  have hi := (List.getElem?_eq_some_iff.mp ha).1
  have hj := (List.getElem?_eq_some_iff.mp hb).1
  have := List.pairwise_iff_getElem.mp h i j hi hj hij
  rw [List.getElem?_eq_getElem hi] at ha
  rw [List.getElem?_eq_getElem hj] at hb
  cases ha
  cases hb
  exact this
theorem BI.step {n Z : Nat} {cs : List Nat} {R : List (List Int)} {i k c : Nat} {rh rl : List Int} (b : BI n cs Z R i k) (hk : k < i) (hc : cs[i]? = some c) (hh : R[k]? = some rh) (hl : R[i]? = some rl) : BI n cs Z (R.set k (plusL (0 - fv rh c / fv rl c) rl rh)) i (k + 1) := by
  obtain ⟨l1, l2, l3⟩ := b.e.row i c rl hc hl
  have kl := (List.getElem?_eq_some_iff.mp hh).1
  have kcl : k < cs.length := by rw [b.e.len]; exact kl
  have hck : cs[k]? = some cs[k] := List.getElem?_eq_getElem kcl
  generalize cs[k] = ck at hck
  obtain ⟨h1, h2, h3⟩ := b.e.row k ck rh hck hh
  have ckc : ck < c := asc_lt b.e.asc hk hck hc
  have hll : rl.length = rh.length := by rw [l1, h1]
  generalize hf : (0 - fv rh c / fv rl c) = f
  have fb : f.natAbs ≤ Z * (1 + Z) ^ i := by
    have a := b.low k rh (Nat.le_refl k) hh c
    have := Int.natAbs_ediv_le_natAbs (fv rh c) (fv rl c)
    omega
  have lz := b.raw i rl (Nat.le_refl i) hl
  have newb : bnd (Z * (1 + Z) ^ (i + 1)) (fv (plusL f rl rh)) := by
    refine bnd_mono ?_ (bnd_plus hll fb lz (b.low k rh (Nat.le_refl k) hh))
    rw [Nat.pow_succ, ← Nat.mul_assoc, Nat.mul_add, Nat.mul_one]
    omega
  have newr : ∀ j, fv (plusL f rl rh) j = f * fv rl j + fv rh j := fv_plus hll
  have at_ : ∀ (j : Nat) (r : List Int), (R.set k (plusL f rl rh))[j]? = some r → (j = k ∧ r = plusL f rl rh) ∨ (j ≠ k ∧ R[j]? = some r) := fun j r h => by
    rw [List.getElem?_set] at h
    by_cases e : k = j
    · rw [if_pos e, if_pos kl] at h; cases h; exact .inl ⟨e.symm, rfl⟩
    · rw [if_neg e] at h; exact .inr ⟨Ne.symm e, h⟩
  have piv : ∀ (j c' : Nat) (r r0 : List Int), cs[j]? = some c' → (R.set k (plusL f rl rh))[j]? = some r → R[j]? = some r0 → fv r c' = fv r0 c' := fun j c' r r0 g1 g2 g3 => by
    rcases at_ j r g2 with ⟨rfl, rfl⟩ | ⟨_, g⟩
    · rw [hh] at g3
      cases g3
      rw [hck] at g1
      cases g1
      rw [newr, l2 _ ckc]; omega
    · rw [g] at g3; cases g3; rfl
  refine ⟨⟨by rw [List.length_set]; exact b.e.len, b.e.asc, b.e.lt, fun j c' r g1 g2 => ?_⟩, fun h j c' r r' g1 g2 g3 g4 g5 => ?_, fun j r g1 g2 => ?_, fun j r g1 g2 => ?_, fun j r g2 => ?_⟩
  · rcases at_ j r g2 with ⟨rfl, rfl⟩ | ⟨_, g⟩
    · rw [hck] at g1
      cases g1
      refine ⟨by rw [len_plus hll, h1], fun x hx => ?_, ?_⟩
      · rw [newr, h2 x hx, l2 x (by omega)]; simp
      · rw [newr, l2 _ ckc]; omega
    · exact b.e.row j c' r g1 g
  · have hr' : ∃ r0, R[j]? = some r0 := ⟨_, List.getElem?_eq_getElem (by have := (List.getElem?_eq_some_iff.mp g5).1; rwa [List.length_set] at this)⟩
    obtain ⟨r0, hr0⟩ := hr'
    have ep := piv j c' r' r0 g3 g5 hr0
    rw [ep]
    rcases at_ h r g4 with ⟨rfl, rfl⟩ | ⟨ne, g⟩
    · rcases g2 with g2 | ⟨rfl, _⟩
      · have old := b.red h j c' rh r0 g1 (.inl g2) g3 hh hr0
        have : c' < c := asc_lt b.e.asc g2 g3 hc
        rw [newr, l2 c' this]
        omega
      · rw [hc] at g3
        cases g3
        rw [hl] at hr0
        cases hr0
        rw [newr, ← hf]
        have a1 := Int.emod_nonneg (fv rh c) (b := fv rl c) (by omega)
        have a2 := Int.emod_lt_of_pos (fv rh c) l3
        have a3 : (0 - fv rh c / fv rl c) * fv rl c + fv rh c = fv rh c % fv rl c := by
          have := Int.mul_ediv_add_emod (fv rh c) (fv rl c)
          grind
        omega
    · exact b.red h j c' r r0 g1 (by omega) g3 g hr0
  · rcases at_ j r g2 with ⟨rfl, rfl⟩ | ⟨_, g⟩
    · omega
    · exact b.raw j r g1 g
  · rcases at_ j r g2 with ⟨rfl, rfl⟩ | ⟨_, g⟩
    · omega
    · exact b.low j r (by omega) g
  · rcases at_ j r g2 with ⟨rfl, rfl⟩ | ⟨_, g⟩
    · exact newb
    · exact b.all j r g
end Hn

namespace Hn
/-! ### another lattice -/
theorem EchR.erase {n : Nat} {cs : List Nat} {R : List (List Int)} (e : EchR n cs R) (k : Nat) : EchR n (cs.eraseIdx k) (R.eraseIdx k) := by
  refine ⟨by rw [List.length_eraseIdx, List.length_eraseIdx, e.len], e.asc.sublist (List.eraseIdx_sublist cs k), fun c hc => e.lt c ((List.eraseIdx_sublist cs k).subset hc), fun i c r h1 h2 => ?_⟩
  rw [List.getElem?_eraseIdx] at h1 h2
  split at h1
  · rename_i hi
    rw [if_pos hi] at h2
    exact e.row i c r h1 h2
  · rename_i hi
    rw [if_neg hi] at h2
    exact e.row _ c r h1 h2
theorem EchR.lead_at {n : Nat} {cs : List Nat} {R : List (List Int)} (e : EchR n cs R) {r : List Int} {c : Nat} (h0 : ∀ j, j < c → fv r j = 0) (hp : 0 < fv r c) (hs : Sp (RL R) (fv r)) : ∃ (i : Nat) (r' : List Int), cs[i]? = some c ∧ R[i]? = some r' ∧ ∃ q, fv r c = q * fv r' c := by
  rcases e.lead hs with h | ⟨i, c', r', h1, h2, h3, h4, q, hq⟩
  · have := h c; omega
  · have : c' = c := by
      rcases Nat.lt_trichotomy c' c with g | g | g
      · exact absurd (h0 c' g) h4
      · exact g
      · have := h3 c g; omega
    subst this
    exact ⟨i, r', h1, h2, q, hq⟩
theorem other_drop {n : Nat} {cs : List Nat} {R : List (List Int)} (e : EchR n cs R) {k : Nat} {r : List Int} (hk : R[k]? = some r) : ¬ Sp (RL (R.eraseIdx k)) (fv r) := by
  intro h
  have hkl := (List.getElem?_eq_some_iff.mp hk).1
  obtain ⟨c, hc⟩ : ∃ c, cs[k]? = some c := ⟨_, List.getElem?_eq_getElem (by rw [e.len]; exact hkl)⟩
  obtain ⟨_, a2, a3⟩ := e.row k c r hc hk
  obtain ⟨i, r', h1, h2, _⟩ := (e.erase k).lead_at a2 a3 h
  rw [List.getElem?_eraseIdx] at h1
  split at h1
  · rename_i hi
    have := asc_lt e.asc hi h1 hc
    omega
  · rename_i hi
    have := asc_lt e.asc (show k < i + 1 by omega) hc h1
    omega
theorem other_mul {n : Nat} {cs : List Nat} {R : List (List Int)} (e : EchR n cs R) {k : Nat} {r r' : List Int} (hk : R[k]? = some r) {p : Int} (hp : 2 ≤ p) (hl : r'.length = r.length) (hr : ∀ j, fv r' j = p * fv r j) : ¬ Sp (RL (R.set k r')) (fv r) := by
  intro h
  have hkl := (List.getElem?_eq_some_iff.mp hk).1
  obtain ⟨c, hc⟩ : ∃ c, cs[k]? = some c := ⟨_, List.getElem?_eq_getElem (by rw [e.len]; exact hkl)⟩
  obtain ⟨a1, a2, a3⟩ := e.row k c r hc hk
  have e' : EchR n cs (R.set k r') := ⟨by rw [List.length_set]; exact e.len, e.asc, e.lt, fun i c' s h1 h2 => by
    rw [List.getElem?_set] at h2
    by_cases g : k = i
    · rw [if_pos g, if_pos hkl] at h2
      cases h2
      subst g
      rw [hc] at h1
      cases h1
      exact ⟨by rw [hl, a1], fun j hj => by rw [hr, a2 j hj, Int.mul_zero], by rw [hr]; exact Int.mul_pos (by omega) a3⟩
    · rw [if_neg g] at h2
      exact e.row i c' s h1 h2⟩
  obtain ⟨i, s, h1, h2, q, hq⟩ := e'.lead_at a2 a3 h
  have ei : i = k := by
    rcases Nat.lt_trichotomy i k with g | g | g
    · have := asc_lt e.asc g h1 hc; omega
    · exact g
    · have := asc_lt e.asc g hc h1; omega
  subst ei
  rw [List.getElem?_set, if_pos rfl, if_pos hkl] at h2
  cases h2
  rw [hr] at hq
  have : (q * p) * fv r c = 1 * fv r c := by grind
  have := Int.eq_of_mul_eq_mul_right (by omega) this
  rcases Int.lt_or_le q 1 with g | g
  · have : q * p ≤ 0 := Int.mul_nonpos_of_nonpos_of_nonneg (by omega) (by omega)
    omega
  · have := le_mul1 (a := q) (b := p) (by omega) g
    omega
end Hn

set_option maxHeartbeats 4000000
namespace Hg
open PySem PySem.Spec PyProof.Rows L2
/-! ### what the lattice laws' own functions promise -/
def rowD (k : Bool) (r : List Int) : PyData := if k then .tuple (r.map PyData.int) else .list (r.map PyData.int)
theorem RowsK.tail {K : PySem.W.Frag} {H : Hp} {x : V} {xs : List V} {r : List Int} {rows : List (List Int)} (h : RowsK K H (x :: xs) (r :: rows)) : (∃ k a, x = .ref a ∧ SqK K k H a (iV r)) ∧ RowsK K H xs rows :=
  ⟨h.2 0 x r rfl rfl, ⟨by have := h.1; simpa using this, fun i y s h1 h2 => h.2 (i + 1) y s (by simpa using h1) (by simpa using h2)⟩⟩
theorem RowsK.dp {K : PySem.W.Frag} {H : Hp} : ∀ {xs : List V} {rows : List (List Int)}, RowsK K H xs rows → ∃ ds, DpAll K H xs ds ∧ ∃ ks : List Bool, ds = List.zipWith rowD ks rows ∧ ks.length = rows.length
  | [], [], _ => ⟨[], .nil, [], rfl, rfl⟩
  | [], r :: rows, h => by have := h.1; simp at this
  | x :: xs, [], h => by have := h.1; simp at this
  | x :: xs, r :: rows, h => by
    obtain ⟨⟨k, a, rfl, ha⟩, t⟩ := h.tail
    obtain ⟨ds, hd, ks, e, hl⟩ := t.dp
    refine ⟨rowD k r :: ds, .cons ?_ hd, k :: ks, by rw [e]; rfl, by simp [hl]⟩
    cases k with
    | true => exact dp_t ha
    | false => exact dp_l ha
def sp_l_plus (_ : PySem.W.Frag) : Sp := fun vs H Q _ => ∃ (a b : Addr) (q : Int) (xs ys : List Int), vs = [.int q, .ref a, .ref b] ∧ H a = some (.tup (iV xs)) ∧ H b = some (.tup (iV ys)) ∧ xs.length = ys.length ∧ xs.length ≤ 1000 ∧ bg q ∧ (∀ x ∈ xs, bg x) ∧
  ∀ (H' : Hp) (p : Addr), Ex H H' → H p = none → H' p = some (.tup (iV (Hn.plusL q xs ys))) → Q (.ref p) H'
def sp_l_size (_ : PySem.W.Frag) : Sp := fun vs H Q _ => ∃ (s q : Addr) (B : Nat) (G : Hp), vs = [.ref s] ∧ Ov s q B G H ∧ B < 900000 ∧ ∀ (n : Nat) (H' : Hp), 1 ≤ n → n ≤ 7 → Ov s q (B + 1) G H' → Q (.int (n : Nat)) H'
def sp_l_lists_ofN (K : PySem.W.Frag) : Nat → Sp
  | 0 => fun _ _ _ _ => False
  | n + 1 => fun vs H Q _ => (∃ i, vs = [.int i] ∧ ∀ H', Ex H H' → Q (.int i) H') ∨
    (1 ≤ n ∧ ∃ (k : Bool) (a : Addr) (ns : List Int), vs = [.ref a] ∧ SqK K k H a (iV ns) ∧ ns.length ≤ 1000 ∧ ∀ (H' : Hp) (p : Addr), Ex H H' → H p = none → H' p = some (.lst (iV ns)) → Q (.ref p) H') ∨
    (2 ≤ n ∧ ∃ (k : Bool) (a : Addr) (xs : List V) (rows : List (List Int)), vs = [.ref a] ∧ SqK K k H a xs ∧ RowsK K H xs rows ∧ rows.length ≤ 1000 ∧ (∀ r ∈ rows, r.length ≤ 1000) ∧
      ∀ (H' : Hp) (p : Addr) (ys : List V), Ex H H' → H p = none → H' p = some (.lst ys) → (ys.length = rows.length ∧ ∀ (i : Nat) (y : V) (r : List Int), ys[i]? = some y → rows[i]? = some r → ∃ b, y = .ref b ∧ H b = none ∧ H' b = some (.lst (iV r))) → Q (.ref p) H')
def sp_l_listed (K : PySem.W.Frag) : Sp := fun vs H Q _ => ∃ (s q : Addr) (B : Nat) (G : Hp) (k : Bool) (a : Addr) (xs : List V) (rows : List (List Int)), vs = [.ref s, .ref a] ∧ Ov s q B G H ∧ B < 900000 ∧ SqK K k G a xs ∧ RowsK K G xs rows ∧ rows.length ≤ 1000 ∧ (∀ r ∈ rows, r.length ≤ 1000) ∧
  ∀ (G' H' : Hp) (k' : Bool) (p : Addr) (ys : List V), Ex G G' → Ov s q (B + 1) G' H' → SqK K k' G' p ys → RowsK K G' ys rows → Q (.ref p) H'
def sp_l_basis (_ : PySem.W.Frag) : Sp := fun vs H Q _ => ∃ (s q : Addr) (B n : Nat) (G : Hp), vs = [.ref s, .int (n : Nat)] ∧ 1 ≤ n ∧ n ≤ 7 ∧ Ov s q B G H ∧ B < 800000 ∧
  ∀ (p : Addr) (as : List Addr) (cs : List Nat) (R : List (List Int)) (G' H' : Hp), Ex G G' → Ov s q (B + 300) G' H' → G' p = some (.tup (as.map V.ref)) → RowsIn G' as R → Hn.EchR n cs R → Hn.Hnf n (Hn.Sp (Hn.RL R)) R → (∀ r ∈ R, Hn.bnd (2 ^ 1070) (Hn.fv r)) → Q (.ref p) H'
theorem RowsIn.beside {s q : Addr} {B : Nat} {G H : Hp} (O : Ov s q B G H) {as : List Addr} {R : List (List Int)} (h : RowsIn H as R) : RowsIn (beside s q H) as R := ⟨h.1, fun i a r h1 h2 => O.tup (h.2 i a r h1 h2)⟩
theorem RowsIn.len {H : Hp} {as : List Addr} {R : List (List Int)} (h : RowsIn H as R) : as.length = R.length := h.1
theorem RowsIn.app {H : Hp} {as bs : List Addr} {R S : List (List Int)} (h : RowsIn H as R) (g : RowsIn H bs S) : RowsIn H (as ++ bs) (R ++ S) := by
  refine ⟨by rw [List.length_append, List.length_append, h.1, g.1], fun i a r h1 h2 => ?_⟩
  by_cases hi : i < as.length
  · rw [List.getElem?_append_left hi] at h1
    rw [List.getElem?_append_left (by rw [← h.1]; exact hi)] at h2
    exact h.2 i a r h1 h2
  · rw [List.getElem?_append_right (by omega)] at h1
    rw [List.getElem?_append_right (by rw [← h.1]; omega), ← h.1] at h2
    exact g.2 _ a r h1 h2
theorem RowsIn.take {H : Hp} {as : List Addr} {R : List (List Int)} (h : RowsIn H as R) (k : Nat) : RowsIn H (as.take k) (R.take k) := by
  refine ⟨by rw [List.length_take, List.length_take, h.1], fun i a r h1 h2 => ?_⟩
  rw [List.getElem?_take] at h1 h2
  split at h1
  · rename_i hi
    rw [if_pos hi] at h2
    exact h.2 i a r h1 h2
  · cases h1
theorem RowsIn.drop {H : Hp} {as : List Addr} {R : List (List Int)} (h : RowsIn H as R) (k : Nat) : RowsIn H (as.drop k) (R.drop k) := by
  refine ⟨by rw [List.length_drop, List.length_drop, h.1], fun i a r h1 h2 => ?_⟩
  rw [List.getElem?_drop] at h1 h2
  exact h.2 _ a r h1 h2
theorem RowsIn.one {H : Hp} {a : Addr} {r : List Int} (h : H a = some (.tup (iV r))) : RowsIn H [a] [r] := by
  have := RowsIn.nil.snoc (H := H) h
  exact this
theorem RowsIn.k {K : PySem.W.Frag} {H : Hp} {as : List Addr} {R : List (List Int)} (h : RowsIn H as R) : RowsK K H (as.map V.ref) R := by
  refine ⟨by rw [List.length_map, h.1], fun i x r h1 h2 => ?_⟩
  rw [List.getElem?_map] at h1
  obtain ⟨a, ha, e⟩ := Option.map_eq_some_iff.mp h1
  exact ⟨true, a, e.symm, SqK.tup (h.2 i a r ha h2)⟩
def sp_l_generators (_ : PySem.W.Frag) : Sp := fun vs H Q _ => ∃ (s q a : Addr) (B n : Nat) (G : Hp) (as : List Addr) (R : List (List Int)), vs = [.ref s, .ref a, .int (n : Nat)] ∧ 1 ≤ n ∧ n ≤ 7 ∧ Ov s q B G H ∧ B < 700000 ∧ G a = some (.tup (as.map V.ref)) ∧ RowsIn G as R ∧ R.length ≤ 7 ∧ (∀ r ∈ R, r.length = n ∧ Hn.bnd (2 ^ 1080) (Hn.fv r)) ∧
  ∀ (p : Addr) (as' : List Addr) (F : List (List Int)) (G' H' : Hp), Ex G G' → Ov s q (B + 100) G' H' → G' p = some (.lst (as'.map V.ref)) → RowsIn G' as' F → F.length ≤ 10 → (∀ r ∈ F, r.length = n ∧ Hn.bnd (2 ^ 1200) (Hn.fv r)) → (∀ v, Hn.Sp (Hn.RL F) v ↔ Hn.Sp (Hn.RL R) v) → Q (.ref p) H'
def sp_l_other (_ : PySem.W.Frag) : Sp := fun vs H Q _ => ∃ (s q a : Addr) (B n : Nat) (G : Hp) (as : List Addr) (cs : List Nat) (R : List (List Int)), vs = [.ref s, .ref a] ∧ Ov s q B G H ∧ B < 700000 ∧ n ≤ 7 ∧ G a = some (.tup (as.map V.ref)) ∧ RowsIn G as R ∧ Hn.EchR n cs R ∧ 0 < R.length ∧ R.length ≤ 7 ∧ (∀ r ∈ R, Hn.bnd (2 ^ 1070) (Hn.fv r)) ∧
  ∀ (p : Addr) (as' : List Addr) (F : List (List Int)) (G' H' : Hp), Ex G G' → Ov s q (B + 3) G' H' → G' p = some (.tup (as'.map V.ref)) → RowsIn G' as' F → F.length ≤ 7 → (∀ r ∈ F, r.length = n ∧ Hn.bnd (2 ^ 1080) (Hn.fv r)) → (∃ r ∈ R, ¬ Hn.Sp (Hn.RL F) (Hn.fv r)) → Q (.ref p) H'
end Hg

set_option maxHeartbeats 4000000
namespace Hg
open PySem PySem.Spec PyProof.Rows L2
/-! ### rows compared and shown -/
theorem eqvAll_rows : ∀ A B : List (List Int), PyData.eqvAll (A.map fun r => PyData.tuple (r.map PyData.int)) (B.map fun r => PyData.tuple (r.map PyData.int)) = decide (A = B)
  | [], [] => by simp [PyData.eqvAll]
  | [], y :: ys => by simp [PyData.eqvAll]
  | x :: xs, [] => by simp [PyData.eqvAll]
  | x :: xs, y :: ys => by
    have h1 := eqvAll_rows xs ys
    have h2 := eqv_t x y
    simp only [List.map_cons, PyData.eqvAll]
    rw [h1, h2]
    by_cases h : x = y
    · simp [h]
    · simp [h]
theorem eqv_rows (A B : List (List Int)) : PyData.eqv (.tuple (A.map fun r => PyData.tuple (r.map PyData.int))) (.tuple (B.map fun r => PyData.tuple (r.map PyData.int))) = decide (A = B) := by
  rw [PyData.eqv]
  exact eqvAll_rows A B
theorem dp_rowsT {K : PySem.W.Frag} {H : Hp} {p : Addr} {as : List Addr} {R : List (List Int)} (h : SqT K H p (as.map V.ref)) (r : RowsIn H as R) : Dp K H (.ref p) (.tuple (R.map fun r => PyData.tuple (r.map PyData.int))) := .tup h (dp_rows as R r)
structure Shw (d : PyData) (n : Nat) : Prop where
  s : d.showable = true
  h : d.hasDict = false
  l : d.shown.length ≤ n
theorem shw_int {i : Int} (h : i.natAbs ≤ 2 ^ 1200) : Shw (.int i) 370 := by
  refine ⟨decide_eq_true (Nat.lt_of_le_of_lt (Hn.log_le h) (by decide)), rfl, ?_⟩
  have e := int_text_length_le10 (a := i) (k := 362) (by decide) (Nat.lt_of_le_of_lt h (by decide))
  show (Str.ofString (toString i)).length ≤ 370
  rw [PySem.ofString_length]
  omega
theorem shw_all {n : Nat} : ∀ {ds : List PyData}, (∀ d ∈ ds, Shw d n) → PyData.showableAll ds = true ∧ PyData.hasDictAll ds = false ∧ ((PyData.shownAll ds).map (·.length)).sum ≤ ds.length * n ∧ (PyData.shownAll ds).length = ds.length
  | [], _ => by simp [PyData.showableAll, PyData.hasDictAll, PyData.shownAll]
  | d :: ds, h => by
    obtain ⟨a1, a2, a3, a4⟩ := shw_all (ds := ds) fun e he => h e (by simp [he])
    obtain ⟨b1, b2, b3⟩ := h d (by simp)
    simp only [PyData.showableAll, PyData.hasDictAll, PyData.shownAll, List.map_cons, List.sum_cons, List.length_cons]
    refine ⟨by rw [a1, b1]; rfl, by rw [a2, b2]; rfl, ?_, by rw [a4]⟩
    rw [Nat.succ_mul]; omega
theorem shw_seq {n : Nat} {ds : List PyData} (h : ∀ d ∈ ds, Shw d n) (k : Bool) : Shw (if k then .tuple ds else .list ds) (ds.length * n + 2 * ds.length + 3) := by
  obtain ⟨a1, a2, a3, a4⟩ := shw_all h
  cases k with
  | true =>
    refine ⟨a1, a2, ?_⟩
    show (tupleText (PyData.shownAll ds)).length ≤ _
    have := tupleText_len_le (PyData.shownAll ds)
    omega
  | false =>
    refine ⟨a1, a2, ?_⟩
    show (listText (PyData.shownAll ds)).length ≤ _
    have := listText_len_le (PyData.shownAll ds)
    omega
theorem depthAll_le {n : Nat} : ∀ {ds : List PyData}, (∀ d ∈ ds, d.depth ≤ n) → PyData.depthAll ds ≤ n
  | [], _ => by simp [PyData.depthAll]
  | d :: ds, h => by
    have a := h d (by simp)
    have b := depthAll_le (ds := ds) fun e he => h e (by simp [he])
    simp only [PyData.depthAll]
    omega
theorem mem_zip {ks : List Bool} {rows : List (List Int)} {d : PyData} (h : d ∈ List.zipWith rowD ks rows) : ∃ k r, r ∈ rows ∧ d = rowD k r := by
  obtain ⟨i, hi⟩ := List.mem_iff_getElem?.mp h
  rw [List.getElem?_zipWith] at hi
  match h1 : ks[i]?, h2 : rows[i]?, hi with
  | some k, some r, hi =>
    cases hi
    exact ⟨k, r, List.mem_of_getElem? h2, rfl⟩
theorem rows_show {ks : List Bool} {rows : List (List Int)} (hk : ks.length = rows.length) (hl : rows.length ≤ 20) (hr : ∀ r ∈ rows, r.length ≤ 20 ∧ Hn.bnd (2 ^ 1200) (Hn.fv r)) (b : Bool) :
    (if b then PyData.tuple (List.zipWith rowD ks rows) else .list (List.zipWith rowD ks rows)).showable = true ∧ (if b then PyData.tuple (List.zipWith rowD ks rows) else .list (List.zipWith rowD ks rows)).hasDict = false ∧
    (if b then PyData.tuple (List.zipWith rowD ks rows) else .list (List.zipWith rowD ks rows)).depth ≤ 20 ∧ (if b then PyData.tuple (List.zipWith rowD ks rows) else .list (List.zipWith rowD ks rows)).shown.length ≤ sizeLine := by
  have each : ∀ d ∈ List.zipWith rowD ks rows, Shw d 8000 ∧ d.depth ≤ 2 := fun d hd => by
    obtain ⟨k, r, hm, rfl⟩ := mem_zip hd
    obtain ⟨l, bd⟩ := hr r hm
    have hints : ∀ d ∈ r.map PyData.int, Shw d 370 := fun d hd => by
      obtain ⟨i, hi, rfl⟩ := List.mem_map.mp hd
      obtain ⟨j, hj⟩ := List.mem_iff_getElem?.mp hi
      have := bd j
      rw [Hn.fv_at hj] at this
      exact shw_int this
    have s := shw_seq hints k
    have dd := depth_ints r
    rw [List.length_map] at s
    constructor
    · exact ⟨s.s, s.h, Nat.le_trans s.l (by omega)⟩
    · cases k with
      | true => show PyData.depthAll (r.map PyData.int) + 1 ≤ 2; omega
      | false => show PyData.depthAll (r.map PyData.int) + 1 ≤ 2; omega
  have s := shw_seq (fun d hd => (each d hd).1) b
  have dd := depthAll_le fun d hd => (each d hd).2
  have zl : (List.zipWith rowD ks rows).length ≤ 20 := by rw [List.length_zipWith]; omega
  refine ⟨s.s, s.h, ?_, Nat.le_trans s.l ?_⟩
  · cases b with
    | true => show PyData.depthAll _ + 1 ≤ 20; omega
    | false => show PyData.depthAll _ + 1 ≤ 20; omega
  · rw [sizeLine_eq]
    omega
def unitsL (n : Nat) : List (List Int) := (List.range n).map fun k => (List.range n).map fun j => if j = k then 1 else 0
def sp_whole (_ : PySem.W.Frag) : Sp := fun vs H Q _ => ∃ n : Nat, vs = [.int (n : Nat)] ∧ n ≤ 100 ∧ ∀ (H' : Hp) (p : Addr) (as : List Addr), Ex H H' → H' p = some (.tup (as.map V.ref)) → RowsIn H' as (unitsL n) → Q (.ref p) H'
end Hg

namespace Hn
/-! ### coordinates in a basis, one by one -/
def colz : Nat → Steps → List Nat
  | _, [] => []
  | k, none :: t => colz (k + 1) t
  | k, some _ :: t => k :: colz (k + 1) t
theorem colz_ok (P : Nat → List Int → Prop) : ∀ (tl : Steps) (k : Nat), (∀ (c : Nat) (l : List Int), tl[c]? = some (some l) → P (k + c) l) →
    (colz k tl).length = (tl.filterMap id).length ∧ (colz k tl).Pairwise (· < ·) ∧ (∀ c ∈ colz k tl, k ≤ c ∧ c < k + tl.length) ∧ ∀ (i c : Nat) (r : List Int), (colz k tl)[i]? = some c → (tl.filterMap id)[i]? = some r → P c r
  | [], k, h => by simp [colz]
  | none :: t, k, h => by
    obtain ⟨h1, h2, h3, h4⟩ := colz_ok P t (k + 1) fun c l hc => by
      have := h (c + 1) l (by simpa using hc)
      rw [show k + 1 + c = k + (c + 1) by omega]
      exact this
    refine ⟨by simpa [colz] using h1, by simpa [colz] using h2, fun c hc => ?_, fun i c r e1 e2 => ?_⟩
    · have := h3 c (by simpa [colz] using hc)
      simp only [List.length_cons]
      omega
    · exact h4 i c r (by simpa [colz] using e1) (by simpa using e2)
  | some l :: t, k, h => by
    obtain ⟨h1, h2, h3, h4⟩ := colz_ok P t (k + 1) fun c l hc => by
      have := h (c + 1) l (by simpa using hc)
      rw [show k + 1 + c = k + (c + 1) by omega]
      exact this
    refine ⟨by simp [colz, h1], ?_, fun c hc => ?_, fun i c r e1 e2 => ?_⟩
    · show (k :: colz (k + 1) t).Pairwise (· < ·)
      exact List.pairwise_cons.mpr ⟨fun c hc => by have := h3 c hc; omega, h2⟩
    · have hc : c ∈ k :: colz (k + 1) t := hc
      simp only [List.length_cons]
      rcases List.mem_cons.mp hc with rfl | hc
      · omega
      · have := h3 c hc
        omega
    · have e1 : (k :: colz (k + 1) t)[i]? = some c := e1
      have e2 : (l :: t.filterMap id)[i]? = some r := e2
      cases i with
      | zero =>
        cases e1
        cases e2
        exact h 0 l rfl
      | succ i => exact h4 i c r (by simpa using e1) (by simpa using e2)
theorem Hnf.ech {n : Nat} {V : Vc → Prop} {B : List (List Int)} (hB : Hnf n V B) : ∃ cs, EchR n cs B := by
  obtain ⟨tl, e, _, _, rfl⟩ := hB
  obtain ⟨h1, h2, h3, h4⟩ := colz_ok (fun c l => l.length = n ∧ (∀ j, j < c → fv l j = 0) ∧ 0 < fv l c) tl 0 fun c l hc => by
    rw [Nat.zero_add]
    exact ⟨e.row c l hc, fun j hj => e.lo c l j hc hj, e.piv c l hc⟩
  exact ⟨colz 0 tl, h1, h2, fun c hc => by have := h3 c hc; rw [e.len] at this; omega, h4⟩
theorem Sp.head {r : List Int} {T : List (List Int)} {u : Vc} (h : Sp (RL (r :: T)) u) : ∃ (k : Int) (w : Vc), Sp (RL T) w ∧ ∀ j, u j = k * fv r j + w j := by
  induction h with
  | zero => exact ⟨0, _, .zero, fun j => by simp⟩
  | @add x v k hx _ ih =>
    obtain ⟨k', w, hw, e⟩ := ih
    obtain ⟨y, hy, rfl⟩ := hx
    rcases List.mem_cons.mp hy with rfl | hy
    · exact ⟨k + k', w, hw, fun j => by have := e j; grind⟩
    · exact ⟨k', _, .add k ⟨y, hy, rfl⟩ hw, fun j => by have := e j; grind⟩
structure Crd (n : Nat) (R : List (List Int)) (v : List Int) (B i : Nat) (rest fs : List Int) : Prop where
  len : rest.length = n
  fl : fs.length = i
  dec : ∀ j, fv v j = fv rest j + sm i fun s => fs.getD s 0 * fv (R.getD s []) j
  inn : Sp (RL R) (fv v) → Sp (RL (R.drop i)) (fv rest)
  bd : bnd (B * (1 + B) ^ i) (fv rest)
theorem Crd.start {n : Nat} {R : List (List Int)} {v : List Int} {B : Nat} (hl : v.length = n) (hb : bnd B (fv v)) : Crd n R v B 0 v [] :=
  ⟨hl, rfl, fun j => by simp [sm], id, by rw [Nat.pow_zero, Nat.mul_one]; exact hb⟩
theorem Crd.q_le {n : Nat} {R : List (List Int)} {v rest fs : List Int} {B i c : Nat} {r : List Int} (h : Crd n R v B i rest fs) : (fv rest c / fv r c).natAbs ≤ B * (1 + B) ^ i := by
  have := Int.natAbs_ediv_le_natAbs (fv rest c) (fv r c)
  have := h.bd c
  omega
theorem Crd.step {n : Nat} {cs : List Nat} {R : List (List Int)} {v rest fs : List Int} {B i c : Nat} {r : List Int} (e : EchR n cs R) (h : Crd n R v B i rest fs) (hc : cs[i]? = some c) (hr : R[i]? = some r) (hb : bnd B (fv r)) :
    Crd n R v B (i + 1) (lessL rest (fv rest c / fv r c) r) (fs ++ [fv rest c / fv r c]) := by
  obtain ⟨r1, r2, r3⟩ := e.row i c r hc hr
  have hl : rest.length = r.length := by rw [h.len, r1]
  have ql := h.q_le (c := c) (r := r)
  refine ⟨by rw [len_less hl, h.len], by simp [h.fl], fun j => ?_, fun hv => ?_, fun j => ?_⟩
  · rw [fv_less hl, h.dec j]
    show _ = _ + ((sm i fun s => (fs ++ [fv rest c / fv r c]).getD s 0 * fv (R.getD s []) j) + (fs ++ [fv rest c / fv r c]).getD i 0 * fv (R.getD i []) j)
    have e1 : (fs ++ [fv rest c / fv r c]).getD i 0 = fv rest c / fv r c := by
      rw [List.getD_eq_getElem?_getD, List.getElem?_append_right (by rw [h.fl]; exact Nat.le_refl _), h.fl, Nat.sub_self]; rfl
    have e2 : R.getD i [] = r := by rw [List.getD_eq_getElem?_getD, hr]; rfl
    have e3 : (sm i fun s => (fs ++ [fv rest c / fv r c]).getD s 0 * fv (R.getD s []) j) = sm i fun s => fs.getD s 0 * fv (R.getD s []) j := sm_congr fun s hs => by
      rw [List.getD_eq_getElem?_getD, List.getElem?_append_left (by rw [h.fl]; exact hs), ← List.getD_eq_getElem?_getD]
    rw [e1, e2, e3]
    grind
  · have hd : R.drop i = r :: R.drop (i + 1) := by
      have hi := (List.getElem?_eq_some_iff.mp hr).1
      rw [List.drop_eq_getElem_cons hi]
      congr 1
      exact (List.getElem?_eq_some_iff.mp hr).2
    have := h.inn hv
    rw [hd] at this
    obtain ⟨k, w, hw, ew⟩ := this.head
    have wc : w c = 0 := hw.at0 fun u hu => by
      obtain ⟨y, hy, rfl⟩ := hu
      obtain ⟨m, hm⟩ := List.mem_iff_getElem?.mp hy
      rw [List.getElem?_drop] at hm
      obtain ⟨c', hc'⟩ : ∃ c', cs[i + 1 + m]? = some c' := ⟨_, List.getElem?_eq_getElem (by rw [e.len]; exact (List.getElem?_eq_some_iff.mp hm).1)⟩
      have lt := asc_lt e.asc (show i < i + 1 + m by omega) hc hc'
      exact (e.row _ _ _ hc' hm).2.1 c lt
    have ek : fv rest c / fv r c = k := by
      rw [ew c, wc, Int.add_zero]
      exact Int.mul_ediv_cancel _ (by omega)
    refine hw.cast fun j => ?_
    rw [fv_less hl, ek, ew j]
    omega
  · rw [fv_less hl]
    have a := h.bd j
    have b := hb j
    have m : (fv rest c / fv r c * fv r j).natAbs ≤ B * (1 + B) ^ i * B := by
      rw [Int.natAbs_mul]
      exact Nat.mul_le_mul ql b
    have t : (fv rest j - fv rest c / fv r c * fv r j).natAbs ≤ (fv rest j).natAbs + (fv rest c / fv r c * fv r j).natAbs := by omega
    have p : B * (1 + B) ^ (i + 1) = B * (1 + B) ^ i + B * (1 + B) ^ i * B := by rw [Nat.pow_succ]; grind
    omega
theorem Crd.zero {n : Nat} {R : List (List Int)} {v rest fs : List Int} {B : Nat} (h : Crd n R v B R.length rest fs) (hv : Sp (RL R) (fv v)) (j : Nat) : fv rest j = 0 := by
  have := h.inn hv
  rw [List.drop_length] at this
  exact this.at0 fun u hu => by obtain ⟨y, hy, _⟩ := hu; simp at hy
theorem Crd.mem {n : Nat} {R : List (List Int)} {v rest fs : List Int} {B : Nat} (h : Crd n R v B R.length rest fs) (hz : ∀ j, fv rest j = 0) : Sp (RL R) (fv v) := by
  have := Sp.sum (R := RL R) (T := fun s => fv (R.getD s [])) (fun s => fs.getD s 0) (m := R.length) fun s hs => .of ⟨_, by rw [List.getD_eq_getElem?_getD, List.getElem?_eq_getElem hs]; exact List.getElem_mem hs, rfl⟩
  exact this.cast fun j => by rw [h.dec j, hz j, Int.zero_add]
end Hn

set_option maxHeartbeats 4000000
namespace Hn
/-- a form's value at a vector -/
def dv (n : Nat) (f v : Vc) : Int := sm n fun j => f j * v j
theorem dv_comb {n : Nat} {f u v : Vc} {k : Int} : dv n f (fun j => k * u j + v j) = k * dv n f u + dv n f v := by
  unfold dv
  rw [← sm_mul, ← sm_add]
  exact sm_congr fun i _ => by grind
theorem dvd_span {n : Nat} {f : Vc} {d : Int} {R : Vc → Prop} (h : ∀ u, R u → d ∣ dv n f u) {v : Vc} (hv : Sp R v) : d ∣ dv n f v := by
  induction hv with
  | zero => exact ⟨0, by unfold dv; rw [sm_zero fun i _ => by simp]; simp⟩
  | @add u w k hu _ ih =>
    rw [dv_comb]
    exact Int.dvd_add (Int.dvd_mul_of_dvd_right (h u hu)) ih
/-- the greatest that divides a form's values at some rows -/
def Grn (n : Nat) (f : Vc) (R : List (List Int)) (g : Int) : Prop := 0 ≤ g ∧ ∀ d : Int, d ∣ g ↔ ∀ r ∈ R, d ∣ dv n f (fv r)
theorem Grn.span {n : Nat} {f : Vc} {R : List (List Int)} {g : Int} (h : Grn n f R g) (d : Int) : d ∣ g ↔ ∀ v, Sp (RL R) v → d ∣ dv n f v := by
  rw [h.2]
  exact ⟨fun a v hv => dvd_span (fun u hu => by obtain ⟨r, hr, rfl⟩ := hu; exact a r hr) hv, fun a r hr => a _ (.of ⟨r, hr, rfl⟩)⟩
theorem same_of_dvd {g h : Int} (hg : 0 ≤ g) (hh : 0 ≤ h) (e : ∀ d : Int, d ∣ g ↔ d ∣ h) : g = h := by
  have a := (e g).mp (Int.dvd_refl g)
  have b := (e h).mpr (Int.dvd_refl h)
  have := Nat.dvd_antisymm (Int.natAbs_dvd_natAbs.mpr a) (Int.natAbs_dvd_natAbs.mpr b)
  omega
/-- one row through a matrix -/
def imgL (Mt : List (List Int)) (m : Nat) (r : List Int) : List Int := (List.range m).map fun j => sm Mt.length fun i => fv (Mt.getD i []) j * fv r i
theorem imgL_at {Mt : List (List Int)} {m : Nat} {r : List Int} {j : Nat} (h : j < m) : fv (imgL Mt m r) j = sm Mt.length fun i => fv (Mt.getD i []) j * fv r i := by
  refine fv_at ?_
  rw [imgL, List.getElem?_map, List.getElem?_range h]
  rfl
theorem imgL_len {Mt : List (List Int)} {m : Nat} {r : List Int} : (imgL Mt m r).length = m := by simp [imgL]
theorem imgL_fv {Mt : List (List Int)} {m : Nat} {r : List Int} (hM : ∀ t ∈ Mt, t.length = m) (j : Nat) : fv (imgL Mt m r) j = sm Mt.length fun i => fv (Mt.getD i []) j * fv r i := by
  by_cases h : j < m
  · exact imgL_at h
  · rw [fv_out (by rw [imgL_len]; omega)]
    refine (sm_zero fun i hi => ?_).symm
    rw [fv_out, Int.zero_mul]
    rw [List.getD_eq_getElem?_getD, List.getElem?_eq_getElem hi]
    have := hM _ (List.getElem_mem hi)
    show Mt[i].length ≤ j
    omega
/-- a form drawn back through a matrix -/
theorem dv_img {Mt : List (List Int)} {m : Nat} {r f : List Int} {b : Vc} (hb : ∀ i, i < Mt.length → b i = dv m (fv f) (fv (Mt.getD i []))) : dv m (fv f) (fv (imgL Mt m r)) = dv Mt.length b (fv r) := by
  unfold dv
  rw [sm_congr (g := fun j => sm Mt.length fun i => fv f j * (fv (Mt.getD i []) j * fv r i)) fun j hj => by rw [imgL_at hj, sm_mul], sm_swap]
  refine sm_congr fun i hi => ?_
  rw [hb i hi]
  unfold dv
  rw [← sm_mulr]
  exact sm_congr fun j _ => by grind
theorem imgL_bnd {Mt : List (List Int)} {m : Nat} {r : List Int} {A B : Nat} (hA : ∀ t ∈ Mt, bnd A (fv t)) (hB : bnd B (fv r)) : bnd (Mt.length * (A * B)) (fv (imgL Mt m r)) := fun j => by
  by_cases h : j < m
  · rw [imgL_at h]
    refine sm_abs fun i hi => ?_
    rw [Int.natAbs_mul]
    refine Nat.mul_le_mul ?_ (hB i)
    rw [List.getD_eq_getElem?_getD, List.getElem?_eq_getElem hi]
    exact hA _ (List.getElem_mem hi) j
  · rw [fv_out (by rw [imgL_len]; omega)]
    simp
/-- some columns of a row -/
def prjL (cs : List Nat) (r : List Int) : List Int := cs.map fun c => fv r c
theorem prjL_at {cs : List Nat} {r : List Int} {i c : Nat} (h : cs[i]? = some c) : fv (prjL cs r) i = fv r c := fv_at (by rw [prjL, List.getElem?_map, h]; rfl)
theorem prjL_bnd {cs : List Nat} {r : List Int} {B : Nat} (h : bnd B (fv r)) : bnd B (fv (prjL cs r)) := fun j => by
  by_cases hj : j < cs.length
  · rw [prjL_at (List.getElem?_eq_getElem hj)]
    exact h _
  · rw [fv_out (by simp [prjL]; omega)]
    simp
end Hn
namespace Hg
open PySem PySem.Spec PyProof.Rows L2
/-! ### coordinates, values, grains: what the program's functions promise -/
def sp_pivot_columnN (K : PySem.W.Frag) : Sp := fun vs H Q _ => ∃ (k : Bool) (a : Addr) (r : List Int) (c : Nat), vs = [.ref a] ∧ SqK K k H a (iV r) ∧ r.length ≤ 1000 ∧ c < r.length ∧ (∀ j, j < c → Hn.fv r j = 0) ∧ Hn.fv r c ≠ 0 ∧ Q (.int (c : Nat)) H
def sp_coordinates (K : PySem.W.Frag) : Sp := fun vs H Q _ => ∃ (k l : Bool) (a b : Addr) (n B : Nat) (cs : List Nat) (xs : List V) (R : List (List Int)) (v : List Int), vs = [.ref a, .ref b] ∧ SqK K k H a xs ∧ RowsK K H xs R ∧ SqK K l H b (iV v) ∧
  Hn.EchR n cs R ∧ v.length = n ∧ n ≤ 100 ∧ R.length ≤ 100 ∧ (∀ r ∈ R, Hn.bnd B (Hn.fv r)) ∧ Hn.bnd B (Hn.fv v) ∧ sm8 (B * (1 + B) ^ R.length) ∧
  (¬ Hn.Sp (Hn.RL R) (Hn.fv v) → ∀ H', Ex H H' → Q .non H') ∧
  (Hn.Sp (Hn.RL R) (Hn.fv v) → ∀ (H' : Hp) (p : Addr) (fs : List Int), Ex H H' → H' p = some (.tup (iV fs)) → fs.length = R.length → (∀ j, Hn.fv v j = Hn.sm R.length fun s => fs.getD s 0 * Hn.fv (R.getD s []) j) → Q (.ref p) H')
def sp_contains (K : PySem.W.Frag) : Sp := fun vs H Q _ => ∃ (k l : Bool) (a b : Addr) (n B : Nat) (cs : List Nat) (xs : List V) (R : List (List Int)) (v : List Int), vs = [.ref a, .ref b] ∧ SqK K k H a xs ∧ RowsK K H xs R ∧ SqK K l H b (iV v) ∧
  Hn.EchR n cs R ∧ v.length = n ∧ n ≤ 100 ∧ R.length ≤ 100 ∧ (∀ r ∈ R, Hn.bnd B (Hn.fv r)) ∧ Hn.bnd B (Hn.fv v) ∧ sm8 (B * (1 + B) ^ R.length) ∧
  ∀ (c : Bool) (H' : Hp), Ex H H' → (c = true ↔ Hn.Sp (Hn.RL R) (Hn.fv v)) → Q (.bl c) H'
def sp_dotB (K : PySem.W.Frag) : Sp := fun vs H Q _ => ∃ (k l : Bool) (a b : Addr) (n : Nat) (xs ys : List Int), vs = [.ref a, .ref b] ∧ SqK K k H a (iV xs) ∧ SqK K l H b (iV ys) ∧ xs.length = n ∧ ys.length = n ∧ n ≤ 1000 ∧
  (∀ x ∈ xs, bg x) ∧ (∀ y ∈ ys, bg y) ∧ ∀ H', Ex H H' → Q (.int (Hn.dv n (Hn.fv xs) (Hn.fv ys))) H'
def sp_grain_of (K : PySem.W.Frag) : Sp := fun vs H Q _ => ∃ (k l : Bool) (a b : Addr) (n B : Nat) (xs : List V) (R : List (List Int)) (f : List Int), vs = [.ref a, .ref b] ∧ SqK K k H a xs ∧ RowsK K H xs R ∧ SqK K l H b (iV f) ∧ f.length = n ∧ n ≤ 1000 ∧ R.length ≤ 1000 ∧
  (∀ r ∈ R, r.length = n ∧ Hn.bnd B (Hn.fv r)) ∧ Hn.bnd B (Hn.fv f) ∧ sm8 B ∧ ∀ (H' : Hp) (g : Int), Ex H H' → Hn.Grn n (Hn.fv f) R g → Q (.int g) H'
def sp_image_of (K : PySem.W.Frag) : Sp := fun vs H Q _ => ∃ (k l : Bool) (a b : Addr) (m A B M : Nat) (xs ys : List V) (R Mt : List (List Int)), vs = [.ref a, .ref b, .int (m : Nat)] ∧ SqK K k H a xs ∧ RowsK K H xs R ∧ SqK K l H b ys ∧ RowsK K H ys Mt ∧ m ≤ 100 ∧ R.length ≤ 100 ∧ Mt.length ≤ 100 ∧
  (∀ t ∈ Mt, t.length = m ∧ Hn.bnd A (Hn.fv t)) ∧ (∀ r ∈ R, r.length = Mt.length ∧ Hn.bnd B (Hn.fv r)) ∧ sm8 A ∧ sm8 B ∧ Mt.length * (A * B) ≤ M ∧ 1 ≤ M ∧ rm m M ∧
  ∀ (H' : Hp) (p : Addr) (as : List Addr) (C : List (List Int)), Ex H H' → H' p = some (.tup (as.map V.ref)) → RowsIn H' as C → Hn.Hnf m (Hn.Sp (Hn.RL (R.map (Hn.imgL Mt m)))) C → (∀ r ∈ C, r.length = m ∧ Hn.bnd (Hn.hB m M) (Hn.fv r)) → Q (.ref p) H'
def sp_project (K : PySem.W.Frag) : Sp := fun vs H Q _ => ∃ (k l : Bool) (a b : Addr) (n M : Nat) (xs : List V) (R : List (List Int)) (cs : List Nat), vs = [.ref a, .ref b] ∧ SqK K k H a xs ∧ RowsK K H xs R ∧ SqK K l H b (cs.map fun c => V.int (c : Nat)) ∧ (∀ c ∈ cs, c < n) ∧ cs.length ≤ 100 ∧ R.length ≤ 1000 ∧
  (∀ r ∈ R, r.length = n ∧ Hn.bnd M (Hn.fv r)) ∧ n ≤ 1000 ∧ 1 ≤ M ∧ rm cs.length M ∧
  ∀ (H' : Hp) (p : Addr) (as : List Addr) (C : List (List Int)), Ex H H' → H' p = some (.tup (as.map V.ref)) → RowsIn H' as C → Hn.Hnf cs.length (Hn.Sp (Hn.RL (R.map (Hn.prjL cs)))) C → (∀ r ∈ C, r.length = cs.length ∧ Hn.bnd (Hn.hB cs.length M) (Hn.fv r)) → Q (.ref p) H'
theorem dvd_gfold {d : Int} (ns : List Int) : d ∣ gfold ns ↔ ∀ x ∈ ns, d ∣ x := by
  have key : ∀ (ns : List Int) (c : Int), d ∣ ns.foldl (fun a b => ((Int.gcd a b : Nat) : Int)) c ↔ d ∣ c ∧ ∀ x ∈ ns, d ∣ x := by
    intro ns
    induction ns with
    | nil => intro c; simp
    | cons x t ih =>
      intro c
      rw [List.foldl_cons, ih]
      have : d ∣ ((Int.gcd c x : Nat) : Int) ↔ d ∣ c ∧ d ∣ x := Int.dvd_coe_gcd_iff
      rw [this]
      simp only [List.mem_cons, forall_eq_or_imp, and_assoc]
  show d ∣ ns.foldl (fun a b => ((Int.gcd a b : Nat) : Int)) 0 ↔ _
  rw [key]
  simp
theorem gfold_nonneg (ns : List Int) : 0 ≤ gfold ns := by
  have key : ∀ (ns : List Int) (c : Int), 0 ≤ c → 0 ≤ ns.foldl (fun a b => ((Int.gcd a b : Nat) : Int)) c := by
    intro ns
    induction ns with
    | nil => intro c h; exact h
    | cons x t ih => intro c h; exact ih _ (Int.natCast_nonneg _)
  exact key ns 0 (Int.le_refl 0)
theorem dotI_dv {n : Nat} {xs ys : List Int} (hx : xs.length = n) (hy : ys.length = n) : dotI xs ys = Hn.dv n (Hn.fv xs) (Hn.fv ys) := by
  induction n generalizing xs ys with
  | zero =>
    have : xs = [] := List.length_eq_zero_iff.mp hx
    subst this
    simp [dotI, Hn.dv, Hn.sm]
  | succ n ih =>
    obtain ⟨x, xs', rfl⟩ : ∃ x t, xs = t ++ [x] := ⟨xs.getLast (by intro e; simp [e] at hx), xs.dropLast, (List.dropLast_concat_getLast _).symm⟩
    obtain ⟨y, ys', rfl⟩ : ∃ x t, ys = t ++ [x] := ⟨ys.getLast (by intro e; simp [e] at hy), ys.dropLast, (List.dropLast_concat_getLast _).symm⟩
    have hx' : xs'.length = n := by simpa using hx
    have hy' : ys'.length = n := by simpa using hy
    have e1 := ih hx' hy'
    have z1 : ∀ {ws : List Int} {w : Int} {j : Nat}, ws.length = n → j < n → Hn.fv (ws ++ [w]) j = Hn.fv ws j := fun h hj => Hn.fv_at (by rw [List.getElem?_append_left (by omega)]; exact Hn.fv_get (by omega))
    have z2 : ∀ {ws : List Int} {w : Int}, ws.length = n → Hn.fv (ws ++ [w]) n = w := fun h => Hn.fv_at (by rw [List.getElem?_append_right (by omega), h, Nat.sub_self]; rfl)
    have e2 : Hn.dv (n + 1) (Hn.fv (xs' ++ [x])) (Hn.fv (ys' ++ [y])) = Hn.dv n (Hn.fv xs') (Hn.fv ys') + x * y := by
      show (Hn.sm n fun j => Hn.fv (xs' ++ [x]) j * Hn.fv (ys' ++ [y]) j) + Hn.fv (xs' ++ [x]) n * Hn.fv (ys' ++ [y]) n = _
      rw [z2 hx', z2 hy', Hn.sm_congr (g := fun j => Hn.fv xs' j * Hn.fv ys' j) fun j hj => by rw [z1 hx' hj, z1 hy' hj]]
      rfl
    rw [e2, ← e1]
    unfold dotI
    rw [List.zipWith_append (by omega)]
    simp
end Hg

set_option maxHeartbeats 4000000
namespace Hg
open PySem PySem.Spec PyProof.Rows L2
/-! ### any of a list of numbers -/
section
variable {X : Cx}
def rAnyI (K : PySem.W.Frag) : List V → Hp → VK → Prop := fun vs H Q => ∃ (a : Addr) (ns : List Int), vs = [.ref a] ∧ SqL K H a (ns.map V.int) ∧ Q (.bl (ns.any fun i => i != 0)) H
theorem dpI {K : PySem.W.Frag} {H : Hp} : ∀ ns : List Int, DpAll K H (ns.map V.int) (ns.map PyData.int)
  | [] => .nil
  | n :: ns => .cons (.int n) (dpI ns)
theorem plI : ∀ ns : List Int, PyData.plainAll (ns.map PyData.int) = true
  | [] => rfl
  | n :: ns => by rw [List.map_cons, PyData.plainAll, plI ns]; rfl
theorem cr_anyI (hc : X.calm = true) : CallR X (.builtin "any") (rAnyI X.K) := by
  intro pins s σ H vs us Q I r h
  obtain ⟨a, ns, rfl, hs, q⟩ := h
  obtain ⟨its, rv, hl, _⟩ := I.list hs
  rw [Vals.ref1 r]
  obtain ⟨as, ra⟩ := Dp.readsAll I (ns.map PyData.int) _ its (dpI ns) rv
  have pl := plI ns
  refine PySem.W.any_list_data (I.ok.hd hc) hl.isList (xs := ns.map PyData.int) (as := as) (by simpa using ra) pl (fun x hx => by obtain ⟨i, _, rfl⟩ := List.mem_map.mp hx; trivial) fun h' tk hk => ⟨.bl _, H, I.kept hk, ?_, q⟩
  show Value.bool _ = Value.bool _
  congr 1
  rw [List.any_map]
  rfl
theorem kAnyI {K : PySem.W.Frag} (hc : X.calm = true) (hK : X.K = K := by rfl) : CallR X (.builtin "any") (rAnyI K) := hK ▸ cr_anyI hc
end
/-! ### t.index(i) -/
section
variable {X : Cx}
def rTIdx (K : PySem.W.Frag) : V → List V → Hp → VK → Prop := fun x xs H Q => ∃ (p : Addr) (ns : List Int) (z : Int), x = .ref p ∧ xs = [.int z] ∧ SqT K H p (ns.map V.int) ∧ z ∈ ns ∧ Q (.int (ns.idxOf z : Nat)) H
theorem mt_tidx : MtR X "tuple.index" (rTIdx X.K) := by
  intro pins s σ H x xs v us Q I rx rs h
  obtain ⟨p, ns, z, rfl, rfl, hq, hz, q⟩ := h
  cases rx
  obtain ⟨u, rfl, t, rfl⟩ := vals1 rs
  obtain ⟨its, r, pl, hl⟩ := I.tuple hq
  exact PySem.SeqAt.tuple_index_ints pl r.ints hz ⟨.int _, H, I.tok _, ⟨_, rfl⟩, q⟩
theorem kTidx {K : PySem.W.Frag} (hK : X.K = K := by rfl) : MtR X "tuple.index" (rTIdx K) := hK ▸ mt_tidx
def rTupF (K : PySem.W.Frag) : List V → Hp → VK → Prop := fun xs H Q => ∃ p ys, xs = [.ref p] ∧ SqL K H p ys ∧ ∀ l ob, H l = none → ob.cls = .type "tuple" → ob.dict = none → Q (.ref l) (upd H l (.frz ob (.tup ys)))
theorem cr_tupF : CallR X (.type "tuple") (rTupF X.K) := by
  intro pins s σ H xs us Q I r h
  obtain ⟨p, ys, rfl, hq, q⟩ := h
  obtain ⟨u, rfl, rx⟩ := vals1 r
  cases rx
  obtain ⟨its, r', pl, hz⟩ := I.list hq
  have hlen := r'.length
  refine call_tuple_list pl.isList (fun h' kp => ?_) (by simp only [List.size_toArray] <;> omega)
  have I1 : Inv X pins σ H { s with heap := h' } := I.kept (t' := s.toks) kp
  have I2 : Inv X pins σ (upd H h'.objs.size (.frz { cls := .type "tuple", data := .seq its.toArray } (.tup ys))) { s with heap := h'.push { cls := .type "tuple", data := .seq its.toArray } } :=
    I1.laid (t' := s.toks) (fun b o e => Heap.get?_push_of_some _ e) (Nat.le_refl _) (show ObjOk X.prog X.w _ _ _ (.frz _ (.tup ys)) from ⟨Heap.get?_push_size _ rfl, hz, its, r', IsTup.new _ _⟩)
  exact ⟨.ref h'.objs.size, _, I2, rfl, q _ _ (I1.hok.fresh (Nat.le_refl _)) rfl rfl⟩
theorem kTupF {K : PySem.W.Frag} (hK : X.K = K := by rfl) : CallR X (.type "tuple") (rTupF K) := hK ▸ cr_tupF
def tTupF (t : TA) : TE := fun σ H Q => t σ H fun xs H1 => xs.length ≤ sizeLine ∧ ∀ l ob, H1 l = none → ob.cls = .type "tuple" → ob.dict = none → Q (.ref l) (upd H1 l (.frz ob (.tup xs)))
theorem pe_tupF {es : List Expr} {x1 : Nat} {pos : Pos} {t : TA} (h : PA X es t) : PE X (.Tuple es x1 pos) (tTupF t) := by
  refine ⟨fun pins s σ H Q I hq => ?_⟩
  refine wpAny_Tuple_spliced (thn (h.run pos pins s σ H _ I hq) fun us s1 ⟨xs, H1, I1, r, z, q⟩ => ⟨by rw [← r.length]; exact z, ?_⟩)
  have hf : H1 s1.heap.objs.size = none := I1.hok.fresh (Nat.le_refl _)
  refine ⟨.ref s1.heap.objs.size, upd H1 s1.heap.objs.size (.frz { cls := .type "tuple", data := .seq us.toArray } (.tup xs)), I1.laid (t' := s1.toks) (fun b u e => Heap.get?_push_of_some _ e) (Nat.le_refl _) ?_, rfl, q _ _ hf rfl rfl⟩
  exact ⟨Heap.get?_push_size _ rfl, z, us, r, ⟨_, Heap.get?_push_size _ rfl, rfl, _, rfl⟩⟩
/-- the tuple's own object is known -/
def Ktup (x : V) (H : Hp) : Prop := ∃ p ob u, x = .ref p ∧ H p = some (.frz ob u) ∧ ob.cls = .type "tuple" ∧ ob.dict = none
def tBMF (K : PySem.W.Frag) (to : TE) (t : TA) : TE := fun σ H Q => to σ H fun x H1 => Ktup x H1 ∧ t σ H1 fun xs H2 => rTIdx K x xs H2 Q
theorem kBmTi {K : PySem.W.Frag} {o e : Expr} {to : TE} {t : TA} {apos cpos : Pos} (ho : PE X o to) (ha : PA X [e] t) (hK : X.K = K := by rfl)
    (hbase : attributeBase o "index" X.env (eval o X.env) = eval o X.env := by rfl)
    (hfew : ((backTo cpos (starEach [e] X.env)).all (fun x => !x.1) && (backToKw cpos (keywordEach [] X.env)).all (fun x => x.1.isSome)
      && decide ([e].length + ([] : List Keyword).length + (if ([] : List Keyword).isEmpty then 0 else 1) < 30)) = true := by rfl)
    (hline : (apos.endLine == cpos.line) = true := by rfl) (hs : starEach [e] X.env = (false, eval e X.env) :: starEach [] X.env := by rfl) (hplain : (backTo cpos (starEach [] X.env)).any (·.1) = false := by rfl) :
    PE X (.Call (.Attribute o "index" apos) [e] [] cpos) (tBMF K to t) := by
  subst hK
  refine ⟨fun pins s σ H Q I h => ?_⟩
  refine wpAny_Call_method_late hbase hfew hline rfl (thn (ho.run pins s σ H _ I h) fun v s1 ⟨x, H1, I1, r1, ty, q1⟩ => ?_)
  obtain ⟨p, ob, u, rfl, hk, hc, hd⟩ := ty
  cases r1
  obtain ⟨eo, _⟩ := I1.hok p _ hk
  refine ⟨"tuple", "tuple.index", PySem.F.plainAttrs_tuple, PySem.F.slot_tuple_index, PySem.F.type_tuple_index, ⟨ob, eo, hc⟩, fun a e => by cases e; exact ⟨ob, eo, hd⟩, ?_⟩
  have hA := ha.run cpos pins s1 σ H1 _ I1 q1
  rw [hs] at hA ⊢
  refine Calls.callWith_builtin (by show (false || (backTo cpos (starEach [] X.env)).any (·.1)) = false; rw [hplain] <;> rfl) (Calls.evalArgs_plain ?_)
  exact thn hA fun us s2 ⟨vs, H2, I2, r2, q2⟩ => mt_tidx pins s2 σ H2 (.ref p) vs (.ref p) us Q I2 rfl r2 q2
theorem kOrT {K : PySem.W.Frag} {a b : Expr} {ta tb : TE} {rest : List Expr} {pos : Pos} (ha : PE X a ta) (hb : PE X (.BoolOp .Or (b :: rest) pos) tb) (hK : X.K = K := by rfl) : PE X (.BoolOp .Or (a :: b :: rest) pos) (tOrT K ta tb) := hK ▸ pe_orT ha hb
end
abbrev nV (cl : List Nat) : List V := cl.map fun c => V.int (c : Nat)
theorem inV_nat {j : Nat} : ∀ cl : List Nat, inV (.int (j : Nat)) (nV cl) = decide (j ∈ cl)
  | [] => by simp [inV]
  | c :: cl => by
    have := inV_nat (j := j) cl
    unfold inV at this ⊢
    rw [nV, List.map_cons, List.any_cons, this]
    have e : eqV (.int (c : Nat)) (.int (j : Nat)) = decide (j = c) := by
      show ((c : Int) == (j : Int)) = decide (j = c)
      by_cases h : j = c
      · subst h; simp
      · rw [decide_eq_false h]
        have : ¬ ((c : Int) = (j : Int)) := by omega
        simp [this]
    rw [e]
    simp [List.mem_cons, Bool.decide_or]
theorem flat_nat (cl : List Nat) : (nV cl).all flatV = true := by
  rw [List.all_map]
  exact List.all_eq_true.mpr fun _ _ => rfl
theorem rIn_nat {K : PySem.W.Frag} {H : Hp} {p : Addr} {cl : List Nat} {j : Nat} {Q : VK} (h : SqT K H p (nV cl)) (q : Q (.bl (decide (j ∈ cl))) H) : rIn K false (.int (j : Nat)) (.ref p) H Q :=
  ⟨p, _, rfl, .inr h, rfl, flat_nat cl, by
    show Q (.bl (inV (.int (j : Nat)) (nV cl))) H
    rw [inV_nat]; exact q⟩
theorem idx_nat {j : Nat} : ∀ cl : List Nat, (cl.map fun c : Nat => ((c : Nat) : Int)).idxOf ((j : Nat) : Int) = cl.idxOf j
  | [] => rfl
  | c :: cl => by
    rw [List.map_cons, List.idxOf_cons, List.idxOf_cons, idx_nat cl]
    have e : (((c : Nat) : Int) == ((j : Nat) : Int)) = (c == j) := by
      by_cases h : c = j
      · subst h; rw [beq_self_eq_true, beq_self_eq_true]
      · have : ¬ ((c : Int) = (j : Int)) := by omega
        rw [beq_eq_false_iff_ne.mpr h, beq_eq_false_iff_ne.mpr this]
    rw [e]
theorem tidx_nat {K : PySem.W.Frag} {H : Hp} {p : Addr} {cl : List Nat} {j : Nat} {Q : VK} (h : SqT K H p (nV cl)) (m : j ∈ cl) (q : Q (.int (cl.idxOf j : Nat)) H) : rTIdx K (.ref p) [.int (j : Nat)] H Q :=
  ⟨p, cl.map fun c : Nat => ((c : Nat) : Int), ((j : Nat) : Int), rfl, rfl, by rw [List.map_map]; exact h, List.mem_map.mpr ⟨j, m, rfl⟩, by rw [idx_nat]; exact q⟩
/-! ### rows that comprehensions make -/
theorem RowsK.nil {K : PySem.W.Frag} {H : Hp} : RowsK K H [] [] := ⟨rfl, fun i x r h _ => by simp at h⟩
theorem RowsK.snoc {K : PySem.W.Frag} {H : Hp} {xs : List V} {R : List (List Int)} {k : Bool} {a : Addr} {r : List Int} (h : RowsK K H xs R) (ha : SqK K k H a (iV r)) : RowsK K H (xs ++ [.ref a]) (R ++ [r]) := by
  refine ⟨by simp [h.1], fun i x q h1 h2 => ?_⟩
  by_cases hi : i < xs.length
  · rw [List.getElem?_append_left hi] at h1
    rw [List.getElem?_append_left (by rw [← h.1]; exact hi)] at h2
    exact h.2 i x q h1 h2
  · rw [List.getElem?_append_right (by omega)] at h1
    rw [List.getElem?_append_right (by rw [← h.1]; omega), ← h.1] at h2
    have : i - xs.length = 0 := by have := (List.getElem?_eq_some_iff.mp h1).1; simp at this; omega
    rw [this] at h1 h2
    cases h1
    cases h2
    exact ⟨k, a, rfl, ha⟩
/-- rows that are lists beside the list that holds them -/
def RowsL (D : Addr) (H : Hp) (xs : List V) (R : List (List Int)) : Prop := xs.length = R.length ∧ ∀ (i : Nat) (x : V) (r : List Int), xs[i]? = some x → R[i]? = some r → ∃ b, x = .ref b ∧ b ≠ D ∧ H b = some (.lst (iV r))
theorem RowsL.nil {D : Addr} {H : Hp} : RowsL D H [] [] := ⟨rfl, fun i x r h _ => by simp at h⟩
theorem RowsL.exB {D : Addr} {H H' : Hp} {xs : List V} {R : List (List Int)} (e : ExB D H H') (h : RowsL D H xs R) : RowsL D H' xs R := ⟨h.1, fun i x r h1 h2 => by obtain ⟨b, q1, q2, q3⟩ := h.2 i x r h1 h2; exact ⟨b, q1, q2, e _ _ q2 q3⟩⟩
theorem RowsL.snoc {D : Addr} {H : Hp} {xs : List V} {R : List (List Int)} {a : Addr} {r : List Int} (h : RowsL D H xs R) (n : a ≠ D) (ha : H a = some (.lst (iV r))) : RowsL D H (xs ++ [.ref a]) (R ++ [r]) := by
  refine ⟨by simp [h.1], fun i x q h1 h2 => ?_⟩
  by_cases hi : i < xs.length
  · rw [List.getElem?_append_left hi] at h1
    rw [List.getElem?_append_left (by rw [← h.1]; exact hi)] at h2
    exact h.2 i x q h1 h2
  · rw [List.getElem?_append_right (by omega)] at h1
    rw [List.getElem?_append_right (by rw [← h.1]; omega), ← h.1] at h2
    have : i - xs.length = 0 := by have := (List.getElem?_eq_some_iff.mp h1).1; simp at this; omega
    rw [this] at h1 h2
    cases h1
    cases h2
    exact ⟨a, rfl, n, ha⟩
theorem RowsL.k {K : PySem.W.Frag} {D : Addr} {H : Hp} {xs : List V} {R : List (List Int)} (h : RowsL D H xs R) : RowsK K H xs R := ⟨h.1, fun i x r h1 h2 => by obtain ⟨b, q1, _, q3⟩ := h.2 i x r h1 h2; exact ⟨false, b, q1, SqK.lst q3⟩⟩
theorem range_rows {α : Type} (g : List Int → α) (R : List (List Int)) : (List.range R.length).map (fun i => g (R.getD i [])) = R.map g := by
  apply List.ext_getElem
  · simp
  · intro i h1 h2
    have : i < R.length := by simpa using h2
    simp [this]
def colL (Mt : List (List Int)) (j : Nat) : List Int := Mt.map fun t => Hn.fv t j
theorem colL_at {Mt : List (List Int)} {j i : Nat} : Hn.fv (colL Mt j) i = Hn.fv (Mt.getD i []) j := by
  by_cases h : i < Mt.length
  · rw [Hn.fv_at (x := Hn.fv Mt[i] j) (by rw [colL, List.getElem?_map, List.getElem?_eq_getElem h]; rfl), List.getD_eq_getElem?_getD, List.getElem?_eq_getElem h]
    rfl
  · rw [Hn.fv_out (by simp [colL]; omega), List.getD_eq_getElem?_getD, List.getElem?_eq_none (by omega)]
    exact (Hn.fv_out (Nat.zero_le _)).symm
theorem take_snoc {α : Type} {R : List α} {i : Nat} {r : α} (h : R[i]? = some r) : R.take (i + 1) = R.take i ++ [r] := by
  rw [List.take_succ, h]; rfl
end Hg
namespace Hn
theorem dv_prj {n : Nat} {cs : List Nat} (nd : cs.Nodup) (hc : ∀ c ∈ cs, c < n) {f w : Vc} {r : List Int} (hw : ∀ j, j < n → w j = if j ∈ cs then f (cs.idxOf j) else 0) : dv cs.length f (fv (prjL cs r)) = dv n w (fv r) := by
  unfold dv
  have e1 : ∀ t, t < cs.length → f t * fv (prjL cs r) t = sm n fun j => if j = cs.getD t 0 then f t * fv r j else 0 := fun t ht => by
    have hg : cs.getD t 0 = cs[t] := by rw [List.getD_eq_getElem?_getD, List.getElem?_eq_getElem ht]; rfl
    rw [prjL_at (List.getElem?_eq_getElem ht), hg, sm_one (j := cs[t]) (hc _ (List.getElem_mem ht)) fun i _ hi => by rw [if_neg hi], if_pos rfl]
  rw [sm_congr e1, sm_swap]
  refine sm_congr fun j hj => ?_
  rw [hw j hj]
  by_cases h : j ∈ cs
  · rw [if_pos h]
    have hi := List.idxOf_lt_length_of_mem h
    have hg : cs.getD (cs.idxOf j) 0 = j := by rw [List.getD_eq_getElem?_getD, List.getElem?_eq_getElem hi]; exact List.getElem_idxOf hi
    rw [sm_one (j := cs.idxOf j) hi fun i hi2 ne => ?_, hg, if_pos rfl]
    rw [if_neg]
    intro e
    have hg2 : cs.getD i 0 = cs[i] := by rw [List.getD_eq_getElem?_getD, List.getElem?_eq_getElem hi2]; rfl
    rw [hg2] at e
    have hj0 : cs[cs.idxOf j] = j := List.getElem_idxOf hi
    have pw := List.pairwise_iff_getElem.mp nd
    rcases Nat.lt_trichotomy i (cs.idxOf j) with h1 | h1 | h1
    · exact pw i _ hi2 hi h1 (by rw [hj0]; exact e.symm)
    · exact ne h1
    · exact pw _ i hi hi2 h1 (by rw [hj0]; exact e)
  · rw [if_neg h, Int.zero_mul]
    refine sm_zero fun i hi => ?_
    have hg2 : cs.getD i 0 = cs[i] := by rw [List.getD_eq_getElem?_getD, List.getElem?_eq_getElem hi]; rfl
    rw [hg2, if_neg]
    intro e
    rw [e] at h
    exact h (List.getElem_mem hi)
/-- grains of one lattice that two lists of rows make -/
theorem Grn.same {n m : Nat} {f g : Vc} {R S : List (List Int)} {a b : Int} (ha : Grn n f R a) (hb : Grn m g S b) (h : ∀ d : Int, (∀ r ∈ R, d ∣ dv n f (fv r)) ↔ ∀ r ∈ S, d ∣ dv m g (fv r)) : a = b :=
  same_of_dvd ha.1 hb.1 fun d => by rw [ha.2, hb.2]; exact h d
theorem dvd_rows {n : Nat} {f : Vc} {R S : List (List Int)} {d : Int} (h : ∀ v, Sp (RL R) v ↔ Sp (RL S) v) : (∀ r ∈ R, d ∣ dv n f (fv r)) ↔ ∀ r ∈ S, d ∣ dv n f (fv r) :=
  ⟨fun a r hr => dvd_span (fun u hu => by obtain ⟨q, hq, rfl⟩ := hu; exact a q hq) ((h _).mpr (.of ⟨r, hr, rfl⟩)), fun a r hr => dvd_span (fun u hu => by obtain ⟨q, hq, rfl⟩ := hu; exact a q hq) ((h _).mp (.of ⟨r, hr, rfl⟩))⟩
end Hn

set_option maxHeartbeats 4000000
namespace Hg
open PySem PySem.Spec PyProof.Rows L2
/-! ### lattices within lattices, sums, preimages: promises -/
noncomputable def inB (R : List (List Int)) (r : List Int) : Bool := @decide (Hn.Sp (Hn.RL R) (Hn.fv r)) (Classical.propDecidable _)
theorem inB_iff {R : List (List Int)} {r : List Int} : inB R r = true ↔ Hn.Sp (Hn.RL R) (Hn.fv r) := by unfold inB; simp
theorem inB_eq {R : List (List Int)} {r : List Int} {c : Bool} (h : c = true ↔ Hn.Sp (Hn.RL R) (Hn.fv r)) : c = inB R r := by
  rw [Bool.eq_iff_iff, h, inB_iff]
def sp_includes (K : PySem.W.Frag) : Sp := fun vs H Q _ => ∃ (k l : Bool) (a b : Addr) (n B : Nat) (cs : List Nat) (xs ys : List V) (R S : List (List Int)), vs = [.ref a, .ref b] ∧ SqK K k H a xs ∧ RowsK K H xs R ∧ SqK K l H b ys ∧ RowsK K H ys S ∧
  Hn.EchR n cs R ∧ n ≤ 100 ∧ R.length ≤ 100 ∧ S.length ≤ 1000 ∧ (∀ r ∈ R, Hn.bnd B (Hn.fv r)) ∧ (∀ r ∈ S, r.length = n ∧ Hn.bnd B (Hn.fv r)) ∧ sm8 (B * (1 + B) ^ R.length) ∧
  ∀ (c : Bool) (H' : Hp), Ex H H' → (c = true ↔ ∀ r ∈ S, Hn.Sp (Hn.RL R) (Hn.fv r)) → Q (.bl c) H'
def sp_join_of (K : PySem.W.Frag) : Sp := fun vs H Q _ => ∃ (k l : Bool) (a b : Addr) (n M : Nat) (xs ys : List V) (R S : List (List Int)), vs = [.ref a, .ref b, .int (n : Nat)] ∧ SqK K k H a xs ∧ RowsK K H xs R ∧ SqK K l H b ys ∧ RowsK K H ys S ∧ n ≤ 100 ∧ R.length ≤ 400 ∧ S.length ≤ 400 ∧
  (∀ r ∈ R ++ S, r.length = n ∧ Hn.bnd M (Hn.fv r)) ∧ 1 ≤ M ∧ rm n M ∧
  ∀ (H' : Hp) (p : Addr) (as : List Addr) (C : List (List Int)), Ex H H' → H' p = some (.tup (as.map V.ref)) → RowsIn H' as C → Hn.Hnf n (Hn.Sp (Hn.RL (R ++ S))) C → (∀ r ∈ C, r.length = n ∧ Hn.bnd (Hn.hB n M) (Hn.fv r)) → Q (.ref p) H'
def sp_l_mapped (K : PySem.W.Frag) : Sp := fun vs H Q _ => ∃ (k l : Bool) (a b : Addr) (m A B : Nat) (v : List Int) (ys : List V) (Mt : List (List Int)), vs = [.ref a, .ref b, .int (m : Nat)] ∧ SqK K k H a (iV v) ∧ SqK K l H b ys ∧ (∀ (i : Nat) (x : V) (r : List Int), ys[i]? = some x → Mt[i]? = some r → ∃ ra, x = .ref ra ∧ H ra = some (.tup (iV r))) ∧ ys.length = Mt.length ∧ v.length = Mt.length ∧ 1 ≤ m ∧ m ≤ 100 ∧ Mt.length ≤ 100 ∧
  (∀ t ∈ Mt, t.length = m ∧ Hn.bnd A (Hn.fv t)) ∧ Hn.bnd B (Hn.fv v) ∧ sm8 A ∧ sm8 B ∧
  ∀ (H' : Hp) (p : Addr), Ex H H' → H' p = some (.tup (iV (Hn.imgL Mt m v))) → Q (.ref p) H'
def sp_l_coordinates (_ : PySem.W.Frag) : Sp := fun vs H Q _ => ∃ (a b : Addr) (n B : Nat) (cs : List Nat) (as : List Addr) (R : List (List Int)) (v : List Int), vs = [.ref a, .ref b] ∧ H a = some (.tup (as.map V.ref)) ∧ RowsIn H as R ∧ H b = some (.tup (iV v)) ∧
  Hn.EchR n cs R ∧ v.length = n ∧ n ≤ 100 ∧ R.length ≤ 100 ∧ (∀ r ∈ R, Hn.bnd B (Hn.fv r)) ∧ Hn.bnd B (Hn.fv v) ∧ sm8 (B * (1 + B) ^ R.length) ∧
  (¬ Hn.Sp (Hn.RL R) (Hn.fv v) → ∀ H', Ex H H' → Q .non H') ∧
  (Hn.Sp (Hn.RL R) (Hn.fv v) → ∀ (H' : Hp) (p : Addr) (fs : List Int), Ex H H' → H' p = some (.tup (iV fs)) → fs.length = R.length → (∀ j, Hn.fv v j = Hn.sm R.length fun s => fs.getD s 0 * Hn.fv (R.getD s []) j) → Q (.ref p) H')
theorem plus_less {q : Int} {xs ys : List Int} (h : xs.length = ys.length) : Hn.plusL (0 - q) xs ys = Hn.lessL ys q xs :=
  Hn.fv_ext (by rw [Hn.len_plus h, Hn.len_less h.symm]) fun j => by rw [Hn.fv_plus h, Hn.fv_less h.symm]; grind
theorem range_ints {α : Type} (g : Int → α) (r : List Int) : (List.range r.length).map (fun i => g (r.getD i 0)) = r.map g := by
  apply List.ext_getElem
  · simp
  · intro i h1 h2
    have : i < r.length := by simpa using h2
    simp [this]
theorem RowsK.app {K : PySem.W.Frag} {H : Hp} {xs ys : List V} {R S : List (List Int)} (h : RowsK K H xs R) (g : RowsK K H ys S) : RowsK K H (xs ++ ys) (R ++ S) := by
  refine ⟨by rw [List.length_append, List.length_append, h.1, g.1], fun i x r h1 h2 => ?_⟩
  by_cases hi : i < xs.length
  · rw [List.getElem?_append_left hi] at h1
    rw [List.getElem?_append_left (by rw [← h.1]; exact hi)] at h2
    exact h.2 i x r h1 h2
  · rw [List.getElem?_append_right (by omega)] at h1
    rw [List.getElem?_append_right (by rw [← h.1]; omega), ← h.1] at h2
    exact g.2 _ x r h1 h2
end Hg

set_option maxHeartbeats 4000000
namespace Hn
theorem zE_mono {N N' x x' : Nat} (h : N ≤ N') (g : x ≤ x') : zE N x ≤ zE N' x' := by
  unfold zE
  have a : x * N ≤ x' * N' := Nat.mul_le_mul g h
  have b : x * (N + 1) ≤ x' * (N' + 1) := Nat.mul_le_mul g (by omega)
  have c : (x * (N + 1) + 1) * (N + 1) ≤ (x' * (N' + 1) + 1) * (N' + 1) := Nat.mul_le_mul (by omega) (by omega)
  omega
theorem zB_pow {N N' M x : Nat} (hN : N ≤ N') (h8 : N' ≤ 8) (hM : M ≤ 2 ^ x) : zB N M ≤ 2 ^ zE N' (x + 4) := by
  refine Nat.le_trans (zB_le (x := x + 4) ?_ ?_) (Nat.pow_le_pow_right (by decide) (zE_mono hN (Nat.le_refl _)))
  · have : 2 * N * M ≤ 2 ^ 4 * 2 ^ x := Nat.mul_le_mul (by omega) hM
    rw [Nat.pow_add]
    omega
  · exact Nat.le_trans hM (Nat.pow_le_pow_right (by decide) (by omega))
end Hn
namespace Hg
open PySem PySem.Spec PyProof.Rows L2
theorem rm_pow {N N' M x : Nat} (hN : N ≤ N') (h8 : N' ≤ 8) (hM : M ≤ 2 ^ x) (h : Hn.zE N' (x + 4) + (Hn.zE N' (x + 4) + 1) * (2 * N' + 4) < 40000000) : rm N M := by
  unfold rm sm8
  refine Hn.rm_le (x := x + 4) ?_ ?_ ?_
  · have : 2 * N * M ≤ 2 ^ 4 * 2 ^ x := Nat.mul_le_mul (by omega) hM
    rw [Nat.pow_add]
    omega
  · exact Nat.le_trans hM (Nat.pow_le_pow_right (by decide) (by omega))
  · have a := Hn.zE_mono hN (Nat.le_refl (x + 4))
    have b : (Hn.zE N (x + 4) + 1) * (2 * N + 4) ≤ (Hn.zE N' (x + 4) + 1) * (2 * N' + 4) := Nat.mul_le_mul (by omega) (by omega)
    omega
theorem rm_sm {N M k : Nat} (h : rm N M) (hk : k ≤ 2 * N + 4) : sm8 (Hn.zB N M * (1 + Hn.zB N M) ^ k) :=
  sm8_mono (Nat.mul_le_mul_left _ (Nat.pow_le_pow_right (by omega) hk)) h
theorem rm_s {N M : Nat} (h : rm N M) : sm8 (Hn.zB N M) := by
  have := rm_sm h (Nat.zero_le _)
  rwa [Nat.pow_zero, Nat.mul_one] at this
theorem zB_ge1 {N M : Nat} (hM : 1 ≤ M) (hN : 1 ≤ N) : M ≤ Hn.zB N M := by
  unfold Hn.zB
  have a : 1 ≤ (2 * N * M) ^ N := Nat.one_le_pow _ _ (Nat.mul_pos (by omega) hM)
  have b : 1 ≤ (Hn.pB N M + 1) ^ (N + 1) := Nat.one_le_pow _ _ (by omega)
  have c : 1 * M * 1 ≤ (2 * N * M) ^ N * M * (Hn.pB N M + 1) ^ (N + 1) := Nat.mul_le_mul (Nat.mul_le_mul_right _ a) b
  have d : 1 * ((2 * N * M) ^ N * M * (Hn.pB N M + 1) ^ (N + 1)) ≤ (N + 1) * ((2 * N * M) ^ N * M * (Hn.pB N M + 1) ^ (N + 1)) := Nat.mul_le_mul_right _ (by omega)
  omega
/-! ### listed things: the thing itself or new lists -/
def LstN (G G' : Hp) (p : Addr) (rows : List (List Int)) : Prop := ∃ ys : List V, G p = none ∧ G' p = some (.lst ys) ∧ ys.length = rows.length ∧ ∀ (i : Nat) (y : V) (r : List Int), ys[i]? = some y → rows[i]? = some r → ∃ b, y = .ref b ∧ G b = none ∧ G' b = some (.lst (iV r))
def sp_l_listedN (K : PySem.W.Frag) : Sp := fun vs H Q _ => ∃ (s q : Addr) (B : Nat) (G : Hp) (k : Bool) (a : Addr) (xs : List V) (rows : List (List Int)), vs = [.ref s, .ref a] ∧ Ov s q B G H ∧ B < 900000 ∧ SqK K k G a xs ∧ RowsK K G xs rows ∧ rows.length ≤ 1000 ∧ (∀ r ∈ rows, r.length ≤ 1000) ∧
  ∀ (G' H' : Hp) (p : Addr), Ex G G' → Ov s q (B + 1) G' H' → (p = a ∨ LstN G G' p rows) → Q (.ref p) H'
def LstD (D : Addr) (G : Hp) (p : Addr) (rows : List (List Int)) : Prop := ∃ ys : List V, p ≠ D ∧ G p = some (.lst ys) ∧ ys.length = rows.length ∧ ∀ (i : Nat) (y : V) (r : List Int), ys[i]? = some y → rows[i]? = some r → ∃ b, y = .ref b ∧ b ≠ D ∧ G b = some (.lst (iV r))
theorem LstN.d {G G' : Hp} {p D : Addr} {rows : List (List Int)} {o : HO} (h : LstN G G' p rows) (d : G D = some o) : LstD D G' p rows := by
  have nd : ∀ {x : Addr}, G x = none → x ≠ D := fun e f => by rw [f, d] at e; cases e
  obtain ⟨ys, h1, h2, h3, h4⟩ := h
  exact ⟨ys, nd h1, h2, h3, fun i y r g1 g2 => by obtain ⟨b, b1, b2, b3⟩ := h4 i y r g1 g2; exact ⟨b, b1, nd b2, b3⟩⟩
theorem LstD.ex {D : Addr} {G G' : Hp} {p : Addr} {rows : List (List Int)} (h : LstD D G p rows) (e : Ex G G') : LstD D G' p rows := by
  obtain ⟨ys, h1, h2, h3, h4⟩ := h
  exact ⟨ys, h1, e _ _ h2, h3, fun i y r g1 g2 => by obtain ⟨b, b1, b2, b3⟩ := h4 i y r g1 g2; exact ⟨b, b1, b2, e _ _ b3⟩⟩
theorem LstD.up {D : Addr} {G : Hp} {p : Addr} {rows : List (List Int)} {o : HO} (h : LstD D G p rows) : LstD D (upd G D o) p rows := by
  obtain ⟨ys, h1, h2, h3, h4⟩ := h
  exact ⟨ys, h1, (upd_ne h1).trans h2, h3, fun i y r g1 g2 => by obtain ⟨b, b1, b2, b3⟩ := h4 i y r g1 g2; exact ⟨b, b1, b2, (upd_ne b2).trans b3⟩⟩
theorem LstD.sq {K : PySem.W.Frag} {D : Addr} {G : Hp} {p : Addr} {rows : List (List Int)} (h : LstD D G p rows) : ∃ ys, SqK K false G p ys ∧ RowsK K G ys rows := by
  obtain ⟨ys, h1, h2, h3, h4⟩ := h
  exact ⟨ys, SqK.lst h2, h3, fun i y r g1 g2 => by obtain ⟨b, b1, b2, b3⟩ := h4 i y r g1 g2; exact ⟨false, b, b1, SqK.lst b3⟩⟩
/-! ### what is shown of things in one another -/
theorem shw_ints {r : List Int} (hr : r.length ≤ 7) (hb : Hn.bnd (2 ^ 1200) (Hn.fv r)) (k : Bool) : Shw (rowD k r) 2610 ∧ (rowD k r).depth ≤ 2 := by
  have hints : ∀ d ∈ r.map PyData.int, Shw d 370 := fun d hd => by
    obtain ⟨i, hi, rfl⟩ := List.mem_map.mp hd
    obtain ⟨j, hj⟩ := List.mem_iff_getElem?.mp hi
    have := hb j
    rw [Hn.fv_at hj] at this
    exact shw_int this
  have s := shw_seq hints k
  have dd := depth_ints r
  rw [List.length_map] at s
  constructor
  · exact ⟨s.s, s.h, Nat.le_trans s.l (by omega)⟩
  · cases k with
    | true => show PyData.depthAll (r.map PyData.int) + 1 ≤ 2; omega
    | false => show PyData.depthAll (r.map PyData.int) + 1 ≤ 2; omega
theorem shw_rows {ks : List Bool} {rows : List (List Int)} (hl : rows.length ≤ 7) (hr : ∀ r ∈ rows, r.length ≤ 7 ∧ Hn.bnd (2 ^ 1200) (Hn.fv r)) (b : Bool) :
    Shw (if b then PyData.tuple (List.zipWith rowD ks rows) else .list (List.zipWith rowD ks rows)) 18300 ∧ (if b then PyData.tuple (List.zipWith rowD ks rows) else .list (List.zipWith rowD ks rows)).depth ≤ 3 := by
  have each : ∀ d ∈ List.zipWith rowD ks rows, Shw d 2610 ∧ d.depth ≤ 2 := fun d hd => by
    obtain ⟨k, r, hm, rfl⟩ := mem_zip hd
    obtain ⟨l, bd⟩ := hr r hm
    exact shw_ints l bd k
  have s := shw_seq (fun d hd => (each d hd).1) b
  have dd := depthAll_le fun d hd => (each d hd).2
  have zl : (List.zipWith rowD ks rows).length ≤ 7 := by rw [List.length_zipWith]; omega
  refine ⟨⟨s.s, s.h, Nat.le_trans s.l (by omega)⟩, ?_⟩
  cases b with
  | true => show PyData.depthAll _ + 1 ≤ 3; omega
  | false => show PyData.depthAll _ + 1 ≤ 3; omega
theorem shw_top {ds : List PyData} (h : ∀ d ∈ ds, Shw d 18300 ∧ d.depth ≤ 3) (hl : ds.length ≤ 100) : (PyData.list ds).showable = true ∧ (PyData.list ds).hasDict = false ∧ (PyData.list ds).depth ≤ 20 ∧ (PyData.list ds).shown.length ≤ sizeLine := by
  have s := shw_seq (fun d hd => (h d hd).1) false
  have dd := depthAll_le fun d hd => (h d hd).2
  refine ⟨s.s, s.h, ?_, Nat.le_trans s.l ?_⟩
  · show PyData.depthAll _ + 1 ≤ 20; omega
  · rw [sizeLine_eq]
    omega
/-- a thing of rows as data -/
theorem rows_dp {K : PySem.W.Frag} {k : Bool} {H : Hp} {p : Addr} {ys : List V} {rows : List (List Int)} (hs : SqK K k H p ys) (hr : RowsK K H ys rows) (hl : rows.length ≤ 7) (hb : ∀ r ∈ rows, r.length ≤ 7 ∧ Hn.bnd (2 ^ 1200) (Hn.fv r)) : ∃ d, Dp K H (.ref p) d ∧ Shw d 18300 ∧ d.depth ≤ 3 := by
  obtain ⟨ds, hds, ks, rfl, hks⟩ := hr.dp
  obtain ⟨a, b⟩ := shw_rows (ks := ks) hl hb k
  refine ⟨_, ?_, a, b⟩
  cases k with
  | true => exact .tup hs hds
  | false => exact .lst hs hds
theorem dp_some {K : PySem.W.Frag} {H : Hp} {R : PyData → Prop} : ∀ {xs : List V}, (∀ x ∈ xs, ∃ d, Dp K H x d ∧ R d) → ∃ ds, DpAll K H xs ds ∧ (∀ d ∈ ds, R d) ∧ ds.length = xs.length
  | [], _ => ⟨[], .nil, by simp, rfl⟩
  | x :: xs, h => by
    obtain ⟨d, h1, h2⟩ := h x (by simp)
    obtain ⟨ds, g1, g2, g3⟩ := dp_some (xs := xs) fun y hy => h y (by simp [hy])
    exact ⟨d :: ds, .cons h1 g1, fun e he => (List.mem_cons.mp he).elim (fun z => z ▸ h2) (g2 e), by simp [g3]⟩
theorem shw_up {d : PyData} {m n : Nat} (h : Shw d m) (l : m ≤ n) : Shw d n := ⟨h.s, h.h, Nat.le_trans h.l l⟩
end Hg
namespace Hg
theorem rm_smH {N M k : Nat} (h : rm N M) (hM : 1 ≤ M) (hN : 1 ≤ N) (hk : k ≤ 2 * N + 4) : sm8 (Hn.hB N M * (1 + Hn.hB N M) ^ k) :=
  sm8_mono (Nat.mul_le_mul (Hn.hB_le_zB hM hN) (Nat.pow_le_pow_left (by have := Hn.hB_le_zB hM hN; omega) _)) (rm_sm h hk)
end Hg

namespace Hn
/-! ### Euclid's way as a function -/
def bzGo (c d l m : Int) : Int × Int := if hd : d = 0 then (c, l) else bzGo d (c.fmod d) m (l - c.fdiv d * m)
termination_by d.natAbs
decreasing_by exact (fmod_sign hd).2
def bezF (a b : Int) : Int × Int × Int :=
  let r := bzGo a b 1 0
  let k : Int := if r.1 < 0 then -1 else 1
  (k * r.1, k * r.2, if b = 0 then 0 else (k * r.1 - k * r.2 * a).fdiv b)
theorem bzGo_zero {c l m : Int} : bzGo c 0 l m = (c, l) := by rw [bzGo]; simp
theorem bzGo_step {c d l m : Int} (hd : d ≠ 0) : bzGo c d l m = bzGo d (c.fmod d) m (l - c.fdiv d * m) := by rw [bzGo]; simp [hd]
theorem Bz.go {a b : Int} : ∀ (n : Nat) {c d l m : Int}, d.natAbs ≤ n → Bz a b c d l m → ∃ m', Bz a b (bzGo c d l m).1 0 (bzGo c d l m).2 m'
  | 0, c, d, l, m, h, z => by
    have : d = 0 := by omega
    subst this
    rw [bzGo_zero]
    exact ⟨m, z⟩
  | n + 1, c, d, l, m, h, z => by
    by_cases hd : d = 0
    · subst hd
      rw [bzGo_zero]
      exact ⟨m, z⟩
    · rw [bzGo_step hd]
      exact Bz.go n (by have := (fmod_sign (c := c) hd).2; omega) (z.step hd)
theorem bezF_pos {a b : Int} (ha : 0 < a) (hb : b ≠ 0) : 0 < (bezF a b).1 ∧ ∃ p r : Int, a = p * (bezF a b).1 ∧ b = r * (bezF a b).1 ∧ (bezF a b).2.1 * a + (bezF a b).2.2 * b = (bezF a b).1 ∧ (bezF a b).2.1.natAbs ≤ b.natAbs ∧ (bezF a b).2.2.natAbs ≤ 1 + a.natAbs := by
  obtain ⟨m', z⟩ := Bz.go b.natAbs (Nat.le_refl _) (Bz.start ha hb)
  have c0 := z.c0
  unfold bezF
  dsimp only
  rw [if_neg hb]
  generalize bzGo a b 1 0 = R at z c0
  obtain ⟨c, l⟩ := R
  dsimp only at z c0 ⊢
  have hk : (if c < 0 then (-1 : Int) else 1) = 1 ∨ (if c < 0 then (-1 : Int) else 1) = -1 := by split <;> simp
  have hp : 0 < (if c < 0 then (-1 : Int) else 1) * c := by split <;> omega
  obtain ⟨p, r, ep, er, eg, tb, sb⟩ := Bz.fin hb z hk hp
  exact ⟨hp, p, r, ep, er, eg, sb, tb⟩
theorem bezF_zero {b : Int} : bezF 0 b = ((b.natAbs : Int), if b = 0 then 1 else 0, if b = 0 then 0 else if b < 0 then -1 else 1) := by
  unfold bezF
  dsimp only
  by_cases hb : b = 0
  · subst hb
    rw [bzGo_zero]
    simp
  · rw [bzGo_step hb]
    have e1 : Int.fmod 0 b = 0 := Int.zero_fmod b
    have e2 : Int.fdiv 0 b = 0 := Int.zero_fdiv b
    rw [e1, e2, bzGo_zero, if_neg hb, if_neg hb, if_neg hb]
    dsimp only
    have q : ∀ k : Int, (k * b - k * 0 * 0).fdiv b = k := fun k => by
      rw [show k * b - k * 0 * 0 = k * b by simp]
      exact Int.mul_fdiv_cancel _ hb
    rw [q]
    by_cases h : b < 0
    · rw [if_pos h]
      refine Prod.ext ?_ (Prod.ext ?_ rfl)
      · show -1 * b = (b.natAbs : Int); omega
      · show (-1 : Int) * 0 = 0; rfl
    · rw [if_neg h]
      refine Prod.ext ?_ (Prod.ext ?_ rfl)
      · show 1 * b = (b.natAbs : Int); omega
      · show (1 : Int) * 0 = 0; rfl
end Hn

namespace Hn
/-! ### a lattice between another one and its multiples -/
structure GensM (m0 : Int) (m : Nat) (T : Nat → Vc) (R : Vc → Prop) : Prop where
  ts : ∀ s, s < m → Sp R (T s)
  rs : ∀ u, R u → ∃ z : Nat → Int, ∀ j, m0 * u j = sm m fun s => z s * T s j
theorem GensM.sp {m0 : Int} {m : Nat} {T : Nat → Vc} {R : Vc → Prop} (h : GensM m0 m T R) {v : Vc} (hv : Sp R v) : ∃ z : Nat → Int, ∀ j, m0 * v j = sm m fun s => z s * T s j := by
  induction hv with
  | zero => exact ⟨fun _ => 0, fun j => by rw [sm_zero fun s _ => by simp]; simp⟩
  | @add u v k h1 _ ih =>
    obtain ⟨a, ha⟩ := h.rs _ h1
    obtain ⟨b, hb⟩ := ih
    exact ⟨fun s => k * a s + b s, fun j => by
      show m0 * (k * u j + v j) = _
      rw [show m0 * (k * u j + v j) = k * (m0 * u j) + m0 * v j by grind, ha, hb, ← sm_mul, ← sm_add]
      exact sm_congr fun s _ => by grind⟩
theorem piv_boundM {m0 : Int} (h0 : m0 ≠ 0) {m M n : Nat} {T : Nat → Vc} {c : Nat → Nat} {R : Vc → Prop} (hM : 1 ≤ M) (h : Tri m T c) (g : GensM m0 m T R) (hR : ∀ u, R u → ∀ i, i < m → (u (c i)).natAbs ≤ M) (hmn : m ≤ n) {s : Nat} (hs : s < m) : (T s (c s)).natAbs ≤ m0.natAbs * (2 * n * M) ^ (n + 1) := by
  have k1 : s + 1 ≤ m := hs
  rcases dich (k := s + 1) hM R c fun u hu i hi => hR u hu i (by omega) with ⟨x, ⟨i, hi, hx⟩, _, xv⟩ | ⟨us, ru, ind⟩
  · exact absurd (h.form k1 (fun s' hs' => Sp.form (g.ts s' (by omega)) xv) i hi) hx
  · obtain ⟨y, ⟨i0, hi0, hy0⟩, yb, ye⟩ := siegel (k := s + 1) (t := s) (M := M) (by omega) hM (fun e t => us t (c e)) fun e t he ht => hR _ (ru t ht) e (by omega)
    have hw : Sp R (fun j => sm (s + 1) fun t => y t * us t j) := Sp.sum y fun t ht => .of (ru t ht)
    obtain ⟨z, hz⟩ := g.sp hw
    have w0 : ∀ i, i < s → (fun j => sm (s + 1) fun t => y t * us t j) (c i) = 0 := fun i hi => by
      have := ye i hi
      show sm (s + 1) (fun t => y t * us t (c i)) = 0
      rw [← this]
      exact sm_congr fun t _ => Int.mul_comm _ _
    have z0 := h.coef (v := fun j => m0 * sm (s + 1) fun t => y t * us t j) hz (k := s) (by omega) fun i hi => by
      show m0 * sm (s + 1) (fun t => y t * us t (c i)) = 0
      rw [show sm (s + 1) (fun t => y t * us t (c i)) = 0 from w0 i hi, Int.mul_zero]
    have wne : sm (s + 1) (fun t => y t * us t (c s)) ≠ 0 := fun e => hy0 (ind y (fun i hi => by
      by_cases e2 : i = s
      · rw [e2]; exact e
      · exact w0 i (by omega)) i0 hi0)
    have wc : m0 * sm (s + 1) (fun t => y t * us t (c s)) = z s * T s (c s) := by
      rw [show m0 * sm (s + 1) (fun t => y t * us t (c s)) = sm m (fun s' => z s' * T s' (c s)) from hz (c s)]
      exact sm_one hs fun s' hs' hne => by
        by_cases hlt : s' < s
        · rw [z0 s' hlt, Int.zero_mul]
        · rw [h.lo s' s hs' (by omega), Int.mul_zero]
    have hb : (sm (s + 1) (fun t => y t * us t (c s))).natAbs ≤ (s + 1) * ((2 * (s + 1) * M) ^ s * M) := sm_abs fun t ht => by
      rw [Int.natAbs_mul]
      exact Nat.mul_le_mul (yb t ht) (hR _ (ru t ht) s hs)
    have hz1 : 1 ≤ (z s).natAbs := by
      apply Classical.byContradiction
      intro hh
      have : z s = 0 := by omega
      rw [this, Int.zero_mul] at wc
      exact wne ((Int.mul_eq_zero.mp wc).resolve_left h0)
    have le1 : (T s (c s)).natAbs ≤ (m0 * sm (s + 1) (fun t => y t * us t (c s))).natAbs := by
      rw [wc, Int.natAbs_mul]
      exact Nat.le_mul_of_pos_left _ hz1
    rw [Int.natAbs_mul] at le1
    refine Nat.le_trans (Nat.le_trans le1 (Nat.mul_le_mul_left _ hb)) (Nat.mul_le_mul_left _ ?_)
    have a1 : 2 * (s + 1) * M ≤ 2 * n * M := Nat.mul_le_mul_right M (by omega)
    have hX : 1 ≤ 2 * n * M := Nat.mul_pos (by omega) hM
    have a2 : (2 * (s + 1) * M) ^ s ≤ (2 * n * M) ^ n := Nat.le_trans (Nat.pow_le_pow_left a1 s) (Nat.pow_le_pow_right hX (by omega))
    have a3 : (s + 1) * M ≤ 2 * n * M := Nat.mul_le_mul_right M (by omega)
    calc (s + 1) * ((2 * (s + 1) * M) ^ s * M) = (2 * (s + 1) * M) ^ s * ((s + 1) * M) := by
          rw [← Nat.mul_assoc, Nat.mul_comm (s + 1), Nat.mul_assoc]
      _ ≤ (2 * n * M) ^ n * (2 * n * M) := Nat.mul_le_mul a2 a3
      _ = (2 * n * M) ^ (n + 1) := (Nat.pow_succ ..).symm
/-- a form on the pivots and one column more -/
theorem form_boundM {m0 : Int} (h0 : m0 ≠ 0) {m M n : Nat} {T : Nat → Vc} {c : Nat → Nat} {R : Vc → Prop} (hM : 1 ≤ M) (h : Tri m T c) (g : GensM m0 m T R) (hR : ∀ u, R u → ∀ i, (u i).natAbs ≤ M) (hmn : m < n) (j : Nat) :
    ∃ (x : Nat → Int) (d : Int), d ≠ 0 ∧ d.natAbs ≤ (2 * n * M) ^ n ∧ (∀ i, i < m → (x i).natAbs ≤ (2 * n * M) ^ n) ∧ ∀ v, Sp R v → sm m (fun i => x i * v (c i)) + d * v j = 0 := by
  have hX : 1 ≤ 2 * n * M := Nat.mul_pos (by omega) hM
  have hpow : (2 * (m + 1) * M) ^ (m + 1) ≤ (2 * n * M) ^ n := Nat.le_trans (Nat.pow_le_pow_left (Nat.mul_le_mul_right M (by omega)) _) (Nat.pow_le_pow_right hX (by omega))
  let c' : Nat → Nat := fun i => if i = m then j else c i
  have e : ∀ (x : Nat → Int) (v : Vc), sm (m + 1) (fun i => x i * v (c' i)) = sm m (fun i => x i * v (c i)) + x m * v j := fun x v => by
    show sm m (fun i => x i * v (c' i)) + x m * v (c' m) = _
    have e1 : c' m = j := if_pos rfl
    rw [e1]
    congr 1
    exact sm_congr fun i hi => by
      have : c' i = c i := if_neg (by omega)
      rw [this]
  rcases dich (k := m + 1) hM R c' fun u hu i hi => hR u hu _ with ⟨x, ⟨i, hi, hx⟩, xb, xv⟩ | ⟨us, ru, ind⟩
  · refine ⟨x, x m, fun hm => ?_, Nat.le_trans (xb m (by omega)) hpow, fun i hi => Nat.le_trans (xb i (by omega)) hpow, fun v hv => ?_⟩
    · have z := h.form (Nat.le_refl m) (x := x) fun s hs => by
        have := Sp.form (g.ts s hs) xv
        rw [e, hm, Int.zero_mul, Int.add_zero] at this
        exact this
      refine hx ?_
      by_cases e2 : i = m
      · rw [e2]; exact hm
      · exact z i (by omega)
    · rw [← e]; exact Sp.form hv xv
  · exfalso
    have hz : ∀ s, ∃ z : Nat → Int, s < m + 1 → ∀ j, m0 * us s j = sm m fun l => z l * T l j := fun s => by
      by_cases hs : s < m + 1
      · obtain ⟨z, hz⟩ := g.rs _ (ru s hs)
        exact ⟨z, fun _ => hz⟩
      · exact ⟨fun _ => 0, fun hs' => absurd hs' hs⟩
    obtain ⟨Z, hZ⟩ := Classical.axiomOfChoice hz
    have bnd : ∀ a b : Nat, ∃ B : Nat, ∀ s l, s < a → l < b → (Z s l).natAbs ≤ B := by
      intro a
      induction a with
      | zero => exact fun b => ⟨0, fun s l hs => by omega⟩
      | succ a ih =>
        intro b
        obtain ⟨B, hB⟩ := ih b
        have row : ∃ B', ∀ l, l < b → (Z a l).natAbs ≤ B' := by
          clear hB
          induction b with
          | zero => exact ⟨0, fun l hl => by omega⟩
          | succ b ihb =>
            obtain ⟨B', hB'⟩ := ihb
            refine ⟨B' + (Z a b).natAbs, fun l hl => ?_⟩
            by_cases e : l = b
            · rw [e]; omega
            · have := hB' l (by omega); omega
        obtain ⟨B', hB'⟩ := row
        refine ⟨B + B', fun s l hs hl => ?_⟩
        by_cases e : s = a
        · rw [e]; have := hB' l hl; omega
        · have := hB s l (by omega) hl; omega
    obtain ⟨B, hB⟩ := bnd (m + 1) m
    obtain ⟨y, ⟨i0, hi0, hy0⟩, _, ye⟩ := siegel (k := m + 1) (t := m) (M := B + 1) (by omega) (by omega) (fun l s => Z s l) fun l s hl hs => by have := hB s l hs hl; omega
    refine hy0 (ind y (fun i hi => ?_) i0 hi0)
    have e1 : m0 * sm (m + 1) (fun s => y s * us s (c' i)) = sm (m + 1) (fun s => sm m fun l => T l (c' i) * (Z s l * y s)) := by
      rw [← sm_mul]
      refine sm_congr fun s hs => ?_
      rw [show m0 * (y s * us s (c' i)) = y s * (m0 * us s (c' i)) by grind, hZ s hs, ← sm_mul]
      exact sm_congr fun l _ => by grind
    have e2 : m0 * sm (m + 1) (fun s => y s * us s (c' i)) = 0 := by
      rw [e1, sm_swap]
      refine sm_zero fun l hl => ?_
      rw [sm_mul, ye l hl, Int.mul_zero]
    exact (Int.mul_eq_zero.mp e2).resolve_left h0
/-- numbers of a form whose lattice lies between Sp R and m0 times it -/
def pinB (m0 n M : Nat) : Nat := m0 * pB n M + n * ((2 * n * M) ^ n * (m0 * pB n M))
theorem Hnf.pinch {n m0 M : Nat} {V R : Vc → Prop} {C : List (List Int)} (hC : Hnf n V C) (h0 : 1 ≤ m0) (hM : 1 ≤ M) (hR : ∀ u, R u → bnd M u) (h1 : ∀ v, V v → Sp R v) (h2 : ∀ u, R u → V fun j => (m0 : Int) * u j) : ∀ r ∈ C, bnd (pinB m0 n M) (fv r) := by
  obtain ⟨st, e, red, sp, rfl⟩ := hC
  have g : GensM (m0 : Int) (cols st).length (TI st) R := by
    refine ⟨fun s hs => h1 _ ((sp _).mp ((gens_self st).ts s hs)), fun u hu => ?_⟩
    exact (gens_self st).sp ((sp _).mpr (h2 u hu))
  have z0 : (m0 : Int) ≠ 0 := by omega
  have piv : ∀ c l, st[c]? = some (some l) → (fv l c).natAbs ≤ m0 * pB n M := fun c l hc => by
    obtain ⟨i, hi, ei⟩ := cI_of hc
    have := piv_boundM z0 hM e.tri g (fun u hu i _ => hR u hu _) e.m_le hi
    unfold TI at this
    rw [ei, hc] at this
    exact this
  intro r hr
  obtain ⟨x, hx, ex⟩ := List.mem_filterMap.mp hr
  change x = some r at ex
  subst ex
  obtain ⟨c, hc⟩ := List.mem_iff_getElem?.mp hx
  have vR : Sp R (fv r) := h1 _ ((sp _).mp (.of ⟨c, r, hc, rfl⟩))
  have at_ : ∀ c' l, st[c']? = some (some l) → (fv r c').natAbs ≤ m0 * pB n M := fun c' l hl => by
    rcases Nat.lt_trichotomy c' c with h | h | h
    · rw [e.lo _ _ _ hc h]; simp
    · subst h
      rw [hc] at hl
      cases hl
      exact piv _ _ hc
    · have := red _ _ _ _ hc h hl
      have := piv _ _ hl
      omega
  refine bnd_out (e.row _ _ hc) fun j hj => ?_
  by_cases hst : ∃ l, st[j]? = some (some l)
  · obtain ⟨l, hl⟩ := hst
    exact Nat.le_trans (at_ j l hl) (Nat.le_add_right _ _)
  · have mlt := e.m_lt hj fun l hl => hst ⟨l, hl⟩
    obtain ⟨x, d, d0, dB, xB, hf⟩ := form_boundM z0 hM e.tri g hR mlt j
    have f1 := hf _ vR
    generalize hm : (cols st).length = m at *
    have hci : ∀ i, i < m → (fv r (cI st i)).natAbs ≤ m0 * pB n M := fun i hi => at_ _ _ (cI_step (by omega))
    have key : d * fv r j = -(sm m fun i => x i * fv r (cI st i)) := by omega
    have b2 : (d * fv r j).natAbs ≤ n * ((2 * n * M) ^ n * (m0 * pB n M)) := by
      rw [key, Int.natAbs_neg]
      refine Nat.le_trans (sm_abs (B := (2 * n * M) ^ n * (m0 * pB n M)) fun i hi => ?_) (Nat.mul_le_mul_right _ (by omega))
      rw [Int.natAbs_mul]
      exact Nat.mul_le_mul (xB i hi) (hci i hi)
    have hd : (fv r j).natAbs ≤ (d * fv r j).natAbs := by
      rw [Int.natAbs_mul]
      exact Nat.le_mul_of_pos_left _ (by omega)
    unfold pinB
    omega
theorem pinB_le {m0 n M y e : Nat} (h1 : 2 * n * M ≤ 2 ^ y) (h2 : m0 ≤ 2 ^ e) : pinB m0 n M ≤ 2 ^ (e + hE n y) := by
  have hp : m0 * pB n M ≤ 2 ^ e * pB n M := Nat.mul_le_mul_right _ h2
  have h := hB_le h1
  have : pinB m0 n M ≤ 2 ^ e * hB n M := by
    unfold pinB hB
    rw [Nat.mul_add]
    have a : n * ((2 * n * M) ^ n * (m0 * pB n M)) ≤ n * ((2 * n * M) ^ n * (2 ^ e * pB n M)) := Nat.mul_le_mul_left _ (Nat.mul_le_mul_left _ hp)
    have b : 2 ^ e * (n * ((2 * n * M) ^ n * pB n M)) = n * ((2 * n * M) ^ n * (2 ^ e * pB n M)) := by
      rw [Nat.mul_left_comm (2 ^ e) n, Nat.mul_left_comm (2 ^ e) ((2 * n * M) ^ n)]
    omega
  rw [Nat.pow_add]
  exact Nat.le_trans this (Nat.mul_le_mul_left _ h)
end Hn

namespace Hn
/-! ### vectors that a matrix sends into a lattice -/
def padL (s : Nat) (b : List Int) : List Int := b ++ List.replicate s 0
def mrkL (s i : Nat) (t : List Int) : List Int := t ++ (List.range s).map fun j => if j = i then 1 else 0
theorem fv_pad {s : Nat} {b : List Int} : fv (padL s b) = fv b := funext fun j => by
  by_cases h : j < b.length
  · exact fv_at (by rw [padL, List.getElem?_append_left h]; exact fv_get h)
  · rw [fv_out (l := b) (by omega)]
    by_cases h2 : j < b.length + s
    · exact fv_at (by rw [padL, List.getElem?_append_right (by omega), List.getElem?_replicate, if_pos (by omega)])
    · exact fv_out (by simp [padL]; omega)
theorem fv_mrk {s i m : Nat} {t : List Int} (ht : t.length = m) (hi : i < s) (j : Nat) : fv (mrkL s i t) j = if j < m then fv t j else if j = m + i then 1 else 0 := by
  by_cases h : j < m
  · rw [if_pos h]
    exact fv_at (by rw [mrkL, List.getElem?_append_left (by omega)]; exact fv_get (by omega))
  · rw [if_neg h]
    by_cases h2 : j < m + s
    · refine fv_at ?_
      rw [mrkL, List.getElem?_append_right (by omega), List.getElem?_map, List.getElem?_range (by omega), ht]
      show some (if j - m = i then (1 : Int) else 0) = _
      congr 1
      by_cases h3 : j = m + i
      · rw [if_pos h3, if_pos (by omega)]
      · rw [if_neg h3, if_neg (by omega)]
    · rw [if_neg (by omega)]
      exact fv_out (by simp [mrkL]; omega)
def preR (s : Nat) (R Mt : List (List Int)) : List (List Int) := R.map (padL s) ++ (List.range s).map fun i => mrkL s i (Mt.getD i [])
/-- a vector through the matrix -/
def imgV (Mt : List (List Int)) (v : Vc) : Vc := fun j => sm Mt.length fun i => fv (Mt.getD i []) j * v i
theorem pre_iff {m s : Nat} {R Mt : List (List Int)} (hs : Mt.length = s) (hR : ∀ r ∈ R, r.length = m) (hM : ∀ t ∈ Mt, t.length = m) (v : Vc) :
    Sp (RL (preR s R Mt)) (shift m v) ↔ (∀ j, s ≤ j → v j = 0) ∧ Sp (RL R) (imgV Mt v) := by
  have ml : ∀ i, i < s → (Mt.getD i []).length = m := fun i hi => by
    rw [List.getD_eq_getElem?_getD, List.getElem?_eq_getElem (by omega)]
    exact hM _ (List.getElem_mem _)
  have w0 : ∀ w, Sp (RL R) w → ∀ j, m ≤ j → w j = 0 := fun w hw j hj => hw.at0 fun u hu => by
    obtain ⟨r, hr, rfl⟩ := hu
    exact fv_out (by rw [hR r hr]; exact hj)
  have m0 : ∀ i j, i < s → m ≤ j → fv (Mt.getD i []) j = 0 := fun i j hi hj => fv_out (by rw [ml i hi]; exact hj)
  constructor
  · intro h
    have key : ∀ u, Sp (RL (preR s R Mt)) u → ∃ w, Sp (RL R) w ∧ (∀ j, j < m → u j = w j + sm s fun i => fv (Mt.getD i []) j * u (m + i)) ∧ ∀ j, m + s ≤ j → u j = 0 := by
      intro u hu
      induction hu with
      | zero => exact ⟨_, .zero, fun j _ => by rw [sm_zero fun i _ => by simp]; rfl, fun _ _ => rfl⟩
      | @add x y k hx _ ih =>
        obtain ⟨w, hw, h1, h2⟩ := ih
        obtain ⟨q, hq, rfl⟩ := hx
        rcases List.mem_append.mp hq with hq | hq
        · obtain ⟨r, hr, rfl⟩ := List.mem_map.mp hq
          refine ⟨fun j => k * fv r j + w j, .add k ⟨r, hr, rfl⟩ hw, fun j hj => ?_, fun j hj => ?_⟩
          · show k * fv (padL s r) j + y j = k * fv r j + w j + sm s fun i => fv (Mt.getD i []) j * (k * fv (padL s r) (m + i) + y (m + i))
            have eS : (sm s fun i => fv (Mt.getD i []) j * (k * fv (padL s r) (m + i) + y (m + i))) = sm s fun i => fv (Mt.getD i []) j * y (m + i) := sm_congr fun i hi => by
              rw [fv_pad, fv_out (l := r) (by rw [hR r hr]; omega), Int.mul_zero, Int.zero_add]
            rw [h1 j hj, eS, fv_pad]
            omega
          · show k * fv (padL s r) j + y j = 0
            rw [fv_pad, h2 j hj, fv_out (by rw [hR r hr]; omega)]
            simp
        · obtain ⟨i0, hi0, rfl⟩ := List.mem_map.mp hq
          have hi0 : i0 < s := List.mem_range.mp hi0
          have fm := fv_mrk (ml i0 hi0) hi0
          refine ⟨w, hw, fun j hj => ?_, fun j hj => ?_⟩
          · show k * fv (mrkL s i0 (Mt.getD i0 [])) j + y j = w j + sm s fun i => fv (Mt.getD i []) j * (k * fv (mrkL s i0 (Mt.getD i0 [])) (m + i) + y (m + i))
            have e1 : (sm s fun i => fv (Mt.getD i []) j * (k * fv (mrkL s i0 (Mt.getD i0 [])) (m + i) + y (m + i))) = k * fv (Mt.getD i0 []) j + sm s fun i => fv (Mt.getD i []) j * y (m + i) := by
              rw [sm_congr (g := fun i => (if i = i0 then k * fv (Mt.getD i []) j else 0) + fv (Mt.getD i []) j * y (m + i)) fun i hi => ?_, sm_add, sm_one (f := fun i => if i = i0 then k * fv (Mt.getD i []) j else 0) (j := i0) hi0 fun i _ ne => if_neg ne]
              · show (if i0 = i0 then _ else _) + _ = _
                rw [if_pos rfl]
              · rw [fm, if_neg (by omega)]
                by_cases h3 : i = i0
                · rw [if_pos (by omega), if_pos h3]
                  generalize fv (Mt.getD i []) j = x
                  generalize y (m + i) = z
                  grind
                · rw [if_neg (by omega), if_neg h3, Int.mul_zero, Int.zero_add, Int.zero_add]
            rw [e1, h1 j hj, fm, if_pos hj]
            omega
          · show k * fv (mrkL s i0 (Mt.getD i0 [])) j + y j = 0
            rw [h2 j hj, fm, if_neg (by omega), if_neg (by omega)]
            simp
    obtain ⟨w, hw, h1, h2⟩ := key _ h
    refine ⟨fun j hj => ?_, ?_⟩
    · have := h2 (m + j) (by omega)
      unfold shift at this
      rw [if_neg (by omega), Nat.add_sub_cancel_left] at this
      exact this
    · refine (hw.mul (-1)).cast fun j => ?_
      by_cases hj : j < m
      · have := h1 j hj
        unfold shift at this
        rw [if_pos hj, sm_congr (g := fun i => fv (Mt.getD i []) j * v i) fun i hi => by rw [if_neg (by omega), Nat.add_sub_cancel_left]] at this
        unfold imgV
        rw [hs]
        omega
      · rw [w0 w hw j (by omega)]
        unfold imgV
        rw [sm_zero fun i hi => by rw [m0 i j (by omega) (by omega)]; simp]
        simp
  · rintro ⟨hv, hw⟩
    have a := Sp.sum (R := RL (preR s R Mt)) (T := fun i => fv (mrkL s i (Mt.getD i []))) v (m := s) fun i hi => .of ⟨_, List.mem_append.mpr (.inr (List.mem_map.mpr ⟨i, List.mem_range.mpr hi, rfl⟩)), rfl⟩
    have b : Sp (RL (preR s R Mt)) (imgV Mt v) := hw.mono fun u hu => by
      obtain ⟨r, hr, rfl⟩ := hu
      exact ⟨padL s r, List.mem_append.mpr (.inl (List.mem_map.mpr ⟨r, hr, rfl⟩)), fv_pad.symm⟩
    refine (a.comb 1 (-1) b).cast fun j => ?_
    unfold shift
    by_cases hj : j < m
    · rw [if_pos hj]
      unfold imgV
      rw [hs, sm_congr (g := fun i => fv (Mt.getD i []) j * v i) fun i hi => by rw [fv_mrk (ml i hi) hi, if_pos hj, Int.mul_comm]]
      omega
    · rw [if_neg hj, w0 _ hw j (by omega)]
      by_cases h2 : j < m + s
      · rw [sm_one (j := j - m) (by omega) fun i hi ne => by rw [fv_mrk (ml i hi) hi, if_neg hj, if_neg (by omega), Int.mul_zero], fv_mrk (ml _ (by omega)) (by omega), if_neg hj, if_pos (by omega)]
        omega
      · rw [sm_zero fun i hi => by rw [fv_mrk (ml i hi) hi, if_neg hj, if_neg (by omega), Int.mul_zero], hv _ (by omega)]
        rfl
end Hn

set_option maxHeartbeats 4000000
namespace Hg
open PySem PySem.Spec PyProof.Rows L2
def sp_preimage_of (K : PySem.W.Frag) : Sp := fun vs H Q _ => ∃ (k l : Bool) (a b : Addr) (m s M : Nat) (xs ys : List V) (R Mt : List (List Int)), vs = [.ref a, .ref b] ∧ SqK K k H a xs ∧ RowsK K H xs R ∧ SqK K l H b ys ∧ RowsK K H ys Mt ∧ Mt.length = s ∧ 1 ≤ s ∧ 1 ≤ m ∧ m + s ≤ 100 ∧ R.length ≤ 300 ∧
  (∀ r ∈ R, r.length = m ∧ Hn.bnd M (Hn.fv r)) ∧ (∀ t ∈ Mt, t.length = m ∧ Hn.bnd M (Hn.fv t)) ∧ 1 ≤ M ∧ rm (m + s) M ∧
  ∀ (H' : Hp) (p : Addr) (as : List Addr) (C : List (List Int)), Ex H H' → H' p = some (.tup (as.map V.ref)) → RowsIn H' as C → Hn.Hnf s (fun v => (∀ j, s ≤ j → v j = 0) ∧ Hn.Sp (Hn.RL R) (Hn.imgV Mt v)) C → (∀ r ∈ C, r.length = s ∧ Hn.bnd (Hn.hB (m + s) M) (Hn.fv r)) → Q (.ref p) H'
theorem tup_seq {K : PySem.W.Frag} {kk : Bool} {H : Hp} {a : Addr} {xs : List V} {Q : VK} (h : SqK K kk H a xs) (q : ∀ (p : Addr) (H' : Hp), Ex H H' → SqT K H' p xs → Q (.ref p) H') : rTupK K [.ref a] H Q := by
  cases kk with
  | true => exact ⟨a, xs, rfl, .inr ⟨h, q a H (Ex.refl H) h⟩⟩
  | false => exact ⟨a, xs, rfl, .inl ⟨h, fun l hl => q l _ (Ex.new hl) (SqT.of upd_same)⟩⟩
theorem cat_tup {K : PySem.W.Frag} {H : Hp} {a b : Addr} {xs ys : List Int} {Q : VK} (ha : SqT K H a (iV xs)) (hb : SqT K H b (iV ys)) (h1 : 1 ≤ xs.length) (h2 : 1 ≤ ys.length) (h3 : xs.length + ys.length ≤ 1000) (q : ∀ (p : Addr) (H' : Hp), Ex H H' → H' p = some (.tup (iV (xs ++ ys))) → Q (.ref p) H') : rPlus K (.ref a) (.ref b) H Q := by
  refine .inr (.inr (.inl ⟨a, b, _, _, rfl, rfl, ha, hb, by rw [List.length_map, List.length_map, sizeLine_eq]; omega, fun e => ?_, fun _ e => ?_, fun _ _ p hp => ?_⟩))
  · rw [List.map_eq_nil_iff] at e; subst e; simp at h1
  · rw [List.map_eq_nil_iff] at e; subst e; simp at h2
  · refine q p _ (Ex.new hp) ?_
    rw [upd_same]
    show _ = some (HO.tup (List.map V.int (xs ++ ys)))
    rw [List.map_append]
theorem cat_tup0 {K : PySem.W.Frag} {H : Hp} {a b : Addr} {xs ys : List Int} {Q : VK} (ha : SqT K H a (iV xs)) (hb : H b = some (.tup (iV ys))) (h2 : 1 ≤ ys.length) (h3 : xs.length + ys.length ≤ 1000) (q : ∀ (p : Addr) (H' : Hp), Ex H H' → H' p = some (.tup (iV (xs ++ ys))) → Q (.ref p) H') : rPlus K (.ref a) (.ref b) H Q := by
  refine .inr (.inr (.inl ⟨a, b, _, _, rfl, rfl, ha, SqT.of hb, by rw [List.length_map, List.length_map, sizeLine_eq]; omega, fun e => ?_, fun _ e => ?_, fun _ _ p hp => ?_⟩))
  · rw [List.map_eq_nil_iff] at e; subst e; exact q b H (Ex.refl H) hb
  · rw [List.map_eq_nil_iff] at e; subst e; simp at h2
  · refine q p _ (Ex.new hp) ?_
    rw [upd_same]
    show _ = some (HO.tup (List.map V.int (xs ++ ys)))
    rw [List.map_append]
/-- all tuples of so many numbers between two bounds, as the laws list them -/
def cubeL (lo : Int) (n : Nat) : Nat → List (List Int)
  | 0 => [[]]
  | k + 1 => (cubeL lo n k).flatMap fun v => (List.range n).map fun i : Nat => v ++ [lo + (i : Int)]
def sp_l_cube (_ : PySem.W.Frag) : Sp := fun vs H Q _ => ∃ (lo : Int) (n k : Nat), vs = [.int lo, .int (lo + (n : Int) - 1), .int (k : Nat)] ∧ -1000 ≤ lo ∧ lo ≤ 1000 ∧ n ≤ 12 ∧ k ≤ 3 ∧
  ∀ (H' : Hp) (p : Addr) (as : List Addr), Ex H H' → H' p = some (.lst (as.map V.ref)) → RowsIn H' as (cubeL lo n k) → Q (.ref p) H'
def extL (lo : Int) (n : Nat) (v : List Int) : List (List Int) := (List.range n).map fun i : Nat => v ++ [lo + (i : Int)]
theorem ext_len {lo : Int} {n : Nat} : ∀ S : List (List Int), (S.flatMap (extL lo n)).length = S.length * n
  | [] => by simp
  | v :: S => by
    rw [List.flatMap_cons, List.length_append, ext_len S, List.length_cons, Nat.succ_mul]
    simp [extL]
    omega
theorem cube_card {lo : Int} {n : Nat} : ∀ k : Nat, (cubeL lo n k).length = n ^ k
  | 0 => rfl
  | k + 1 => by
    show ((cubeL lo n k).flatMap (extL lo n)).length = _
    rw [ext_len, cube_card k, Nat.pow_succ]
theorem cube_len {lo : Int} {n : Nat} : ∀ {k : Nat} {v : List Int}, v ∈ cubeL lo n k → v.length = k ∧ ∀ x ∈ v, lo ≤ x ∧ x < lo + n
  | 0, v, h => by
    have : v = [] := by simpa [cubeL] using h
    subst this; simp
  | k + 1, v, h => by
    obtain ⟨u, hu, hv⟩ := List.mem_flatMap.mp h
    obtain ⟨i, hi, rfl⟩ := List.mem_map.mp hv
    obtain ⟨h1, h2⟩ := cube_len hu
    have hi := List.mem_range.mp hi
    refine ⟨by simp [h1], fun x hx => ?_⟩
    rcases List.mem_append.mp hx with hx | hx
    · exact h2 x hx
    · have : x = lo + (i : Int) := by simpa using hx
      omega
end Hg

set_option maxHeartbeats 4000000
namespace Hn
/-! ### images and what leads to them -/
theorem imgV_add {Mt : List (List Int)} {u v : Vc} {k : Int} : imgV Mt (fun j => k * u j + v j) = fun j => k * imgV Mt u j + imgV Mt v j := by
  funext j
  unfold imgV
  rw [← sm_mul, ← sm_add]
  exact sm_congr fun i _ => by grind
theorem imgV_sub {Mt : List (List Int)} {u v : Vc} : imgV Mt (fun j => v j - u j) = fun j => imgV Mt v j - imgV Mt u j := by
  have := imgV_add (Mt := Mt) (u := u) (v := v) (k := -1)
  have e : (fun j => v j - u j) = fun j => -1 * u j + v j := funext fun j => by omega
  rw [e, this]
  exact funext fun j => by omega
theorem imgV_zero {Mt : List (List Int)} : imgV Mt (fun _ => 0) = fun _ => 0 := funext fun j => by
  unfold imgV
  exact sm_zero fun i _ => by simp
theorem imgV_fv {Mt : List (List Int)} {m : Nat} {r : List Int} (hM : ∀ t ∈ Mt, t.length = m) : imgV Mt (fv r) = fv (imgL Mt m r) := funext fun j => (imgL_fv hM j).symm
theorem img_sp {Mt R : List (List Int)} {m : Nat} (hM : ∀ t ∈ Mt, t.length = m) {u : Vc} (h : Sp (RL R) u) : Sp (RL (R.map (imgL Mt m))) (imgV Mt u) := by
  induction h with
  | zero => rw [imgV_zero]; exact .zero
  | @add x y k hx _ ih =>
    obtain ⟨r, hr, rfl⟩ := hx
    rw [imgV_add, imgV_fv hM]
    exact .add k ⟨_, List.mem_map.mpr ⟨r, hr, rfl⟩, rfl⟩ ih
theorem img_back {Mt R : List (List Int)} {m : Nat} (hM : ∀ t ∈ Mt, t.length = m) {w : Vc} (h : Sp (RL (R.map (imgL Mt m))) w) : ∃ u, Sp (RL R) u ∧ w = imgV Mt u := by
  induction h with
  | zero => exact ⟨_, .zero, imgV_zero.symm⟩
  | @add x y k hx _ ih =>
    obtain ⟨r', hr', rfl⟩ := hx
    obtain ⟨r, hr, rfl⟩ := List.mem_map.mp hr'
    obtain ⟨u, hu, rfl⟩ := ih
    refine ⟨fun j => k * fv r j + u j, .add k ⟨r, hr, rfl⟩ hu, ?_⟩
    rw [imgV_add, imgV_fv hM]
theorem sp_tail {n : Nat} {R : List (List Int)} (hR : ∀ r ∈ R, r.length = n) {v : Vc} (h : Sp (RL R) v) (j : Nat) (hj : n ≤ j) : v j = 0 := h.at0 fun u hu => by
  obtain ⟨r, hr, rfl⟩ := hu
  exact fv_out (by rw [hR r hr]; exact hj)
theorem pre_join {n m : Nat} {Mt R C Ck : List (List Int)} (hM : ∀ t ∈ Mt, t.length = m) (hR : ∀ r ∈ R, r.length = n) (hC : ∀ w, Sp (RL (R.map (imgL Mt m))) w ↔ Sp (RL C) w) (hk : ∀ v, ((∀ j, n ≤ j → v j = 0) ∧ Sp (RL []) (imgV Mt v)) ↔ Sp (RL Ck) v) (v : Vc) :
    ((∀ j, n ≤ j → v j = 0) ∧ Sp (RL C) (imgV Mt v)) ↔ Sp (RL (R ++ Ck)) v := by
  have inR : ∀ {u}, Sp (RL R) u → Sp (RL (R ++ Ck)) u := fun h => h.mono fun x ⟨r, hr, e⟩ => ⟨r, List.mem_append.mpr (.inl hr), e⟩
  have inK : ∀ {u}, Sp (RL Ck) u → Sp (RL (R ++ Ck)) u := fun h => h.mono fun x ⟨r, hr, e⟩ => ⟨r, List.mem_append.mpr (.inr hr), e⟩
  constructor
  · rintro ⟨h0, h1⟩
    obtain ⟨u, hu, e⟩ := img_back hM ((hC _).mpr h1)
    have k := (hk (fun j => v j - u j)).mp ⟨fun j hj => by rw [h0 j hj, sp_tail hR hu j hj]; rfl, by
      rw [imgV_sub, e]
      exact Sp.zero.cast fun j => by omega⟩
    exact ((inR hu).plus (inK k)).cast fun j => by omega
  · intro h
    induction h with
    | zero => exact ⟨fun _ _ => rfl, by rw [imgV_zero]; exact .zero⟩
    | @add x y k hx _ ih =>
      obtain ⟨i0, i1⟩ := ih
      have key : (∀ j, n ≤ j → x j = 0) ∧ Sp (RL C) (imgV Mt x) := by
        obtain ⟨r, hr, rfl⟩ := hx
        rcases List.mem_append.mp hr with hr | hr
        · exact ⟨fun j hj => fv_out (by rw [hR r hr]; exact hj), (hC _).mp (img_sp hM (.of ⟨r, hr, rfl⟩))⟩
        · obtain ⟨a, b⟩ := (hk (fv r)).mpr (.of ⟨r, hr, rfl⟩)
          exact ⟨a, b.mono fun x ⟨r, hr, _⟩ => by simp at hr⟩
      refine ⟨fun j hj => by show k * x j + y j = 0; rw [key.1 j hj, i0 j hj]; simp, ?_⟩
      rw [imgV_add]
      exact ((key.2.comb k 1 i1)).cast fun j => by omega
/-- the columns that a matrix of ones picks -/
def pickM (n : Nat) (cl : List Nat) : List (List Int) := (List.range n).map fun i => cl.map fun c => if i = c then (1 : Int) else 0
theorem pick_img {n : Nat} {cl : List Nat} {r : List Int} (hr : r.length = n) (hc : ∀ c ∈ cl, c < n) : imgL (pickM n cl) cl.length r = prjL cl r := by
  refine fv_ext (by rw [imgL_len]; simp [prjL]) fun j => ?_
  by_cases hj : j < cl.length
  · have hcj := List.getElem?_eq_getElem hj
    generalize cl[j] = c at hcj
    have cn := hc c (List.mem_of_getElem? hcj)
    rw [imgL_at hj, prjL_at hcj]
    have el : (pickM n cl).length = n := by simp [pickM]
    have at_ : ∀ i, i < n → fv ((pickM n cl).getD i []) j = if i = c then 1 else 0 := fun i hi => by
      have : (pickM n cl).getD i [] = cl.map fun c => if i = c then (1 : Int) else 0 := by
        rw [List.getD_eq_getElem?_getD, pickM, List.getElem?_map, List.getElem?_range hi]; rfl
      rw [this]
      exact fv_at (by rw [List.getElem?_map, hcj]; rfl)
    rw [el, sm_one (j := c) cn fun i hi ne => by rw [at_ i hi, if_neg ne, Int.zero_mul], at_ c cn, if_pos rfl, Int.one_mul]
  · rw [fv_out (by rw [imgL_len]; omega), fv_out (by simp [prjL]; omega)]
theorem pick_bnd {n : Nat} {cl : List Nat} : ∀ t ∈ pickM n cl, t.length = cl.length ∧ bnd 4 (fv t) := fun t ht => by
  obtain ⟨i, _, rfl⟩ := List.mem_map.mp ht
  refine ⟨List.length_map _, fun j => ?_⟩
  by_cases hj : j < cl.length
  · rw [fv_at (x := if i = cl[j] then 1 else 0) (by rw [List.getElem?_map, List.getElem?_eq_getElem hj]; rfl)]
    split <;> decide
  · rw [fv_out (by simp; omega)]
    decide
theorem EchR.rlen {n : Nat} {cs : List Nat} {R : List (List Int)} (e : EchR n cs R) : R.length ≤ n := by
  rw [← e.len]
  have key : ∀ (cs : List Nat) (k m : Nat), cs.Pairwise (· < ·) → (∀ c ∈ cs, k ≤ c ∧ c < k + m) → cs.length ≤ m := by
    intro cs
    induction cs with
    | nil => intro k m _ _; exact Nat.zero_le _
    | cons c t ih =>
      intro k m h1 h2
      obtain ⟨a, b⟩ := List.pairwise_cons.mp h1
      have c1 := h2 c (by simp)
      have := ih (c + 1) (k + m - (c + 1)) b fun d hd => ⟨a d hd, by have := h2 d (by simp [hd]); have := a d hd; omega⟩
      simp only [List.length_cons]
      omega
  exact key cs 0 n e.asc fun c hc => ⟨Nat.zero_le _, by have := e.lt c hc; omega⟩
theorem EchR.rows_len {n : Nat} {cs : List Nat} {R : List (List Int)} (e : EchR n cs R) : ∀ r ∈ R, r.length = n := fun r hr => by
  obtain ⟨j, hj⟩ := List.mem_iff_getElem?.mp hr
  have : j < cs.length := by rw [e.len]; exact (List.getElem?_eq_some_iff.mp hj).1
  exact (e.row j _ r (List.getElem?_eq_getElem this) hj).1
end Hn
namespace Hg
open PySem PySem.Spec PyProof.Rows L2
theorem ne_rows {K : PySem.W.Frag} {H : Hp} {p q : Addr} {as bs : List Addr} {A B : List (List Int)} {Q : VK} (hp : H p = some (.tup (as.map V.ref))) (ha : RowsIn H as A) (hq : H q = some (.tup (bs.map V.ref))) (hb : RowsIn H bs B) (k : Q (.bl (!decide (A = B))) H) : rNeA K (.ref p) (.ref q) H Q :=
  .inr ⟨_, _, dp_rowsT (SqT.of hp) ha, dp_rowsT (SqT.of hq) hb, shaped_rows _, shaped_rows _, by rw [eqv_rows]; exact k⟩
theorem eq_rows {K : PySem.W.Frag} {H : Hp} {p q : Addr} {as bs : List Addr} {A B : List (List Int)} {Q : VK} (hp : H p = some (.tup (as.map V.ref))) (ha : RowsIn H as A) (hq : H q = some (.tup (bs.map V.ref))) (hb : RowsIn H bs B) (k : Q (.bl (decide (A = B))) H) : rEqA K (.ref p) (.ref q) H Q :=
  .inr ⟨_, _, dp_rowsT (SqT.of hp) ha, dp_rowsT (SqT.of hq) hb, shaped_rows _, shaped_rows _, by rw [eqv_rows]; exact k⟩
theorem RowsIn.ref {H : Hp} {as : List Addr} {R : List (List Int)} (h : RowsIn H as R) (i : Nat) (x : V) (r : List Int) (hx : (as.map V.ref)[i]? = some x) (hr : R[i]? = some r) : ∃ ra, x = .ref ra ∧ H ra = some (.tup (iV r)) := by
  rw [List.getElem?_map] at hx
  obtain ⟨a, ha, rfl⟩ := Option.map_eq_some_iff.mp hx
  exact ⟨a, rfl, h.2 i a r ha hr⟩
theorem bnd_of {B : Nat} {v : List Int} (h : ∀ x ∈ v, x.natAbs ≤ B) : Hn.bnd B (Hn.fv v) := fun j => by
  by_cases hj : j < v.length
  · rw [Hn.fv_at (List.getElem?_eq_getElem hj)]
    exact h _ (List.getElem_mem hj)
  · rw [Hn.fv_out (by omega)]; simp
end Hg

set_option maxHeartbeats 4000000
namespace Hg
open PySem PySem.Spec PyProof.Rows L2
theorem hu1 {a c : Nat} (h : a + 64 < c) : a + 1 < c := by omega
/-! ### {k: v} whose key is a tuple -/
section
variable {X : Cx}
def tDispT (tk tv : TE) : TE := fun σ H Q => ∀ p, H p = none → tk σ (upd H p (.dT [])) fun x H1 => tv σ H1 fun y H2 => ∃ b k, x = .ref b ∧ H2 b = some (.tup (k.map kV)) ∧ H2 p = some (.dT []) ∧ Q (.ref p) (upd H2 p (.dT [(k, y)]))
def qDispT (p : Addr) (Q : VK) : List (V × V) → Hp → Prop
  | [(x, y)], H2 => ∃ b k, x = .ref b ∧ H2 b = some (.tup (k.map kV)) ∧ H2 p = some (.dT []) ∧ Q (.ref p) (upd H2 p (.dT [(k, y)]))
  | _, _ => False
theorem storeT {pins : List (Addr × Obj)} {σ : L2.St} {H : Hp} {s : Shared} {p b : Addr} {k : List Key} {y : V} {vy : Value} {Q : VK} (hu : X.A.units < cLine) (I : Inv X pins σ H s) (hb : H b = some (.tup (k.map kV))) (hp : H p = some (.dT [])) (ry : L2.RelV y vy) (q : Q (.ref p) (upd H p (.dT [(k, y)]))) :
    wpAny (model X.prog X.w) X.A (storeAll p [(Value.ref b, vy)]) (fun _ s2 => EP X pins σ Q (Value.ref p) s2) X.xe s := by
  have hb' := key_of I.hok hb
  obtain ⟨_, hne, xs, kt, hm⟩ := dt_of I.hok hp
  have hx : xs = [] := by
    have := kt.length
    exact List.length_eq_zero_iff.mp this.symm
  subst hx
  have room : (tupleKind (mixKind X.prog X.w)).room X.A := hu
  have hc : CarriesH (tupleKind (mixKind X.prog X.w)) s.heap [(Value.ref b, vy)] [(k, b, vy)] := by
    unfold CarriesH
    exact ⟨rfl, rfl, hb', by unfold CarriesH; trivial⟩
  have hx : storedAllH ([] : List (List Key × Addr × Value)) [(k, b, vy)] = [(k, b, vy)] := rfl
  have hsz : ([] : List (List Key × Addr × Value)).length + [(k, b, vy)].length ≤ sizeLine := by rw [sizeLine_eq]; exact (by decide : 1 ≤ 16777216)
  unfold storeAll
  refine wpAny_storeAllH room _ _ _ _ _ hc hm hsz fun h' tk hm' sb => ?_
  rw [hx] at hm'
  obtain ⟨o, es, ep, g1, g2, g3, g4, g5, g6⟩ := hm'
  refine ⟨.ref p, upd H p (.dT [(k, y)]), d_write (t' := tk) I (by rw [hp]; trivial) sb ⟨o, g1⟩ ?_, rfl, q⟩
  have nb : b ≠ p := fun e => by rw [e, hp] at hb; cases hb
  have h1 : upd H p (.dT [(k, y)]) b = some (.tup (k.map kV)) := (upd_ne nb).trans hb
  have kt1 : KT (upd H p (.dT [(k, y)])) [(k, y)] [(k, b, vy)] := .cons ⟨rfl, h1, ry⟩ .nil
  have z1 : ([(k, y)] : List (List Key × V)).length ≤ sizeLine := by
    show 1 ≤ sizeLine
    rw [sizeLine_eq]; decide
  exact ⟨z1, hne, _, kt1, _, _, _, g1, g2, g3, g4, g6⟩
theorem pair1 {p : V × V} {vs : List (Value × Value)} (h : VV [p] vs) : ∃ q, vs = [q] ∧ L2.RelV p.1 q.1 ∧ L2.RelV p.2 q.2 := by
  cases h with
  | cons h t => cases t with
    | nil => exact ⟨_, rfl, h.1, h.2⟩
theorem pe_dispT {k v : Expr} {pos : Pos} {tk tv : TE} (hk : PE X k tk) (hv : PE X v tv) (hu : X.A.units + 1 < cLine) : PE X (.Dict [some k] [v] pos) (tDispT tk tv) := by
  refine ⟨fun pins s σ H Q I hq => ?_⟩
  have hf : H s.heap.objs.size = none := I.fresh
  refine wpAny_Dict_any rfl rfl (by simp) (by simp) ?_
  have I0 : Inv X pins σ (upd H s.heap.objs.size (.dT [])) { s with heap := s.heap.push { cls := Value.type "dict", data := Data.dict #[] } } :=
    I.laid (t' := s.toks) (fun b u e => Heap.get?_push_of_some _ e) (Nat.le_refl _) (dt_empty _ I.big)
  refine thn ((pps_cons hk hv pps_nil).run pins _ σ _ (qDispT s.heap.objs.size Q) I0 (hq _ hf)) fun vs s1 ⟨ps, H', I1, r, q⟩ => ?_
  match ps, r, q with
  | [(x, y)], r, q =>
    obtain ⟨b, k, rfl, hb, hp, q⟩ := q
    obtain ⟨⟨vk, vy⟩, rfl, r1, r2⟩ := pair1 r
    cases (show vk = Value.ref b from r1)
    exact storeT (Nat.lt_of_succ_lt hu) I1 hb hp r2 q
end
/-! ### what two lattices have in common -/
def sp_meet_of (K : PySem.W.Frag) : Sp := fun vs H Q _ => ∃ (k l : Bool) (a b : Addr) (n M : Nat) (xs ys : List V) (R S : List (List Int)), vs = [.ref a, .ref b, .int (n : Nat)] ∧ SqK K k H a xs ∧ RowsK K H xs R ∧ SqK K l H b ys ∧ RowsK K H ys S ∧ 1 ≤ n ∧ n + n ≤ 100 ∧ R.length ≤ 300 ∧ S.length ≤ 300 ∧
  (∀ r ∈ R, r.length = n ∧ Hn.bnd M (Hn.fv r)) ∧ (∀ r ∈ S, r.length = n ∧ Hn.bnd M (Hn.fv r)) ∧ 1 ≤ M ∧ rm (n + n) M ∧
  ∀ (H' : Hp) (p : Addr) (as : List Addr) (C : List (List Int)), Ex H H' → H' p = some (.tup (as.map V.ref)) → RowsIn H' as C → Hn.Hnf n (fun v => Hn.Sp (Hn.RL R) v ∧ Hn.Sp (Hn.RL S) v) C → (∀ r ∈ C, r.length = n ∧ Hn.bnd (Hn.hB (n + n) M) (Hn.fv r)) → Q (.ref p) H'
end Hg
namespace Hn
theorem fv_dbl {n : Nat} {r : List Int} (hr : r.length = n) (j : Nat) : fv (r ++ r) j = if j < n then fv r j else fv r (j - n) := by
  by_cases h : j < n
  · rw [if_pos h]
    exact fv_at (by rw [List.getElem?_append_left (by omega)]; exact fv_get (by omega))
  · rw [if_neg h]
    by_cases h2 : j < n + n
    · exact fv_at (by rw [List.getElem?_append_right (by omega), hr]; exact fv_get (by omega))
    · rw [fv_out (by simp; omega), fv_out (by omega)]
theorem meet_iff {n : Nat} {R S : List (List Int)} (hR : ∀ r ∈ R, r.length = n) (hS : ∀ r ∈ S, r.length = n) (v : Vc) :
    Sp (RL (R.map (fun r => r ++ r) ++ S.map (padL n))) (shift n v) ↔ Sp (RL R) v ∧ Sp (RL S) v := by
  have z : ∀ {T : List (List Int)}, (∀ r ∈ T, r.length = n) → ∀ {w}, Sp (RL T) w → ∀ j, n ≤ j → w j = 0 := fun hT w hw j hj => hw.at0 fun u hu => by
    obtain ⟨r, hr, rfl⟩ := hu
    exact fv_out (by rw [hT r hr]; exact hj)
  constructor
  · intro h
    have key : ∀ u, Sp (RL (R.map (fun r => r ++ r) ++ S.map (padL n))) u → ∃ w x, Sp (RL R) w ∧ Sp (RL S) x ∧ (∀ j, j < n → u j = w j + x j) ∧ (∀ j, u (n + j) = w j) := by
      intro u hu
      induction hu with
      | zero => exact ⟨_, _, .zero, .zero, fun _ _ => rfl, fun _ => rfl⟩
      | @add a b k ha _ ih =>
        obtain ⟨w, x, hw, hx, h1, h2⟩ := ih
        obtain ⟨q, hq, rfl⟩ := ha
        rcases List.mem_append.mp hq with hq | hq
        · obtain ⟨r, hr, rfl⟩ := List.mem_map.mp hq
          refine ⟨fun j => k * fv r j + w j, x, .add k ⟨r, hr, rfl⟩ hw, hx, fun j hj => ?_, fun j => ?_⟩
          · show k * fv (r ++ r) j + b j = k * fv r j + w j + x j
            rw [fv_dbl (hR r hr), if_pos hj, h1 j hj]; omega
          · show k * fv (r ++ r) (n + j) + b (n + j) = k * fv r j + w j
            rw [fv_dbl (hR r hr), if_neg (by omega), Nat.add_sub_cancel_left, h2 j]
        · obtain ⟨r, hr, rfl⟩ := List.mem_map.mp hq
          refine ⟨w, fun j => k * fv r j + x j, hw, .add k ⟨r, hr, rfl⟩ hx, fun j hj => ?_, fun j => ?_⟩
          · show k * fv (padL n r) j + b j = w j + (k * fv r j + x j)
            rw [fv_pad, h1 j hj]; omega
          · show k * fv (padL n r) (n + j) + b (n + j) = w j
            rw [fv_pad, h2 j, fv_out (l := r) (by rw [hS r hr]; omega)]; omega
    obtain ⟨w, x, hw, hx, h1, h2⟩ := key _ h
    have ew : ∀ j, v j = w j := fun j => by
      have := h2 j
      unfold shift at this
      rwa [if_neg (by omega), Nat.add_sub_cancel_left] at this
    refine ⟨hw.cast fun j => (ew j).symm, (hx.mul (-1)).cast fun j => ?_⟩
    by_cases hj : j < n
    · have := h1 j hj
      unfold shift at this
      rw [if_pos hj] at this
      have := ew j
      omega
    · have a := z hS hx j (by omega)
      have b := z hR hw j (by omega)
      rw [ew j, a, b]; rfl
  · rintro ⟨h1, h2⟩
    have a : ∀ {u}, Sp (RL R) u → Sp (RL (R.map (fun r => r ++ r) ++ S.map (padL n))) (fun j => u j + shift n u j) := by
      intro u hu
      induction hu with
      | zero => exact Sp.zero.cast fun j => by unfold shift; split <;> rfl
      | @add p q k hp _ ih =>
        obtain ⟨r, hr, rfl⟩ := hp
        refine (Sp.add k ⟨r ++ r, List.mem_append.mpr (.inl (List.mem_map.mpr ⟨r, hr, rfl⟩)), rfl⟩ ih).cast fun j => ?_
        show k * fv (r ++ r) j + (q j + shift n q j) = (k * fv r j + q j) + shift n (fun j => k * fv r j + q j) j
        rw [fv_dbl (hR r hr)]
        unfold shift
        by_cases hj : j < n
        · rw [if_pos hj, if_pos hj, if_pos hj]; omega
        · rw [if_neg hj, if_neg hj, if_neg hj]
          have e0 : fv r j = 0 := fv_out (by rw [hR r hr]; omega)
          rw [e0]
          dsimp only
          omega
    have b : Sp (RL (R.map (fun r => r ++ r) ++ S.map (padL n))) v := h2.mono fun u hu => by
      obtain ⟨r, hr, rfl⟩ := hu
      exact ⟨padL n r, List.mem_append.mpr (.inr (List.mem_map.mpr ⟨r, hr, rfl⟩)), fv_pad.symm⟩
    exact ((a h1).comb 1 (-1) b).cast fun j => by omega
end Hn

set_option maxHeartbeats 4000000
namespace Hn
/-! ### all residues of a lattice's vectors, as a search finds them -/
def stepL (b : Nat) (v r : List Int) : List Int := List.zipWith (fun x y => (x + y) % (b : Int)) v r
def inC (n b : Nat) (v : List Int) : Prop := v.length = n ∧ ∀ x ∈ v, 0 ≤ x ∧ x < (b : Int)
def Clo (n b : Nat) (R : List (List Int)) (v : List Int) : Prop := inC n b v ∧ ∃ u, Sp (RL R) u ∧ ∀ j, j < n → fv v j = u j % (b : Int)
theorem inC.at_ {n b : Nat} {v : List Int} (h : inC n b v) {j : Nat} (hj : j < n) : 0 ≤ fv v j ∧ fv v j < (b : Int) := by
  have hl : j < v.length := by rw [h.1]; exact hj
  have : v[j]? = some v[j] := List.getElem?_eq_getElem hl
  rw [fv_at this]
  exact h.2 _ (List.getElem_mem _)
theorem step_at {b : Nat} {v r : List Int} {n j : Nat} (hv : v.length = n) (hr : r.length = n) (hj : j < n) : fv (stepL b v r) j = (fv v j + fv r j) % (b : Int) := by
  refine fv_at ?_
  unfold stepL
  rw [List.getElem?_zipWith, fv_get (show j < v.length by omega), fv_get (show j < r.length by omega)]
theorem step_inC {b : Nat} {v r : List Int} {n : Nat} (hb : 0 < b) (hv : v.length = n) (hr : r.length = n) : inC n b (stepL b v r) := by
  refine ⟨by unfold stepL; rw [List.length_zipWith]; omega, fun x hx => ?_⟩
  unfold stepL at hx
  obtain ⟨i, hi⟩ := List.mem_iff_getElem?.mp hx
  rw [List.getElem?_zipWith] at hi
  match h1 : v[i]?, h2 : r[i]?, hi with
  | some x1, some y1, hi =>
    cases hi
    exact ⟨Int.emod_nonneg _ (by omega), Int.emod_lt_of_pos _ (by omega)⟩
theorem step_clo {b n : Nat} {R : List (List Int)} {v r : List Int} (hb : 0 < b) (h : Clo n b R v) (hr : r ∈ R) (hl : r.length = n) : Clo n b R (stepL b v r) := by
  obtain ⟨h1, u, hu, e⟩ := h
  refine ⟨step_inC hb h1.1 hl, fun j => 1 * u j + 1 * fv r j, hu.comb 1 1 (.of ⟨r, hr, rfl⟩), fun j hj => ?_⟩
  rw [step_at h1.1 hl hj, e j hj]
  simp
theorem clo_zero {b n : Nat} {R : List (List Int)} (hb : 0 < b) : Clo n b R (List.replicate n 0) := by
  refine ⟨⟨List.length_replicate, fun x hx => by rw [List.eq_of_mem_replicate hx]; omega⟩, _, .zero, fun j hj => ?_⟩
  rw [fv_at (x := 0) (by rw [List.getElem?_replicate, if_pos hj])]
  simp
/-- closed under every step: all residues are in it -/
theorem clo_all {b n : Nat} {R S : List (List Int)} (hb : 0 < b) (hl : ∀ r ∈ R, r.length = n) (hS : ∀ v ∈ S, inC n b v) (h0 : List.replicate n 0 ∈ S) (hc : ∀ v ∈ S, ∀ r ∈ R, stepL b v r ∈ S) {v : List Int} (h : Clo n b R v) : v ∈ S := by
  have ext : ∀ {v w : List Int}, inC n b v → inC n b w → (∀ j, j < n → fv v j = fv w j) → v = w := fun h1 h2 e => fv_ext (by rw [h1.1, h2.1]) fun j => by
    by_cases hj : j < n
    · exact e j hj
    · rw [fv_out (by rw [h1.1]; omega), fv_out (by rw [h2.1]; omega)]
  have many : ∀ (r : List Int), r ∈ R → ∀ (t : Nat) (v : List Int), v ∈ S → ∃ w ∈ S, ∀ j, j < n → fv w j = (fv v j + t * fv r j) % (b : Int) := by
    intro r hr t
    induction t with
    | zero => exact fun v hv => ⟨v, hv, fun j hj => by
        obtain ⟨a1, a2⟩ := (hS v hv).at_ hj
        rw [Int.emod_eq_of_lt (by simpa using a1) (by simpa using a2)]; simp⟩
    | succ t ih =>
      intro v hv
      obtain ⟨w, hw, e⟩ := ih v hv
      refine ⟨stepL b w r, hc w hw r hr, fun j hj => ?_⟩
      rw [step_at (hS w hw).1 (hl r hr) hj, e j hj, Int.emod_add_emod]
      congr 1
      have : ((t + 1 : Nat) : Int) = (t : Int) + 1 := by omega
      rw [this]
      grind
  obtain ⟨hv, u, hu, e⟩ := h
  have key : ∀ u, Sp (RL R) u → ∃ w ∈ S, ∀ j, j < n → fv w j = u j % (b : Int) := by
    intro u hu
    induction hu with
    | zero => exact ⟨_, h0, fun j hj => by rw [fv_at (x := 0) (by rw [List.getElem?_replicate, if_pos hj])]; simp⟩
    | @add x y k hx _ ih =>
      obtain ⟨r, hr, rfl⟩ := hx
      obtain ⟨w, hw, e⟩ := ih
      obtain ⟨t, ht⟩ : ∃ t : Nat, (t : Int) = k % (b : Int) := ⟨(k % (b : Int)).toNat, by have := Int.emod_nonneg k (show (b : Int) ≠ 0 by omega); omega⟩
      obtain ⟨w2, hw2, e2⟩ := many r hr t w hw
      refine ⟨w2, hw2, fun j hj => ?_⟩
      rw [e2 j hj, e j hj, ht, Int.emod_add_emod]
      show (y j + k % ↑b * fv r j) % ↑b = (k * fv r j + y j) % ↑b
      rw [Int.add_comm (k * fv r j), Int.add_emod, Int.mul_emod, Int.emod_emod, ← Int.mul_emod, ← Int.add_emod]
  obtain ⟨w, hw, e2⟩ := key u hu
  rw [ext hv (hS w hw) fun j hj => by rw [e j hj, e2 j hj]]
  exact hw
theorem nd_len {α : Type} [DecidableEq α] : ∀ {S C : List α}, S.Nodup → (∀ v ∈ S, v ∈ C) → S.length ≤ C.length
  | [], C, _, _ => Nat.zero_le _
  | x :: S, C, nd, h => by
    obtain ⟨h1, h2⟩ := List.nodup_cons.mp nd
    have hx := h x (by simp)
    have := nd_len (C := C.erase x) h2 fun v hv => (List.mem_erase_of_ne (fun e : v = x => h1 (e ▸ hv))).mpr (h v (by simp [hv]))
    rw [List.length_erase_of_mem hx] at this
    have : 0 < C.length := List.length_pos_of_mem hx
    simp only [List.length_cons]
    omega
structure CI (n b : Nat) (R S Q : List (List Int)) (P : List Int → Prop) : Prop where
  mem : ∀ v ∈ S, Clo n b R v
  nd : S.Nodup
  sub : ∀ q ∈ Q, q ∈ S
  zero : List.replicate n 0 ∈ S
  cl : ∀ v ∈ S, v ∈ Q ∨ P v ∨ ∀ r ∈ R, stepL b v r ∈ S
theorem CI.start {n b : Nat} {R : List (List Int)} (hb : 0 < b) : CI n b R [List.replicate n 0] [List.replicate n 0] fun _ => False :=
  ⟨fun v hv => by rw [List.mem_singleton.mp hv]; exact clo_zero hb, by simp, fun _ h => h, by simp, fun v hv => .inl hv⟩
theorem CI.pop {n b : Nat} {R S Q : List (List Int)} {q : List Int} (h : CI n b R S (Q ++ [q]) fun _ => False) : CI n b R S Q (fun v => v = q) ∧ q ∈ S :=
  ⟨⟨h.mem, h.nd, fun x hx => h.sub x (by simp [hx]), h.zero, fun v hv => by
    rcases h.cl v hv with h1 | h1 | h1
    · rcases List.mem_append.mp h1 with h1 | h1
      · exact .inl h1
      · exact .inr (.inl (List.mem_singleton.mp h1))
    · exact h1.elim
    · exact .inr (.inr h1)⟩, h.sub q (by simp)⟩
theorem CI.more {n b : Nat} {R S Q : List (List Int)} {P : List Int → Prop} {x : List Int} (h : CI n b R S Q P) (hx : Clo n b R x) (n0 : x ∉ S) : CI n b R (S ++ [x]) (Q ++ [x]) P := by
  refine ⟨fun v hv => (List.mem_append.mp hv).elim (h.mem v) fun e => List.mem_singleton.mp e ▸ hx, ?_, fun q hq => ?_, by simp [h.zero], fun v hv => ?_⟩
  · refine List.nodup_append.mpr ⟨h.nd, by simp, fun a ha c hc e => n0 ?_⟩
    rw [← List.mem_singleton.mp hc, ← e]; exact ha
  · rcases List.mem_append.mp hq with h1 | h1
    · simp [h.sub q h1]
    · simp [List.mem_singleton.mp h1]
  · rcases List.mem_append.mp hv with h1 | h1
    · rcases h.cl v h1 with h2 | h2 | h2
      · exact .inl (by simp [h2])
      · exact .inr (.inl h2)
      · exact .inr (.inr fun r hr => by simp [h2 r hr])
    · exact .inl (by simp [List.mem_singleton.mp h1])
theorem CI.done {n b : Nat} {R S Q : List (List Int)} {q : List Int} (h : CI n b R S Q (fun v => v = q)) (hq : ∀ r ∈ R, stepL b q r ∈ S) : CI n b R S Q fun _ => False :=
  ⟨h.mem, h.nd, h.sub, h.zero, fun v hv => by
    rcases h.cl v hv with h1 | h1 | h1
    · exact .inl h1
    · exact .inr (.inr (h1 ▸ hq))
    · exact .inr (.inr h1)⟩
theorem CI.all {n b : Nat} {R S : List (List Int)} (hb : 0 < b) (hl : ∀ r ∈ R, r.length = n) (h : CI n b R S [] fun _ => False) (v : List Int) : v ∈ S ↔ Clo n b R v :=
  ⟨h.mem v, clo_all hb hl (fun v hv => (h.mem v hv).1) h.zero fun v hv => (h.cl v hv).elim (fun e => by simp at e) fun e => e.elim (fun e => e.elim) id⟩
end Hn
namespace Hg
open PySem PySem.Spec PyProof.Rows L2
theorem mem_cube {b : Nat} : ∀ {n : Nat} {v : List Int}, Hn.inC n b v → v ∈ cubeL 0 b n
  | 0, v, h => by
    have : v = [] := List.length_eq_zero_iff.mp h.1
    subst this
    simp [cubeL]
  | n + 1, v, h => by
    obtain ⟨x, u, rfl⟩ : ∃ x u, v = u ++ [x] := ⟨v.getLast (fun e => by have := h.1; simp [e] at this), v.dropLast, (List.dropLast_concat_getLast _).symm⟩
    have hl : u.length = n := by have := h.1; simpa using this
    obtain ⟨x0, x1⟩ := h.2 x (by simp)
    refine List.mem_flatMap.mpr ⟨u, mem_cube ⟨hl, fun y hy => h.2 y (by simp [hy])⟩, List.mem_map.mpr ⟨x.toNat, List.mem_range.mpr (by omega), ?_⟩⟩
    rw [show (0 : Int) + (x.toNat : Int) = x by omega]
theorem ci_len {n b : Nat} {R S Q : List (List Int)} {P : List Int → Prop} (h : Hn.CI n b R S Q P) : S.length ≤ b ^ n := by
  rw [← cube_card (lo := 0)]
  exact Hn.nd_len h.nd fun v hv => mem_cube (h.mem v hv).1
/-! ### a dict of tuples of numbers as a set -/
def keyI (v : List Int) : List Key := v.map Sum.inl
theorem keyI_V (v : List Int) : (keyI v).map kV = iV v := by unfold keyI; rw [List.map_map]; rfl
theorem keyI_inj : ∀ {u v : List Int}, keyI u = keyI v → u = v
  | [], [], _ => rfl
  | [], _ :: _, h => by simp [keyI] at h
  | _ :: _, [], h => by simp [keyI] at h
  | x :: u, y :: v, h => by
    have h : (Sum.inl x :: keyI u : List Key) = Sum.inl y :: keyI v := h
    injection h with h1 h2
    injection h1 with h1
    rw [h1, keyI_inj h2]
def setD (S : List (List Int)) : List (List Key × V) := S.map fun v => (keyI v, V.bl true)
theorem valV_set (S : List (List Int)) (v : List Int) : (valV (setD S) (keyI v)).isSome = decide (v ∈ S) := by
  induction S with
  | nil => rfl
  | cons x S ih =>
    unfold setD valV at *
    rw [List.map_cons, List.find?_cons]
    by_cases h : keyI x = keyI v
    · have := keyI_inj h
      subst this
      simp
    · have : x ≠ v := fun e => h (by rw [e])
      rw [decide_eq_false h]
      simp only [List.mem_cons]
      rw [ih]
      simp [Ne.symm this]
theorem valV_none {S : List (List Int)} {v : List Int} (h : v ∉ S) : valV (setD S) (keyI v) = none := by
  have := valV_set S v
  rw [decide_eq_false h] at this
  cases e : valV (setD S) (keyI v) with
  | none => rfl
  | some x => rw [e] at this; cases this
theorem put_set {S : List (List Int)} {v : List Int} (h : v ∉ S) : putK (setD S) (keyI v) (V.bl true) = setD (S ++ [v]) := by
  have n : ((setD S).any fun kv => decide (kv.1 = keyI v)) = false := by
    rw [List.any_eq_false]
    intro kv hkv e
    obtain ⟨u, hu, rfl⟩ := List.mem_map.mp hkv
    exact h (keyI_inj (of_decide_eq_true e) ▸ hu)
  unfold putK
  rw [n, if_neg (by decide)]
  unfold setD
  rw [List.map_append]
  rfl
def sp_l_closed (K : PySem.W.Frag) : Sp := fun vs H Q _ => ∃ (k : Bool) (a : Addr) (n b : Nat) (xs : List V) (R : List (List Int)), vs = [.ref a, .int (b : Nat)] ∧ SqK K k H a xs ∧ RowsK K H xs R ∧ 1 ≤ R.length ∧ R.length ≤ 100 ∧ 1 ≤ n ∧ n ≤ 3 ∧ 2 ≤ b ∧ b ≤ 6 ∧ (∀ r ∈ R, r.length = n ∧ ∀ x ∈ r, x.natAbs ≤ 100) ∧
  ∀ (H' : Hp) (p : Addr) (S : List (List Int)), Ex H H' → H p = none → H' p = some (.dT (setD S)) → (∀ v, v ∈ S ↔ Hn.Clo n b R v) → Q (.ref p) H'
end Hg
namespace Hn
/-- multiples of b times the unit vectors -/
def unitB (n b : Nat) : List (List Int) := (List.range n).map fun k => (List.range n).map fun j => if j = k then (b : Int) else 0
theorem unitB_at {n b k : Nat} (hk : k < n) : (unitB n b)[k]? = some ((List.range n).map fun j => if j = k then (b : Int) else 0) := by
  unfold unitB
  rw [List.getElem?_map, List.getElem?_range hk]
  rfl
theorem fv_unitB {n b k : Nat} (j : Nat) (hk : k < n) : fv ((List.range n).map fun j => if j = k then (b : Int) else 0) j = if j = k then (b : Int) else 0 := by
  by_cases hj : j < n
  · exact fv_at (by rw [List.getElem?_map, List.getElem?_range hj]; rfl)
  · rw [fv_out (by simp; omega), if_neg (by omega)]
theorem unitB_sp {n b : Nat} {w : Vc} (h0 : ∀ j, n ≤ j → w j = 0) : Sp (RL (unitB n b)) fun j => (b : Int) * w j := by
  have := Sp.sum (R := RL (unitB n b)) (T := fun k => fv ((List.range n).map fun j => if j = k then (b : Int) else 0)) w (m := n) fun k hk => .of ⟨_, List.mem_of_getElem? (unitB_at hk), rfl⟩
  refine this.cast fun j => ?_
  by_cases hj : j < n
  · rw [sm_one (j := j) hj fun k hk ne => by rw [fv_unitB j hk, if_neg (Ne.symm ne), Int.mul_zero], fv_unitB j hj, if_pos rfl, Int.mul_comm]
  · rw [h0 j (by omega), sm_zero fun k hk => by rw [fv_unitB j hk, if_neg (by omega), Int.mul_zero]]
    simp
theorem clo_in {n b : Nat} {R : List (List Int)} (hU : ∀ r ∈ unitB n b, r ∈ R) (hl : ∀ r ∈ R, r.length = n) {v : List Int} (hv : inC n b v) : Clo n b R v ↔ Sp (RL R) (fv v) := by
  have z : ∀ {w}, Sp (RL R) w → ∀ j, n ≤ j → w j = 0 := fun hw j hj => hw.at0 fun u hu => by
    obtain ⟨r, hr, rfl⟩ := hu
    exact fv_out (by rw [hl r hr]; exact hj)
  constructor
  · rintro ⟨_, u, hu, e⟩
    have m : Sp (RL R) fun j => (b : Int) * (u j / (b : Int)) := (unitB_sp (w := fun j => u j / (b : Int)) fun j hj => by show u j / _ = 0; rw [z hu j hj]; simp).mono fun x ⟨r, hr, e⟩ => ⟨r, hU r hr, e⟩
    refine (hu.comb 1 (-1) m).cast fun j => ?_
    by_cases hj : j < n
    · rw [e j hj]
      have := Int.emod_add_mul_ediv (u j) (b : Int)
      omega
    · rw [z hu j (by omega), fv_out (by rw [hv.1]; omega)]
      simp
  · intro h
    refine ⟨hv, _, h, fun j hj => ?_⟩
    obtain ⟨a, c⟩ := hv.at_ hj
    rw [Int.emod_eq_of_lt a c]
theorem app_sp {R R' S S' : List (List Int)} (h1 : ∀ v, Sp (RL R) v ↔ Sp (RL R') v) (h2 : ∀ v, Sp (RL S) v ↔ Sp (RL S') v) (v : Vc) : Sp (RL (R ++ S)) v ↔ Sp (RL (R' ++ S')) v := by
  have key : ∀ {A B A' B' : List (List Int)}, (∀ v, Sp (RL A) v → Sp (RL A') v) → (∀ v, Sp (RL B) v → Sp (RL B') v) → Sp (RL (A ++ B)) v → Sp (RL (A' ++ B')) v := fun h1 h2 h => h.trans fun u ⟨r, hr, e⟩ => by
    subst e
    rcases List.mem_append.mp hr with hr | hr
    · exact (h1 _ (.of ⟨r, hr, rfl⟩)).mono fun x ⟨q, hq, e⟩ => ⟨q, List.mem_append.mpr (.inl hq), e⟩
    · exact (h2 _ (.of ⟨r, hr, rfl⟩)).mono fun x ⟨q, hq, e⟩ => ⟨q, List.mem_append.mpr (.inr hq), e⟩
  exact ⟨key (fun v => (h1 v).mp) (fun v => (h2 v).mp), key (fun v => (h1 v).mpr) (fun v => (h2 v).mpr)⟩
theorem app_comm {R S : List (List Int)} (v : Vc) : Sp (RL (R ++ S)) v ↔ Sp (RL (S ++ R)) v := by
  have key : ∀ {R S : List (List Int)}, Sp (RL (R ++ S)) v → Sp (RL (S ++ R)) v := fun h => h.mono fun x ⟨r, hr, e⟩ => ⟨r, (List.mem_append.mp hr).elim (fun h => List.mem_append.mpr (.inr h)) fun h => List.mem_append.mpr (.inl h), e⟩
  exact ⟨key, key⟩
end Hn
namespace Hg
open PySem PySem.Spec PyProof.Rows L2
/-- lists of rows that stand beside la -/
def AllL (G : Hp) (la : Addr) (ls : List Addr) (Rs : List (List (List Int))) : Prop := ls.length = Rs.length ∧ ∀ (j : Nat) (l : Addr) (R : List (List Int)), ls[j]? = some l → Rs[j]? = some R → l ≠ la ∧ ∃ as : List Addr, G l = some (.lst (as.map V.ref)) ∧ RowsIn G as R
theorem AllL.nil {G : Hp} {la : Addr} : AllL G la [] [] := ⟨rfl, fun j l R h => by simp at h⟩
theorem AllL.ex {G G' : Hp} {la : Addr} {ls : List Addr} {Rs : List (List (List Int))} (h : AllL G la ls Rs) (e : Ex G G') : AllL G' la ls Rs :=
  ⟨h.1, fun j l R h1 h2 => by obtain ⟨n, as, a, b⟩ := h.2 j l R h1 h2; exact ⟨n, as, e _ _ a, b.mono fun x ys h => e _ _ h⟩⟩
theorem AllL.snoc {G : Hp} {la l : Addr} {ls as : List Addr} {Rs : List (List (List Int))} {R : List (List Int)} (h : AllL G la ls Rs) (n : l ≠ la) (a : G l = some (.lst (as.map V.ref))) (b : RowsIn G as R) : AllL G la (ls ++ [l]) (Rs ++ [R]) := by
  refine ⟨by simp [h.1], fun j l' R' h1 h2 => ?_⟩
  by_cases hj : j < ls.length
  · rw [List.getElem?_append_left hj] at h1
    rw [List.getElem?_append_left (by rw [← h.1]; exact hj)] at h2
    exact h.2 j l' R' h1 h2
  · rw [List.getElem?_append_right (by omega)] at h1
    rw [List.getElem?_append_right (by rw [← h.1]; omega), ← h.1] at h2
    have z : j - ls.length = 0 := by
      by_cases z : j - ls.length = 0
      · exact z
      · rw [List.getElem?_eq_none (by simp only [List.length_cons, List.length_nil]; omega)] at h1; cases h1
    rw [z] at h1 h2
    cases h1
    cases h2
    exact ⟨n, as, a, b⟩
theorem AllL.put {G : Hp} {la : Addr} {ls : List Addr} {Rs : List (List (List Int))} {ys zs : List V} (h : AllL G la ls Rs) (hl : G la = some (.lst ys)) : AllL (upd G la (.lst zs)) la ls Rs :=
  ⟨h.1, fun j l R h1 h2 => by obtain ⟨n, as, a, b⟩ := h.2 j l R h1 h2; exact ⟨n, as, (upd_ne n).trans a, b.mono fun x ys h => tk_put hl x ys h⟩⟩
end Hg

namespace Hn
/-! ### a frame of vectors and forms; lattices by moduli -/
def gt (U : List (List Int)) (i : Nat) : Vc := fv (U.getD i [])
theorem gt_set {U : List (List Int)} {a j : Nat} {x : List Int} (ha : a < U.length) : gt (U.set a x) j = if j = a then fv x else gt U j := by
  unfold gt
  rw [List.getD_eq_getElem?_getD, List.getElem?_set]
  by_cases h : j = a
  · rw [if_pos h.symm, if_pos h, if_pos ha]; rfl
  · rw [if_neg (Ne.symm h), if_neg h, List.getD_eq_getElem?_getD]
theorem gt_at {U : List (List Int)} {i : Nat} {u : List Int} (h : U[i]? = some u) : gt U i = fv u := by
  unfold gt
  rw [List.getD_eq_getElem?_getD, h]; rfl
def smallR (n : Nat) (u : List Int) : Prop := u.length = n ∧ ∀ x ∈ u, x.natAbs ≤ 99
structure Frm (n : Nat) (U F : List (List Int)) : Prop where
  ul : U.length = n
  fl : F.length = n
  us : ∀ u ∈ U, smallR n u
  fs : ∀ u ∈ F, smallR n u
  du : ∀ i j, i < n → j < n → dv n (gt F i) (gt U j) = if i = j then 1 else 0
theorem dv_addr {n : Nat} {f u v : Vc} {k : Int} : dv n f (fun j => k * u j + v j) = k * dv n f u + dv n f v := dv_comb
theorem dv_comm {n : Nat} {f u : Vc} : dv n f u = dv n u f := sm_congr fun _ _ => Int.mul_comm _ _
theorem dv_addl {n : Nat} {f u v : Vc} {k : Int} : dv n (fun j => k * u j + v j) f = k * dv n u f + dv n v f := by
  rw [dv_comm, dv_comb, dv_comm (f := f), dv_comm (f := f)]
theorem unitB_len {n b : Nat} : (unitB n b).length = n := by simp [unitB]
theorem gt_unit {n i : Nat} (hi : i < n) : gt (unitB n 1) i = fun j => if j = i then 1 else 0 := by
  rw [gt_at (unitB_at hi)]
  exact funext fun j => fv_unitB j hi
theorem unit_small {n : Nat} : ∀ u ∈ unitB n 1, smallR n u := fun u hu => by
  obtain ⟨k, _, rfl⟩ := List.mem_map.mp hu
  refine ⟨by simp, fun x hx => ?_⟩
  obtain ⟨j, _, rfl⟩ := List.mem_map.mp hx
  split <;> decide
theorem Frm.start {n : Nat} : Frm n (unitB n 1) (unitB n 1) := by
  refine ⟨unitB_len, unitB_len, unit_small, unit_small, fun i j hi hj => ?_⟩
  rw [gt_unit hi, gt_unit hj]
  unfold dv
  by_cases h : i = j
  · subst h
    rw [if_pos rfl, sm_one hi fun k _ ne => by (show (if k = i then (1 : Int) else 0) * (if k = i then 1 else 0) = 0; rw [if_neg ne]; simp)]
    simp
  · rw [if_neg h]
    refine sm_zero fun k hk => ?_
    show (if k = i then (1 : Int) else 0) * (if k = j then 1 else 0) = 0
    by_cases hk : k = i
    · rw [if_neg (show ¬ k = j by omega), Int.mul_zero]
    · rw [if_neg hk, Int.zero_mul]
theorem mem_set' {U : List (List Int)} {a : Nat} {x y : List Int} (h : y ∈ U.set a x) : y ∈ U ∨ y = x := (List.mem_or_eq_of_mem_set h)
theorem Frm.neg {n : Nat} {U F : List (List Int)} (h : Frm n U F) {a : Nat} (ha : a < n) {u f : List Int} (hu : U[a]? = some u) (hf : F[a]? = some f) :
    Frm n (U.set a (u.map fun e => 0 - e)) (F.set a (f.map fun e => 0 - e)) := by
  have ng : ∀ {u : List Int}, smallR n u → smallR n (u.map fun e => 0 - e) := fun h => ⟨by rw [List.length_map, h.1], fun x hx => by
    obtain ⟨e, he, rfl⟩ := List.mem_map.mp hx
    have := h.2 e he; omega⟩
  have fg : ∀ {u : List Int}, fv (u.map fun e => 0 - e) = fun j => (-1) * fv u j + 0 := fun {u} => funext fun j => by
    by_cases hj : j < u.length
    · rw [fv_at (x := 0 - u[j]) (by rw [List.getElem?_map, List.getElem?_eq_getElem hj]; rfl), fv_at (List.getElem?_eq_getElem hj)]; omega
    · rw [fv_out (by rw [List.length_map]; omega), fv_out (by omega)]; rfl
  have z : ∀ g : Vc, dv n g (fun _ => 0) = 0 := fun g => sm_zero fun _ _ => by simp
  have su := h.us u (List.mem_of_getElem? hu)
  have sf := h.fs f (List.mem_of_getElem? hf)
  refine ⟨by rw [List.length_set, h.ul], by rw [List.length_set, h.fl], fun y hy => (mem_set' hy).elim (h.us y) fun e => e ▸ ng su, fun y hy => (mem_set' hy).elim (h.fs y) fun e => e ▸ ng sf, fun i j hi hj => ?_⟩
  have d := h.du i j hi hj
  rw [gt_set (by rw [h.fl]; exact ha), gt_set (by rw [h.ul]; exact ha)]
  by_cases e1 : i = a
  · rw [if_pos e1]
    subst e1
    rw [gt_at hf] at d
    by_cases e2 : j = i
    · rw [if_pos e2]
      subst e2
      rw [gt_at hu] at d
      rw [fg, fg, dv_addr, dv_addl, z]
      rw [dv_comm (f := fun _ => 0), z, d]
      simp
    · rw [if_neg e2, fg, dv_addl, dv_comm (f := fun _ => 0), z, d, if_neg (Ne.symm e2)]
      rfl
  · rw [if_neg e1]
    by_cases e2 : j = a
    · rw [if_pos e2]
      subst e2
      rw [gt_at hu] at d
      rw [fg, dv_addr, z, d, if_neg e1]
      rfl
    · rw [if_neg e2]; exact d
theorem Frm.step {n : Nat} {U F : List (List Int)} (h : Frm n U F) {a b : Nat} (ha : a < n) (hb : b < n) (ne : a ≠ b) {k : Int} {ua ub fa fb : List Int} (hua : U[a]? = some ua) (hub : U[b]? = some ub) (hfa : F[a]? = some fa) (hfb : F[b]? = some fb)
    (su : smallR n (plusL k ub ua)) (sf : smallR n (plusL (0 - k) fa fb)) : Frm n (U.set a (plusL k ub ua)) (F.set b (plusL (0 - k) fa fb)) := by
  have l1 := (h.us ua (List.mem_of_getElem? hua)).1
  have l2 := (h.us ub (List.mem_of_getElem? hub)).1
  have l3 := (h.fs fa (List.mem_of_getElem? hfa)).1
  have l4 := (h.fs fb (List.mem_of_getElem? hfb)).1
  have gu : fv (plusL k ub ua) = fun j => k * gt U b j + gt U a j := funext fun j => by rw [gt_at hua, gt_at hub, fv_plus (by omega)]
  have gf : fv (plusL (0 - k) fa fb) = fun j => (0 - k) * gt F a j + gt F b j := funext fun j => by rw [gt_at hfa, gt_at hfb, fv_plus (by omega)]
  refine ⟨by rw [List.length_set, h.ul], by rw [List.length_set, h.fl], fun y hy => (mem_set' hy).elim (h.us y) fun e => e ▸ su, fun y hy => (mem_set' hy).elim (h.fs y) fun e => e ▸ sf, fun i j hi hj => ?_⟩
  rw [gt_set (by rw [h.fl]; exact hb), gt_set (by rw [h.ul]; exact ha), gu, gf]
  by_cases e1 : i = b
  · rw [if_pos e1]
    subst e1
    by_cases e2 : j = a
    · rw [if_pos e2]
      subst e2
      rw [dv_addr, dv_addl, dv_addl, h.du j i hj hi, h.du i i hi hi, h.du j j hj hj, h.du i j hi hj, if_neg ne, if_pos rfl, if_pos rfl, if_neg (Ne.symm ne)]
      omega
    · rw [if_neg e2, dv_addl, h.du a j ha hj, h.du i j hi hj, if_neg (Ne.symm e2)]
      omega
  · rw [if_neg e1]
    by_cases e2 : j = a
    · rw [if_pos e2]
      subst e2
      rw [dv_addr, h.du i b hi hb, h.du i j hi hj, if_neg e1]
      omega
    · rw [if_neg e2]; exact h.du i j hi hj
/-- the multiples of a frame's vectors by their moduli, none for 0 -/
def timesL : List Int → List (List Int) → List (List Int)
  | d :: ds, u :: us => if d = 0 then timesL ds us else (u.map fun e => d * e) :: timesL ds us
  | _, _ => []
theorem fv_times {d : Int} {u : List Int} : fv (u.map fun e => d * e) = fun j => d * fv u j := funext fun j => by
  by_cases hj : j < u.length
  · rw [fv_at (x := d * u[j]) (by rw [List.getElem?_map, List.getElem?_eq_getElem hj]; rfl), fv_at (List.getElem?_eq_getElem hj)]
  · rw [fv_out (by rw [List.length_map]; omega), fv_out (by omega), Int.mul_zero]
theorem times_mem {t : List Int} : ∀ {ds : List Int} {us : List (List Int)}, t ∈ timesL ds us ↔ ∃ (i : Nat) (d : Int) (u : List Int), ds[i]? = some d ∧ us[i]? = some u ∧ d ≠ 0 ∧ t = u.map fun e => d * e
  | [], us => by simp [timesL]
  | d :: ds, [] => by simp [timesL]
  | d :: ds, u :: us => by
    have ih := times_mem (t := t) (ds := ds) (us := us)
    have e : t ∈ timesL (d :: ds) (u :: us) ↔ (d ≠ 0 ∧ t = u.map fun e => d * e) ∨ t ∈ timesL ds us := by
      show t ∈ (if d = 0 then timesL ds us else (u.map fun e => d * e) :: timesL ds us) ↔ _
      by_cases h : d = 0
      · rw [if_pos h]; simp [h]
      · rw [if_neg h, List.mem_cons]; simp [h]
    rw [e, ih]
    constructor
    · rintro (⟨h1, h2⟩ | ⟨i, d', u', h1, h2, h3⟩)
      · exact ⟨0, d, u, rfl, rfl, h1, h2⟩
      · exact ⟨i + 1, d', u', by simpa using h1, by simpa using h2, h3⟩
    · rintro ⟨i, d', u', h1, h2, h3⟩
      cases i with
      | zero => cases h1; cases h2; exact .inl h3
      | succ i => exact .inr ⟨i, d', u', by simpa using h1, by simpa using h2, h3⟩
theorem times_snoc {d : Int} {u : List Int} : ∀ {ds : List Int} {us : List (List Int)}, ds.length = us.length → timesL (ds ++ [d]) (us ++ [u]) = timesL ds us ++ (if d = 0 then [] else [u.map fun e => d * e])
  | [], [], _ => by simp [timesL]
  | [], _ :: _, h => by simp at h
  | _ :: _, [], h => by simp at h
  | c :: ds, v :: us, h => by
    have ih := times_snoc (d := d) (u := u) (ds := ds) (us := us) (by simpa using h)
    show (if c = 0 then timesL (ds ++ [d]) (us ++ [u]) else (v.map fun e => c * e) :: timesL (ds ++ [d]) (us ++ [u])) = (if c = 0 then timesL ds us else (v.map fun e => c * e) :: timesL ds us) ++ _
    rw [ih]
    by_cases hc : c = 0
    · rw [if_pos hc, if_pos hc]
    · rw [if_neg hc, if_neg hc]; rfl
/-- a lattice by its coordinates in the frame -/
theorem lat_iff {n : Nat} {ds : List Int} {U : List (List Int)} (hd : ds.length = n) (hU : U.length = n) (v : Vc) :
    Sp (RL (timesL ds U)) v ↔ ∃ t : Nat → Int, (∀ i, i < n → ds.getD i 0 ∣ t i) ∧ ∀ j, v j = sm n fun i => t i * gt U i j := by
  constructor
  · intro h
    induction h with
    | zero => exact ⟨fun _ => 0, fun i _ => Int.dvd_zero _, fun j => (sm_zero fun i _ => by simp).symm⟩
    | @add x y k hx _ ih =>
      obtain ⟨r, hr, rfl⟩ := hx
      obtain ⟨t, h1, h2⟩ := ih
      obtain ⟨i, d, u, a1, a2, a3, rfl⟩ := times_mem.mp hr
      have hi : i < n := by rw [← hd]; exact (List.getElem?_eq_some_iff.mp a1).1
      have ed : ds.getD i 0 = d := by rw [List.getD_eq_getElem?_getD, a1]; rfl
      refine ⟨fun s => (if s = i then k * d else 0) + t s, fun s hs => ?_, fun j => ?_⟩
      · refine Int.dvd_add ?_ (h1 s hs)
        by_cases e : s = i
        · rw [if_pos e, e, ed]; exact Int.dvd_mul_left _ _
        · rw [if_neg e]; exact Int.dvd_zero _
      · show k * fv (u.map fun e => d * e) j + y j = sm n fun s => ((if s = i then k * d else 0) + t s) * gt U s j
        have e1 : (sm n fun s => ((if s = i then k * d else 0) + t s) * gt U s j) = k * d * gt U i j + sm n fun s => t s * gt U s j := by
          rw [sm_congr (g := fun s => (if s = i then k * d else 0) * gt U s j + t s * gt U s j) fun s _ => Int.add_mul _ _ _, sm_add, sm_one (j := i) hi fun s _ ne => by rw [if_neg ne, Int.zero_mul], if_pos rfl]
        rw [e1, h2 j, fv_times, gt_at a2, Int.mul_assoc]
  · rintro ⟨t, h1, h2⟩
    have key : ∀ i, i < n → Sp (RL (timesL ds U)) fun j => t i * gt U i j := fun i hi => by
      have a1 : ds[i]? = some (ds[i]'(by omega)) := List.getElem?_eq_getElem (by omega)
      have a2 : U[i]? = some (U[i]'(by omega)) := List.getElem?_eq_getElem (by omega)
      generalize ds[i]'(by omega) = d at a1
      generalize U[i]'(by omega) = u at a2
      have ed : ds.getD i 0 = d := by rw [List.getD_eq_getElem?_getD, a1]; rfl
      obtain ⟨q, hq⟩ := h1 i hi
      rw [ed] at hq
      by_cases d0 : d = 0
      · exact Sp.zero.cast fun j => by rw [hq, d0]; simp
      · refine ((Sp.of ⟨_, times_mem.mpr ⟨i, d, u, a1, a2, d0, rfl⟩, rfl⟩ : Sp (RL (timesL ds U)) _).mul q).cast fun j => ?_
        rw [fv_times, hq, gt_at a2]
        grind
    have := Sp.sum (R := RL (timesL ds U)) (T := fun i j => t i * gt U i j) (fun _ => 1) (m := n) fun i hi => key i hi
    exact this.cast fun j => by rw [h2 j]; exact sm_congr fun i _ => by rw [Int.one_mul]
theorem Frm.coord {n : Nat} {U F : List (List Int)} (h : Frm n U F) {t : Nat → Int} {v : Vc} (e : ∀ j, v j = sm n fun i => t i * gt U i j) {a : Nat} (ha : a < n) : dv n (gt F a) v = t a := by
  have : dv n (gt F a) v = sm n fun i => t i * dv n (gt F a) (gt U i) := by
    unfold dv
    rw [sm_congr (g := fun j => sm n fun i => gt F a j * (t i * gt U i j)) fun j _ => by rw [e j, sm_mul], sm_swap]
    refine sm_congr fun i _ => ?_
    rw [← sm_mul]
    exact sm_congr fun j _ => by grind
  rw [this, sm_one ha fun i hi ne => by rw [h.du a i ha hi, if_neg (Ne.symm ne), Int.mul_zero], h.du a a ha ha, if_pos rfl, Int.mul_one]
/-! ### the new modulus -/
def newerF (d c m : Int) : Int := if c = 0 ∨ d = 0 then d else if m = 0 then 0 else (d * (m / (Int.gcd c m : Int))) / (Int.gcd d (m / (Int.gcd c m : Int)) : Int)
theorem dvd_gcd_red {m c t : Nat} (hm : 0 < m) : m ∣ c * t ↔ m / Nat.gcd c m ∣ t := by
  have g0 : 0 < Nat.gcd c m := Nat.gcd_pos_of_pos_right _ hm
  obtain ⟨c', hc⟩ := Nat.gcd_dvd_left c m
  obtain ⟨m', hm'⟩ := Nat.gcd_dvd_right c m
  have cop : Nat.Coprime m' c' := by
    have := Nat.coprime_div_gcd_div_gcd (m := c) (n := m) g0
    have e1 : c / Nat.gcd c m = c' := Nat.div_eq_of_eq_mul_right g0 hc
    have e2 : m / Nat.gcd c m = m' := Nat.div_eq_of_eq_mul_right g0 hm'
    rw [e1, e2] at this
    exact this.symm
  have e2 : m / Nat.gcd c m = m' := Nat.div_eq_of_eq_mul_right g0 hm'
  rw [e2]
  generalize Nat.gcd c m = g at *
  subst hc
  rw [hm', Nat.mul_assoc, Nat.mul_dvd_mul_iff_left g0]
  exact ⟨fun h => Nat.Coprime.dvd_of_dvd_mul_left cop h, fun h => Nat.dvd_mul_left_of_dvd h _⟩
theorem newer_iff {d c m t : Int} (hd : 0 ≤ d) (hm : 0 ≤ m) : (d ∣ t ∧ m ∣ c * t) ↔ newerF d c m ∣ t := by
  unfold newerF
  by_cases h1 : c = 0 ∨ d = 0
  · rw [if_pos h1]
    refine ⟨fun h => h.1, fun h => ⟨h, ?_⟩⟩
    rcases h1 with h1 | h1
    · rw [h1, Int.zero_mul]; exact Int.dvd_zero _
    · rw [h1] at h
      rw [Int.zero_dvd.mp h, Int.mul_zero]; exact Int.dvd_zero _
  · rw [if_neg h1]
    have c0 : c ≠ 0 := fun e => h1 (.inl e)
    have d0 : d ≠ 0 := fun e => h1 (.inr e)
    by_cases h2 : m = 0
    · rw [if_pos h2, h2, Int.zero_dvd, Int.zero_dvd]
      constructor
      · rintro ⟨_, h⟩
        exact (Int.mul_eq_zero.mp h).resolve_left c0
      · intro h; rw [h]; exact ⟨Int.dvd_zero _, Int.mul_zero _⟩
    · rw [if_neg h2]
      obtain ⟨D, rfl⟩ := Int.eq_ofNat_of_zero_le hd
      obtain ⟨m1, rfl⟩ := Int.eq_ofNat_of_zero_le hm
      have m0 : 0 < m1 := by omega
      have D0 : 0 < D := by omega
      have eg : (Int.gcd c (m1 : Int) : Nat) = Nat.gcd c.natAbs m1 := by simp [Int.gcd]
      rw [eg]
      have e1 : ((m1 : Int) / ((Nat.gcd c.natAbs m1 : Nat) : Int)) = ((m1 / Nat.gcd c.natAbs m1 : Nat) : Int) := (Int.natCast_ediv _ _).symm
      rw [e1]
      have h3 := dvd_gcd_red (m := m1) (c := c.natAbs) (t := t.natAbs) m0
      generalize m1 / Nat.gcd c.natAbs m1 = m2 at *
      have e2 : Int.gcd (D : Int) (m2 : Int) = Nat.gcd D m2 := by simp [Int.gcd]
      rw [e2, ← Int.natCast_mul, ← Int.natCast_ediv]
      have a1 : ((m1 : Nat) : Int) ∣ c * t ↔ m2 ∣ t.natAbs := by
        rw [← Int.natAbs_dvd_natAbs, Int.natAbs_mul]
        exact h3
      rw [a1]
      have a2 : ((D : Nat) : Int) ∣ t ↔ D ∣ t.natAbs := by rw [← Int.natAbs_dvd_natAbs]; rfl
      have a3 : ((D * m2 / Nat.gcd D m2 : Nat) : Int) ∣ t ↔ Nat.lcm D m2 ∣ t.natAbs := by rw [← Int.natAbs_dvd_natAbs]; rfl
      rw [a2, a3, Nat.lcm_dvd_iff]
/-- the numbers that moduli divide -/
def okM (L : Int) (d : Int) : Prop := 0 ≤ d ∧ (d = 0 ∨ d ∣ L)
theorem newer_ok {L d c m : Int} (hd : okM L d) (hm : okM L m) : okM L (newerF d c m) := by
  by_cases h0 : newerF d c m = 0
  · exact ⟨by omega, .inl h0⟩
  have nn : 0 ≤ newerF d c m := by
    unfold newerF
    split
    · exact hd.1
    · split
      · omega
      · exact Int.ediv_nonneg (Int.mul_nonneg hd.1 (Int.ediv_nonneg hm.1 (Int.natCast_nonneg _))) (Int.natCast_nonneg _)
  refine ⟨nn, .inr ((newer_iff hd.1 hm.1).mp ⟨?_, ?_⟩)⟩
  · rcases hd.2 with h | h
    · exfalso; apply h0; unfold newerF; rw [if_pos (.inr h), h]
    · exact h
  · rcases hm.2 with h | h
    · by_cases hc : c = 0
      · rw [hc, Int.zero_mul]; exact Int.dvd_zero _
      · exfalso; apply h0
        unfold newerF
        by_cases h1 : c = 0 ∨ d = 0
        · rw [if_pos h1]
          rcases h1 with h1 | h1
          · exact absurd h1 hc
          · exact h1
        · rw [if_neg h1, if_pos h]
    · exact Int.dvd_mul_of_dvd_right h
/-- a restriction by one form of the frame -/
theorem Frm.restrict {n : Nat} {U F : List (List Int)} (h : Frm n U F) {ds : List Int} (hd : ds.length = n) {a : Nat} (ha : a < n) {c m : Int} (h0 : 0 ≤ ds.getD a 0) (hm : 0 ≤ m) (v : Vc) :
    (Sp (RL (timesL ds U)) v ∧ m ∣ dv n (fun j => c * gt F a j) v) ↔ Sp (RL (timesL (ds.set a (newerF (ds.getD a 0) c m)) U)) v := by
  have gs : ∀ x i, (ds.set a x).getD i 0 = if i = a then x else ds.getD i 0 := fun x i => by
    rw [List.getD_eq_getElem?_getD, List.getElem?_set, List.getD_eq_getElem?_getD]
    by_cases e : i = a
    · rw [if_pos e.symm, if_pos e, if_pos (by omega)]; rfl
    · rw [if_neg (Ne.symm e), if_neg e]
  have val : ∀ {t : Nat → Int}, (∀ j, v j = sm n fun i => t i * gt U i j) → dv n (fun j => c * gt F a j) v = c * t a := fun e => by
    rw [← h.coord e ha]
    unfold dv
    rw [← sm_mul]
    exact sm_congr fun j _ => by grind
  rw [lat_iff hd h.ul, lat_iff (by rw [List.length_set, hd]) h.ul]
  constructor
  · rintro ⟨⟨t, h1, h2⟩, h3⟩
    rw [val h2] at h3
    refine ⟨t, fun i hi => ?_, h2⟩
    rw [gs]
    by_cases e : i = a
    · rw [if_pos e, e]
      exact (newer_iff h0 hm).mp ⟨h1 a ha, h3⟩
    · rw [if_neg e]; exact h1 i hi
  · rintro ⟨t, h1, h2⟩
    have ta := h1 a ha
    rw [gs, if_pos rfl] at ta
    obtain ⟨b1, b2⟩ := (newer_iff h0 hm).mpr ta
    refine ⟨⟨t, fun i hi => ?_, h2⟩, by rw [val h2]; exact b2⟩
    by_cases e : i = a
    · rw [e]; exact b1
    · have := h1 i hi
      rwa [gs, if_neg e] at this
theorem lat_bnd {n : Nat} {U F : List (List Int)} (h : Frm n U F) {ds : List Int} (hd : ds.length = n) {L : Nat} (hL : 1 ≤ L) (ok : ∀ d ∈ ds, okM L d) {C : List (List Int)} (hC : Hnf n (Sp (RL (timesL ds U))) C) : ∀ r ∈ C, bnd (pinB L n 99) (fv r) := by
  refine hC.pinch (R := fun u => ∃ i, i < n ∧ ds.getD i 0 ≠ 0 ∧ u = gt U i) hL (by decide) (fun u hu => ?_) (fun v hv => ?_) fun u hu => ?_
  · obtain ⟨i, hi, _, rfl⟩ := hu
    have a2 : U[i]? = some (U[i]'(by rw [h.ul]; exact hi)) := List.getElem?_eq_getElem _
    rw [gt_at a2]
    exact Hg.bnd_of (h.us _ (List.getElem_mem _)).2
  · refine hv.trans fun u ⟨r, hr, e⟩ => ?_
    subst e
    obtain ⟨i, d, u, a1, a2, a3, rfl⟩ := times_mem.mp hr
    have ed : ds.getD i 0 = d := by rw [List.getD_eq_getElem?_getD, a1]; rfl
    refine ((Sp.of ⟨i, by rw [← hd]; exact (List.getElem?_eq_some_iff.mp a1).1, by rw [ed]; exact a3, rfl⟩ : Sp _ (gt U i)).mul d).cast fun j => ?_
    rw [fv_times, gt_at a2]
  · obtain ⟨i, hi, hd0, rfl⟩ := hu
    have a1 : ds[i]? = some (ds[i]'(by omega)) := List.getElem?_eq_getElem (by omega)
    have a2 : U[i]? = some (U[i]'(by rw [h.ul]; exact hi)) := List.getElem?_eq_getElem _
    generalize hdd : ds[i]'(by omega) = d at a1
    generalize U[i]'(by rw [h.ul]; exact hi) = u at a2
    have ed : ds.getD i 0 = d := by rw [List.getD_eq_getElem?_getD, a1]; rfl
    rw [ed] at hd0
    obtain ⟨q, hq⟩ := (ok d (List.mem_of_getElem? a1)).2.resolve_left hd0
    refine ((Sp.of ⟨_, times_mem.mpr ⟨i, d, u, a1, a2, hd0, rfl⟩, rfl⟩ : Sp (RL (timesL ds U)) _).mul q).cast fun j => ?_
    rw [fv_times, gt_at a2, hq]
    grind
end Hn

set_option maxHeartbeats 4000000
namespace Hn
/-! ### a lattice restricted by a form -/
theorem restr_iff {n : Nat} {R : List (List Int)} {f : Vc} {z : Int} (hR : ∀ r ∈ R, r.length = n) (v : Vc) :
    Sp (RL (R.map (fun r => dv n f (fv r) :: r) ++ [z :: List.replicate n 0])) (shift 1 v) ↔ Sp (RL R) v ∧ z ∣ dv n f v := by
  have c0 : ∀ {x : Int} {r : List Int}, fv (x :: r) 0 = x := fun {x r} => fv_at rfl
  have c1 : ∀ {x : Int} {r : List Int} {j : Nat}, fv (x :: r) (j + 1) = fv r j := fun {x r j} => by
    by_cases h : j < r.length
    · exact fv_at (by rw [List.getElem?_cons_succ]; exact fv_get h)
    · rw [fv_out (by simp; omega), fv_out (by omega)]
  have rz : ∀ j, fv (List.replicate n (0 : Int)) j = 0 := fun j => by
    by_cases h : j < n
    · exact fv_at (by rw [List.getElem?_replicate, if_pos h])
    · exact fv_out (by simp; omega)
  have s0 : ∀ {v : Vc}, shift 1 v 0 = 0 := fun {v} => if_pos (by decide)
  have s1 : ∀ {v : Vc} {j : Nat}, shift 1 v (j + 1) = v j := fun {v j} => shift_hi
  constructor
  · intro h
    have key : ∀ u, Sp (RL (R.map (fun r => dv n f (fv r) :: r) ++ [z :: List.replicate n 0])) u → ∃ (w : Vc) (k : Int), Sp (RL R) w ∧ u 0 = dv n f w + k * z ∧ ∀ j, u (j + 1) = w j := by
      intro u hu
      induction hu with
      | zero => exact ⟨_, 0, .zero, by unfold dv; rw [sm_zero fun i _ => by simp]; simp, fun _ => rfl⟩
      | @add a b k ha _ ih =>
        obtain ⟨w, q, hw, h1, h2⟩ := ih
        obtain ⟨r', hr', rfl⟩ := ha
        rcases List.mem_append.mp hr' with hr' | hr'
        · obtain ⟨r, hr, rfl⟩ := List.mem_map.mp hr'
          refine ⟨fun j => k * fv r j + w j, q, .add k ⟨r, hr, rfl⟩ hw, ?_, fun j => ?_⟩
          · show k * fv (_ :: r) 0 + b 0 = _
            rw [c0, h1, dv_comb]; omega
          · show k * fv (_ :: r) (j + 1) + b (j + 1) = _
            rw [c1, h2]
        · rw [List.mem_singleton.mp hr']
          refine ⟨w, k + q, hw, ?_, fun j => ?_⟩
          · show k * fv (z :: _) 0 + b 0 = _
            rw [c0, h1, Int.add_mul]; omega
          · show k * fv (z :: _) (j + 1) + b (j + 1) = _
            rw [c1, h2, rz]; omega
    obtain ⟨w, k, hw, h1, h2⟩ := key _ h
    have e : v = w := funext fun j => by rw [← h2 j, s1]
    subst e
    rw [s0] at h1
    exact ⟨hw, ⟨-k, by rw [Int.mul_neg, Int.mul_comm]; omega⟩⟩
  · rintro ⟨h1, q, hq⟩
    have a : ∀ {u}, Sp (RL R) u → Sp (RL (R.map (fun r => dv n f (fv r) :: r) ++ [z :: List.replicate n 0])) (fun j => if j = 0 then dv n f u else u (j - 1)) := by
      intro u hu
      induction hu with
      | zero =>
        refine Sp.zero.cast fun j => ?_
        by_cases hj : j = 0
        · rw [if_pos hj]; unfold dv; rw [sm_zero fun i _ => by simp]
        · rw [if_neg hj]
      | @add p q k hp _ ih =>
        obtain ⟨r, hr, rfl⟩ := hp
        refine (Sp.add k ⟨_, List.mem_append.mpr (.inl (List.mem_map.mpr ⟨r, hr, rfl⟩)), rfl⟩ ih).cast fun j => ?_
        show k * fv (dv n f (fv r) :: r) j + (if j = 0 then dv n f q else q (j - 1)) = if j = 0 then dv n f (fun j => k * fv r j + q j) else k * fv r (j - 1) + q (j - 1)
        cases j with
        | zero => rw [c0, if_pos rfl, if_pos rfl, dv_comb]
        | succ j => rw [c1, if_neg (by omega), if_neg (by omega), Nat.add_sub_cancel]
    have b : Sp (RL (R.map (fun r => dv n f (fv r) :: r) ++ [z :: List.replicate n 0])) (fv (z :: List.replicate n 0)) := .of ⟨_, List.mem_append.mpr (.inr (by simp)), rfl⟩
    refine ((a h1).comb 1 (-q) b).cast fun j => ?_
    cases j with
    | zero => rw [c0, s0, if_pos rfl, hq]; rw [Int.mul_comm z q]; grind
    | succ j => rw [c1, s1, rz, if_neg (by omega), Nat.add_sub_cancel]; omega
end Hn
namespace Hg
open PySem PySem.Spec PyProof.Rows L2
def sp_restrict (K : PySem.W.Frag) : Sp := fun vs H Q _ => ∃ (k l : Bool) (a b : Addr) (n A B M : Nat) (z : Int) (xs : List V) (R : List (List Int)) (f : List Int), vs = [.ref a, .ref b, .int z] ∧ SqK K k H a xs ∧ RowsK K H xs R ∧ SqK K l H b (iV f) ∧ f.length = n ∧ 1 ≤ n ∧ 1 + n ≤ 100 ∧ R.length ≤ 300 ∧
  (∀ r ∈ R, r.length = n ∧ Hn.bnd B (Hn.fv r)) ∧ Hn.bnd A (Hn.fv f) ∧ sm8 A ∧ sm8 B ∧ n * (A * B) ≤ M ∧ B ≤ M ∧ z.natAbs ≤ M ∧ 1 ≤ M ∧ rm (1 + n) M ∧
  ∀ (H' : Hp) (p : Addr) (as : List Addr) (C : List (List Int)), Ex H H' → H' p = some (.tup (as.map V.ref)) → RowsIn H' as C → Hn.Hnf n (fun v => Hn.Sp (Hn.RL R) v ∧ z ∣ Hn.dv n (Hn.fv f) v) C → (∀ r ∈ C, r.length = n ∧ Hn.bnd (Hn.hB (1 + n) M) (Hn.fv r)) → Q (.ref p) H'
def sp_l_common (_ : PySem.W.Frag) : Sp := fun vs H Q _ => ∃ a b : Int, vs = [.int a, .int b] ∧ ∀ H', Ex H H' → Q (.int ((Int.gcd a b : Nat) : Int)) H'
def sp_l_newer (_ : PySem.W.Frag) : Sp := fun vs H Q _ => ∃ d c m : Int, vs = [.int d, .int c, .int m] ∧ 0 ≤ d ∧ 0 ≤ m ∧ d.natAbs < 2 ^ 1000 ∧ m.natAbs < 2 ^ 1000 ∧ ∀ H', Ex H H' → Q (.int (Hn.newerF d c m)) H'
def modM : List Int := [1, 1, 2, 3, 4, 6, 0, 12, 5, 9, 30, 720720]
def sp_l_moduli (_ : PySem.W.Frag) : Sp := fun vs H Q _ => ∃ (s q : Addr) (B n : Nat) (G : Hp), vs = [.ref s, .int (n : Nat)] ∧ n ≤ 12 ∧ Ov s q B G H ∧ B < 800000 ∧
  ∀ (p : Addr) (ds : List Int) (G' H' : Hp), Ex G G' → G p = none → Ov s q (B + 12) G' H' → G' p = some (.lst (iV ds)) → ds.length = n → (∀ d ∈ ds, d ∈ modM) → Q (.ref p) H'
def sp_l_times (K : PySem.W.Frag) : Sp := fun vs H Q _ => ∃ (a b : Addr) (n : Nat) (ds : List Int) (as : List Addr) (U : List (List Int)), vs = [.ref a, .ref b] ∧ H a = some (.lst (iV ds)) ∧ H b = some (.lst (as.map V.ref)) ∧ RowsIn H as U ∧ ds.length = U.length ∧ U.length ≤ 100 ∧ (∀ u ∈ U, u.length = n) ∧ n ≤ 100 ∧ (∀ d ∈ ds, bg d) ∧ (∀ u ∈ U, ∀ x ∈ u, bg x) ∧
  ∀ (H' : Hp) (p : Addr) (bs : List Addr), Ex H H' → H p = none → H' p = some (.lst (bs.map V.ref)) → RowsIn H' bs (Hn.timesL ds U) → Q (.ref p) H'
def sp_l_frame (_ : PySem.W.Frag) : Sp := fun vs H Q _ => ∃ (s q : Addr) (B n : Nat) (G : Hp), vs = [.ref s, .int (n : Nat)] ∧ 1 ≤ n ∧ n ≤ 12 ∧ Ov s q B G H ∧ B < 700000 ∧
  ∀ (p va fa : Addr) (as fs : List Addr) (U F : List (List Int)) (G' H' : Hp), Ex G G' → Ov s q (B + 120) G' H' → G' p = some (.tup [.ref va, .ref fa]) → va ≠ fa → G' va = some (.lst (as.map V.ref)) → RowsIn G' as U → G' fa = some (.lst (fs.map V.ref)) → RowsIn G' fs F → Hn.Frm n U F → Q (.ref p) H'
/-- a list of rows, or one row, as it is or as lists -/
def FlatN (G G' : Hp) (p : Addr) (ns : List Int) : Prop := G p = none ∧ G' p = some (.lst (iV ns))
def sp_l_listedM (K : PySem.W.Frag) : Sp := fun vs H Q E => sp_l_listedN K vs H Q E ∨ ∃ (s q : Addr) (B : Nat) (G : Hp) (k : Bool) (a : Addr) (ns : List Int), vs = [.ref s, .ref a] ∧ Ov s q B G H ∧ B < 900000 ∧ SqK K k G a (iV ns) ∧ ns.length ≤ 1000 ∧
  ∀ (G' H' : Hp) (p : Addr), Ex G G' → Ov s q (B + 1) G' H' → (p = a ∨ FlatN G G' p ns) → Q (.ref p) H'
theorem listedM_len {vs : List V} {K : PySem.W.Frag} {H : Hp} {Q : VK} {E : XK} (h : sp_l_listedM K vs H Q E) : vs.length = 2 := by
  rcases h with ⟨_, _, _, _, _, _, _, _, rfl, _⟩ | ⟨_, _, _, _, _, _, _, rfl, _⟩ <;> rfl
theorem kMaxL {X : Cx} {K : PySem.W.Frag} (hc : X.calm = true) (hK : X.K = K := by rfl) : CallR X (.builtin "max") (rMax K) := hK ▸ cr_max hc
theorem RowsIn.setR {H : Hp} {as : List Addr} {R : List (List Int)} (h : RowsIn H as R) {i : Nat} {a : Addr} {r : List Int} (ha : H a = some (.tup (iV r))) : RowsIn H (as.set i a) (R.set i r) := by
  refine ⟨by rw [List.length_set, List.length_set, h.1], fun j b q h1 h2 => ?_⟩
  rw [List.getElem?_set] at h1 h2
  by_cases e : i = j
  · rw [if_pos e] at h1 h2
    split at h1
    · split at h2
      · cases h1; cases h2; exact ha
      · cases h2
    · cases h1
  · rw [if_neg e] at h1 h2
    exact h.2 j b q h1 h2
theorem RowsIn.two {H : Hp} {as : List Addr} {R : List (List Int)} (h : RowsIn H as R) {i : Nat} (hi : i < R.length) : ∃ a r, as[i]? = some a ∧ R[i]? = some r ∧ H a = some (.tup (iV r)) := by
  have h1 : as[i]? = some (as[i]'(by rw [h.1]; exact hi)) := List.getElem?_eq_getElem _
  have h2 : R[i]? = some R[i] := List.getElem?_eq_getElem hi
  exact ⟨_, _, h1, h2, h.2 i _ _ h1 h2⟩
/-! ### what is shown of larger things -/
theorem shw_ints12 {r : List Int} (hr : r.length ≤ 12) (hb : Hn.bnd (2 ^ 1200) (Hn.fv r)) (k : Bool) : Shw (rowD k r) 4500 ∧ (rowD k r).depth ≤ 2 := by
  have hints : ∀ d ∈ r.map PyData.int, Shw d 370 := fun d hd => by
    obtain ⟨i, hi, rfl⟩ := List.mem_map.mp hd
    obtain ⟨j, hj⟩ := List.mem_iff_getElem?.mp hi
    have := hb j
    rw [Hn.fv_at hj] at this
    exact shw_int this
  have s := shw_seq hints k
  have dd := depth_ints r
  rw [List.length_map] at s
  constructor
  · exact ⟨s.s, s.h, Nat.le_trans s.l (by omega)⟩
  · cases k with
    | true => show PyData.depthAll (r.map PyData.int) + 1 ≤ 2; omega
    | false => show PyData.depthAll (r.map PyData.int) + 1 ≤ 2; omega
theorem rows_dp12 {K : PySem.W.Frag} {k : Bool} {H : Hp} {p : Addr} {ys : List V} {rows : List (List Int)} (hs : SqK K k H p ys) (hr : RowsK K H ys rows) (hl : rows.length ≤ 12) (hb : ∀ r ∈ rows, r.length ≤ 12 ∧ Hn.bnd (2 ^ 1200) (Hn.fv r)) : ∃ d, Dp K H (.ref p) d ∧ Shw d 60000 ∧ d.depth ≤ 3 := by
  obtain ⟨ds, hds, ks, rfl, hks⟩ := hr.dp
  have each : ∀ d ∈ List.zipWith rowD ks rows, Shw d 4500 ∧ d.depth ≤ 2 := fun d hd => by
    obtain ⟨k, r, hm, rfl⟩ := mem_zip hd
    obtain ⟨l, bd⟩ := hb r hm
    exact shw_ints12 l bd k
  have s := shw_seq (fun d hd => (each d hd).1) k
  have dd := depthAll_le fun d hd => (each d hd).2
  have zl : (List.zipWith rowD ks rows).length ≤ 12 := by rw [List.length_zipWith]; omega
  refine ⟨if k then PyData.tuple (List.zipWith rowD ks rows) else .list (List.zipWith rowD ks rows), ?_, ⟨s.s, s.h, Nat.le_trans s.l (by omega)⟩, ?_⟩
  · cases k with
    | true => exact .tup hs hds
    | false => exact .lst hs hds
  · cases k with
    | true => show PyData.depthAll _ + 1 ≤ 3; omega
    | false => show PyData.depthAll _ + 1 ≤ 3; omega
theorem flat_dp {K : PySem.W.Frag} {k : Bool} {H : Hp} {p : Addr} {r : List Int} (hs : SqK K k H p (iV r)) (hl : r.length ≤ 12) (hb : Hn.bnd (2 ^ 1200) (Hn.fv r)) : ∃ d, Dp K H (.ref p) d ∧ Shw d 60000 ∧ d.depth ≤ 3 := by
  obtain ⟨a, b⟩ := shw_ints12 hl hb k
  refine ⟨rowD k r, ?_, shw_up a (by decide), by omega⟩
  cases k with
  | true => exact dp_t hs
  | false => exact dp_l hs
theorem shw_top12 {d1 d2 : PyData} (h1 : Shw d1 60000 ∧ d1.depth ≤ 3) (h2 : Shw d2 60000 ∧ d2.depth ≤ 3) : (PyData.list [d1, d2]).showable = true ∧ (PyData.list [d1, d2]).hasDict = false ∧ (PyData.list [d1, d2]).depth ≤ 20 ∧ (PyData.list [d1, d2]).shown.length ≤ sizeLine := by
  have h : ∀ d ∈ [d1, d2], Shw d 60000 ∧ d.depth ≤ 3 := fun d hd => by
    rcases List.mem_cons.mp hd with rfl | hd
    · exact h1
    · rw [List.mem_singleton.mp hd]; exact h2
  have s := shw_seq (fun d hd => (h d hd).1) false
  have dd := depthAll_le fun d hd => (h d hd).2
  refine ⟨s.s, s.h, ?_, Nat.le_trans s.l ?_⟩
  · show PyData.depthAll _ + 1 ≤ 20; omega
  · rw [sizeLine_eq]
    show 2 * 60000 + 2 * 2 + 3 ≤ _
    omega
theorem rm_pow16 {N N' M x : Nat} (hN : N ≤ N') (h8 : N' ≤ 16) (hM : M ≤ 2 ^ x) (h : Hn.zE N' (x + 5) + (Hn.zE N' (x + 5) + 1) * (2 * N' + 4) < 40000000) : rm N M := by
  unfold rm sm8
  refine Hn.rm_le (x := x + 5) ?_ ?_ ?_
  · have : 2 * N * M ≤ 2 ^ 5 * 2 ^ x := Nat.mul_le_mul (by omega) hM
    rw [Nat.pow_add]
    omega
  · exact Nat.le_trans hM (Nat.pow_le_pow_right (by decide) (by omega))
  · have a := Hn.zE_mono hN (Nat.le_refl (x + 5))
    have b : (Hn.zE N (x + 5) + 1) * (2 * N + 4) ≤ (Hn.zE N' (x + 5) + 1) * (2 * N' + 4) := Nat.mul_le_mul (by omega) (by omega)
    omega
end Hg
namespace Hn
theorem times_len : ∀ {ds : List Int} {us : List (List Int)}, (timesL ds us).length ≤ us.length
  | [], us => by simp [timesL]
  | d :: ds, [] => by simp [timesL]
  | d :: ds, u :: us => by
    have ih := times_len (ds := ds) (us := us)
    show (if d = 0 then timesL ds us else (u.map fun e => d * e) :: timesL ds us).length ≤ _
    by_cases h : d = 0
    · rw [if_pos h, List.length_cons]; omega
    · rw [if_neg h, List.length_cons, List.length_cons]; omega
def LcM : Int := 10 ^ 30 * 9009 * 999983
theorem modM_ok : ∀ d ∈ ([1, 1, 2, 3, 4, 6, 0, 12, 5, 9, 30, 720720] : List Int), okM LcM d := by unfold okM LcM; decide
theorem menM_ok : ∀ d ∈ ([0, 1, 2, 3, 4, 6, 8, 12, 45, 720720, 999983, 10 ^ 30] : List Int), okM LcM d := by unfold okM LcM; decide
theorem okM_le {d : Int} (h : okM LcM d) : d.natAbs ≤ 2 ^ 133 := by
  rcases h.2 with h | h
  · rw [h]; exact Nat.zero_le _
  · have := Nat.le_of_dvd (by decide) (Int.natAbs_dvd_natAbs.mpr h)
    exact Nat.le_trans this (by decide)
/-- the rows of a lattice by moduli are short -/
theorem times_bnd {n : Nat} {U : List (List Int)} {ds : List Int} (us : ∀ u ∈ U, smallR n u) (ok : ∀ d ∈ ds, okM LcM d) : ∀ r ∈ timesL ds U, r.length = n ∧ bnd (2 ^ 140) (fv r) := fun r hr => by
  obtain ⟨i, d, u, a1, a2, _, rfl⟩ := times_mem.mp hr
  have su := us u (List.mem_of_getElem? a2)
  refine ⟨by rw [List.length_map, su.1], Hg.bnd_of fun x hx => ?_⟩
  obtain ⟨e, he, rfl⟩ := List.mem_map.mp hx
  rw [Int.natAbs_mul]
  exact Nat.le_trans (Nat.mul_le_mul (okM_le (ok d (List.mem_of_getElem? a1))) (su.2 e he)) (by decide)
theorem lat_bnd12 {n : Nat} {U F : List (List Int)} (h : Frm n U F) (hn : n ≤ 12) {ds : List Int} (hd : ds.length = n) (ok : ∀ d ∈ ds, okM LcM d) {C : List (List Int)} (hC : Hnf n (Sp (RL (timesL ds U))) C) : ∀ r ∈ C, bnd (2 ^ 446) (fv r) := fun r hr => by
  have e : ((10 ^ 30 * 9009 * 999983 : Nat) : Int) = LcM := by unfold LcM; decide
  have := lat_bnd h hd (L := 10 ^ 30 * 9009 * 999983) (by decide) (fun d hd => by rw [e]; exact ok d hd) hC r hr
  refine bnd_mono (Nat.le_trans (pinB_le (y := 12) (e := 133) ?_ (by decide)) (Nat.pow_le_pow_right (by decide) ?_)) this
  · exact Nat.le_trans (Nat.mul_le_mul_right _ (Nat.mul_le_mul_left 2 hn)) (by decide)
  · exact Nat.le_trans (Nat.add_le_add_left (hE_mono hn (Nat.le_refl 12)) _) (by decide)
end Hn
namespace Hg
open PySem PySem.Spec PyProof.Rows L2
/-! ### all but one object -/
def er (G : Hp) (D : Addr) : Hp := fun a => if a = D then none else G a
theorem er_of {G : Hp} {D a : Addr} {o : HO} (n : a ≠ D) (h : G a = some o) : er G D a = some o := by
  unfold er; rw [if_neg n]; exact h
theorem er_none {G : Hp} {D : Addr} : er G D D = none := by unfold er; rw [if_pos rfl]
theorem er_ex {G : Hp} {D : Addr} : Ex (er G D) G := fun a o h => by
  unfold er at h
  split at h
  · cases h
  · exact h
theorem er_tup {G : Hp} {D a : Addr} {xs ys : List V} (d : G D = some (.lst xs)) (h : G a = some (.tup ys)) : er G D a = some (.tup ys) :=
  er_of (fun e => by rw [e, d] at h; cases h) h
/-- a thing of rows, as it stood or as new lists, but for D -/
theorem thing_er {K : PySem.W.Frag} {G2 G3 G : Hp} {D ph pb : Addr} {bas : List Addr} {C : List (List Int)} {xs ys : List V} (d2 : G2 D = some (.lst xs)) (d : G D = some (.lst ys)) (e : Ex G3 G) (hpb : G pb = some (.tup (bas.map V.ref))) (hC : RowsIn G bas C) (h : ph = pb ∨ LstN G2 G3 ph C) :
    ∃ k ys, SqK K k (er G D) ph ys ∧ RowsK K (er G D) ys C := by
  rcases h with rfl | h
  · exact ⟨true, _, SqK.tup (er_tup d hpb), (hC.mono fun a ys h => er_tup d h).k⟩
  · obtain ⟨ys, h1, h2, h3, h4⟩ := (h.d d2).ex e
    exact ⟨false, ys, SqK.lst (er_of h1 h2), h3, fun i y r g1 g2 => by obtain ⟨b, b1, b2, b3⟩ := h4 i y r g1 g2; exact ⟨false, b, b1, SqK.lst (er_of b2 b3)⟩⟩
theorem flat_er {K : PySem.W.Frag} {G2 G3 G : Hp} {D pg pf : Addr} {f : List Int} {xs ys : List V} (d2 : G2 D = some (.lst xs)) (d : G D = some (.lst ys)) (e : Ex G3 G) (hpf : G pf = some (.tup (iV f))) (h : pg = pf ∨ FlatN G2 G3 pg f) :
    ∃ k, SqK K k (er G D) pg (iV f) := by
  rcases h with rfl | ⟨h1, h2⟩
  · exact ⟨true, SqK.tup (er_tup d hpf)⟩
  · exact ⟨false, SqK.lst (er_of (fun z => by rw [z, d2] at h1; cases h1) (e _ _ h2))⟩
end Hg

set_option maxHeartbeats 4000000
namespace Hg
open PySem PySem.Spec PyProof.Rows L2
def sp_bezoutF (_ : PySem.W.Frag) : Sp := fun vs H Q _ => ∃ (a b : Int) (B : Nat), vs = [.int a, .int b] ∧ 0 ≤ a ∧ (a = 0 ∨ b ≠ 0) ∧ a.natAbs + b.natAbs < B ∧ B.log2 < 40000000 ∧
  ∀ (q : Addr) (H' : Hp), Ex H H' → H' q = some (.tup [.int (Hn.bezF a b).1, .int (Hn.bezF a b).2.1, .int (Hn.bezF a b).2.2]) → Q (.ref q) H'
def sp__combinedK (K : PySem.W.Frag) : Sp := fun vs H Q _ => ∃ (k l : Bool) (a b : Addr) (f g : Int) (xs ys : List Int), vs = [.int f, .ref a, .int g, .ref b] ∧ SqK K k H a (iV xs) ∧ SqK K l H b (iV ys) ∧ xs.length = ys.length ∧ xs.length ≤ 1000 ∧ bg f ∧ bg g ∧ (∀ x ∈ xs, bg x) ∧ (∀ y ∈ ys, bg y) ∧
  ∀ (H' : Hp) (p : Addr), Ex H H' → H p = none → H' p = some (.lst (iV (Hn.combL f xs g ys))) → Q (.ref p) H'
/-- the numbers of Euclid's way, where it begins with 0 too -/
def Bzz (a b c d l m : Int) : Prop := Hn.Bz a b c d l m ∨ (a = 0 ∧ ((c = 0 ∧ d = b ∧ l = 1 ∧ m = 0) ∨ (c = b ∧ d = 0 ∧ l = 0 ∧ m = 1)))
theorem Bzz.start {a b : Int} (ha : 0 ≤ a) (h : a = 0 ∨ b ≠ 0) : Bzz a b a b 1 0 := by
  by_cases h0 : a = 0
  · exact .inr ⟨h0, .inl ⟨h0, rfl, rfl, rfl⟩⟩
  · exact .inl (Hn.Bz.start (by omega) (h.resolve_left h0))
theorem Bzz.step {a b c d l m : Int} (z : Bzz a b c d l m) (hd : d ≠ 0) : Bzz a b d (c.fmod d) m (l - c.fdiv d * m) := by
  rcases z with z | ⟨h0, h | h⟩
  · exact .inl (z.step hd)
  · obtain ⟨rfl, rfl, rfl, rfl⟩ := h
    refine .inr ⟨h0, .inr ⟨rfl, Int.zero_fmod _, rfl, ?_⟩⟩
    rw [Int.zero_fdiv]; rfl
  · exact absurd h.2.1 hd
theorem Bzz.lim {a b c d l m : Int} (z : Bzz a b c d l m) : c.natAbs ≤ a.natAbs + b.natAbs ∧ l.natAbs ≤ b.natAbs + 1 := by
  rcases z with z | ⟨h0, h | h⟩
  · exact ⟨z.cb, by have := z.lb; omega⟩
  · obtain ⟨rfl, rfl, rfl, rfl⟩ := h; simp
  · obtain ⟨rfl, rfl, rfl, rfl⟩ := h; simp
def sp_gcd_of (K : PySem.W.Frag) : Sp := fun vs H Q _ => ∃ (k : Bool) (a : Addr) (ns : List Int), vs = [.ref a] ∧ SqK K k H a (ns.map V.int) ∧ Q (.int (gfold ns)) H
end Hg

namespace Hn
/-! ### a vector with a form's value, as a function -/
def solSt (n : Nat) (f : Vc) (s : Int × List Int) (r : List Int) : Int × List Int :=
  if s.1 = 0 ∨ (dv n f (fv r)).fmod s.1 ≠ 0 then ((bezF s.1 (dv n f (fv r))).1, combL (bezF s.1 (dv n f (fv r))).2.1 s.2 (bezF s.1 (dv n f (fv r))).2.2 r) else s
def solGo (n : Nat) (f : Vc) (R : List (List Int)) : Int × List Int := R.foldl (solSt n f) (0, List.replicate n 0)
def solF (n : Nat) (f : Vc) (R : List (List Int)) (v : Int) : Option (List Int) :=
  if (solGo n f R).1 = 0 then (if v = 0 then some (solGo n f R).2 else none) else if v.fmod (solGo n f R).1 = 0 then some ((solGo n f R).2.map fun e => v.fdiv (solGo n f R).1 * e) else none
theorem solGo_snoc {n : Nat} {f : Vc} {R : List (List Int)} {r : List Int} : solGo n f (R ++ [r]) = solSt n f (solGo n f R) r := by
  unfold solGo
  rw [List.foldl_append]
  rfl
structure SI (n W B : Nat) (f : Vc) (P : List (List Int)) (g : Int) (F : List Int) : Prop where
  g0 : 0 ≤ g
  gW : g.natAbs ≤ W
  dvd : ∀ r ∈ P, g ∣ dv n f (fv r)
  sp : Sp (RL P) (fv F)
  val : dv n f (fv F) = g
  len : F.length = n
  bd : bnd (B * (2 + 2 * W) ^ P.length) (fv F)
theorem SI.start {n W B : Nat} {f : Vc} : SI n W B f [] 0 (List.replicate n 0) := by
  have z : fv (List.replicate n (0 : Int)) = fun _ => 0 := funext fun j => by
    by_cases hj : j < n
    · exact fv_at (by rw [List.getElem?_replicate, if_pos hj])
    · exact fv_out (by simp; omega)
  refine ⟨Int.le_refl _, Nat.zero_le _, by simp, by rw [z]; exact .zero, ?_, List.length_replicate, fun j => by rw [z]; exact Nat.zero_le _⟩
  rw [z]
  exact sm_zero fun i _ => by simp
theorem RL_app {P : List (List Int)} {r : List Int} {v : Vc} (h : Sp (RL P) v) : Sp (RL (P ++ [r])) v := h.mono fun x ⟨y, hy, e⟩ => ⟨y, List.mem_append.mpr (.inl hy), e⟩
theorem dv_lin {n : Nat} {f u v : Vc} {a b : Int} : dv n f (fun j => a * u j + b * v j) = a * dv n f u + b * dv n f v := by
  unfold dv
  rw [← sm_mul, ← sm_mul, ← sm_add]
  exact sm_congr fun i _ => by grind
theorem SI.comb {n W B : Nat} {f : Vc} {P : List (List Int)} {g : Int} {F r : List Int} (h : SI n W B f P g F) (hr : r.length = n) (rB : bnd B (fv r)) {g' s t : Int} (h1 : 0 ≤ g') (hW : g'.natAbs ≤ W) (hs : s.natAbs ≤ 1 + W) (ht : t.natAbs ≤ 1 + W)
    (e : s * g + t * dv n f (fv r) = g') (d1 : ∀ x ∈ P, g' ∣ dv n f (fv x)) (d2 : g' ∣ dv n f (fv r)) : SI n W B f (P ++ [r]) g' (combL s F t r) := by
  have hl : F.length = r.length := by rw [h.len, hr]
  have ef : fv (combL s F t r) = fun j => s * fv F j + t * fv r j := funext fun j => fv_comb hl j
  refine ⟨h1, hW, fun x hx => (List.mem_append.mp hx).elim (d1 x) fun hx => by rw [List.mem_singleton.mp hx]; exact d2, ?_, ?_, by rw [len_comb hl, h.len], fun j => ?_⟩
  · rw [ef]
    exact (RL_app h.sp).comb s t (.of ⟨r, by simp, rfl⟩)
  · rw [ef, dv_lin, h.val, e]
  · rw [ef, List.length_append]
    show (s * fv F j + t * fv r j).natAbs ≤ B * (2 + 2 * W) ^ (P.length + 1)
    have a1 : (s * fv F j).natAbs ≤ (1 + W) * (B * (2 + 2 * W) ^ P.length) := by rw [Int.natAbs_mul]; exact Nat.mul_le_mul hs (h.bd j)
    have a2 : (t * fv r j).natAbs ≤ (1 + W) * B := by rw [Int.natAbs_mul]; exact Nat.mul_le_mul ht (rB j)
    have a3 : B ≤ B * (2 + 2 * W) ^ P.length := Nat.le_mul_of_pos_right _ (Nat.pow_pos (by omega))
    have a4 : (1 + W) * B ≤ (1 + W) * (B * (2 + 2 * W) ^ P.length) := Nat.mul_le_mul_left _ a3
    have a5 : B * (2 + 2 * W) ^ (P.length + 1) = (1 + W) * (B * (2 + 2 * W) ^ P.length) + (1 + W) * (B * (2 + 2 * W) ^ P.length) := by
      rw [Nat.pow_succ]; grind
    omega
theorem SI.step {n W B : Nat} {f : Vc} {P : List (List Int)} {g : Int} {F r : List Int} (h : SI n W B f P g F) (hr : r.length = n) (rB : bnd B (fv r)) (wW : (dv n f (fv r)).natAbs ≤ W) :
    SI n W B f (P ++ [r]) (solSt n f (g, F) r).1 (solSt n f (g, F) r).2 := by
  unfold solSt
  dsimp only
  generalize hw : dv n f (fv r) = w at wW
  by_cases c : g = 0 ∨ w.fmod g ≠ 0
  · rw [if_pos c]
    show SI n W B f (P ++ [r]) (bezF g w).1 (combL (bezF g w).2.1 F (bezF g w).2.2 r)
    by_cases h0 : g = 0
    · subst h0
      rw [bezF_zero]
      dsimp only
      have s1 : (if w = 0 then (1 : Int) else 0).natAbs ≤ 1 + W := by split <;> omega
      have t1 : (if w = 0 then (0 : Int) else if w < 0 then -1 else 1).natAbs ≤ 1 + W := by
        split
        · omega
        · split <;> omega
      refine h.comb hr rB (Int.natCast_nonneg _) (by omega) s1 t1 ?_ (fun x hx => ?_) ?_
      · rw [hw]
        split
        · omega
        · split
          · omega
          · omega
      · have := h.dvd x hx
        rw [Int.zero_dvd.mp this]; exact Int.dvd_zero _
      · rw [hw]; exact Int.natAbs_dvd.mpr (Int.dvd_refl _)
    · have gp : 0 < g := by have := h.g0; omega
      have w0 : w ≠ 0 := fun e => by
        rw [e] at c
        exact (c.resolve_left h0) (Int.zero_fmod _)
      obtain ⟨p1, p, q, e1, e2, e3, e4, e5⟩ := bezF_pos gp w0
      generalize (bezF g w).1 = g' at *
      generalize (bezF g w).2.1 = s at *
      generalize (bezF g w).2.2 = t at *
      have gle : g' ≤ g := Int.le_of_dvd gp ⟨p, by rw [Int.mul_comm]; exact e1⟩
      have := h.gW
      refine h.comb hr rB (by omega) (by omega) (by omega) (by omega) (by rw [hw]; exact e3) (fun x hx => Int.dvd_trans ⟨p, by rw [Int.mul_comm]; exact e1⟩ (h.dvd x hx)) ?_
      rw [hw]
      exact ⟨q, by rw [Int.mul_comm]; exact e2⟩
  · rw [if_neg c]
    show SI n W B f (P ++ [r]) g F
    have c1 : g ≠ 0 := fun e => c (.inl e)
    have c2 : w.fmod g = 0 := Classical.byContradiction fun e => c (.inr e)
    refine ⟨h.g0, h.gW, fun x hx => (List.mem_append.mp hx).elim (h.dvd x) fun hx => ?_, RL_app h.sp, h.val, h.len, bnd_mono ?_ h.bd⟩
    · rw [List.mem_singleton.mp hx, hw]
      exact Int.dvd_of_fmod_eq_zero c2
    · rw [List.length_append]
      exact Nat.mul_le_mul_left _ (Nat.pow_le_pow_right (by omega) (by simp))
theorem SI.all {n W B : Nat} {f : Vc} {R : List (List Int)} (hR : ∀ r ∈ R, r.length = n ∧ bnd B (fv r) ∧ (dv n f (fv r)).natAbs ≤ W) : ∀ k, SI n W B f (R.take k) (solGo n f (R.take k)).1 (solGo n f (R.take k)).2
  | 0 => by rw [List.take_zero]; exact SI.start
  | k + 1 => by
    have ih := SI.all hR k
    by_cases hk : k < R.length
    · have hr : R[k]? = some R[k] := List.getElem?_eq_getElem hk
      have e : R.take (k + 1) = R.take k ++ [R[k]] := by rw [List.take_succ, hr]; rfl
      obtain ⟨h1, h2, h3⟩ := hR _ (List.getElem_mem hk)
      rw [e, solGo_snoc]
      exact ih.step h1 h2 h3
    · rw [List.take_of_length_le (by omega)] at ih ⊢
      exact ih
theorem solF_none {n W B : Nat} {f : Vc} {R : List (List Int)} {g v : Int} {F : List Int} (h : SI n W B f R g F) (e : solGo n f R = (g, F)) : solF n f R v = none ↔ ¬ (v = 0 ∨ (g ≠ 0 ∧ g ∣ v)) := by
  unfold solF
  rw [e]
  dsimp only
  by_cases g0 : g = 0
  · rw [if_pos g0]
    by_cases v0 : v = 0
    · rw [if_pos v0]; simp [v0]
    · rw [if_neg v0]; simp [v0, g0]
  · rw [if_neg g0]
    have d : v.fmod g = 0 ↔ g ∣ v := ⟨Int.dvd_of_fmod_eq_zero, fun ⟨q, hq⟩ => by rw [hq, Int.mul_fmod_right]⟩
    by_cases c : v.fmod g = 0
    · rw [if_pos c]
      have := d.mp c
      simp [g0, this]
    · rw [if_neg c]
      have n1 : ¬ g ∣ v := fun z => c (d.mpr z)
      have n2 : v ≠ 0 := fun z => n1 (z ▸ Int.dvd_zero _)
      simp [n1, n2]
theorem solF_some {n W B : Nat} {f : Vc} {R : List (List Int)} {g v : Int} {F u : List Int} (h : SI n W B f R g F) (e : solGo n f R = (g, F)) (hu : solF n f R v = some u) : u.length = n ∧ Sp (RL R) (fv u) ∧ dv n f (fv u) = v := by
  unfold solF at hu
  rw [e] at hu
  dsimp only at hu
  by_cases g0 : g = 0
  · rw [if_pos g0] at hu
    by_cases v0 : v = 0
    · rw [if_pos v0] at hu
      cases hu
      exact ⟨h.len, h.sp, by rw [h.val, g0, v0]⟩
    · rw [if_neg v0] at hu; cases hu
  · rw [if_neg g0] at hu
    by_cases c : v.fmod g = 0
    · rw [if_pos c] at hu
      cases hu
      have ef : fv (F.map fun e => v.fdiv g * e) = fun j => v.fdiv g * fv F j := fv_times
      refine ⟨by rw [List.length_map, h.len], by rw [ef]; exact h.sp.mul _, ?_⟩
      rw [ef]
      have : dv n f (fun j => v.fdiv g * fv F j) = v.fdiv g * dv n f (fv F) := by
        unfold dv
        rw [← sm_mul]
        exact sm_congr fun i _ => by grind
      rw [this, h.val]
      have := fdm v g
      omega
    · rw [if_neg c] at hu; cases hu
theorem bezF_lim {a b : Int} {W : Nat} (ha : 0 ≤ a) (h : a = 0 ∨ b ≠ 0) (aW : a.natAbs ≤ W) (bW : b.natAbs ≤ W) : (bezF a b).2.1.natAbs ≤ 1 + W ∧ (bezF a b).2.2.natAbs ≤ 1 + W := by
  by_cases a0 : a = 0
  · subst a0
    rw [bezF_zero]
    dsimp only
    constructor
    · split <;> omega
    · split
      · omega
      · split <;> omega
  · obtain ⟨_, _, _, _, _, _, h1, h2⟩ := bezF_pos (show 0 < a by omega) (h.resolve_left a0)
    omega
end Hn

set_option maxHeartbeats 4000000
namespace Hg
open PySem PySem.Spec PyProof.Rows L2
def sp_scale_formB (K : PySem.W.Frag) : Sp := fun vs H Q _ => ∃ (k : Bool) (a : Addr) (c : Int) (xs : List Int), vs = [.int c, .ref a] ∧ SqK K k H a (xs.map V.int) ∧ xs.length ≤ 1000 ∧ bg c ∧ (∀ x ∈ xs, bg x) ∧
  ∀ (H' : Hp) (p : Addr), Ex H H' → H' p = some (.tup (iV (xs.map fun e => c * e))) → Q (.ref p) H'
def sp_solve (K : PySem.W.Frag) : Sp := fun vs H Q _ => ∃ (k l : Bool) (a b : Addr) (n A B Vb : Nat) (xs : List V) (R : List (List Int)) (f : List Int) (v : Int), vs = [.ref a, .ref b, .int v] ∧ SqK K k H a xs ∧ RowsK K H xs R ∧ SqK K l H b (iV f) ∧ f.length = n ∧ 1 ≤ n ∧ n ≤ 100 ∧ R.length ≤ 100 ∧
  (∀ r ∈ R, r.length = n ∧ Hn.bnd B (Hn.fv r)) ∧ Hn.bnd A (Hn.fv f) ∧ sm8 A ∧ 1 ≤ B ∧ sm8 (B * (2 + 2 * (n * (A * B))) ^ (R.length + 1)) ∧ n * (A * B) ≤ 2 ^ 8000 ∧ v.natAbs ≤ Vb ∧ sm8 (Vb + 1) ∧
  ∀ H' : Hp, Ex H H' → (Hn.solF n (Hn.fv f) R v = none → Q .non H') ∧ ∀ (u : List Int) (p : Addr), Hn.solF n (Hn.fv f) R v = some u → H' p = some (.tup (iV u)) → Q (.ref p) H'
def sp_l_grain (K : PySem.W.Frag) : Sp := fun vs H Q _ => ∃ (a b c : Addr) (n : Nat) (f ds : List Int) (as : List Addr) (U : List (List Int)), vs = [.ref a, .ref b, .ref c] ∧ H a = some (.tup (iV f)) ∧ H b = some (.lst (iV ds)) ∧ H c = some (.lst (as.map V.ref)) ∧ RowsIn H as U ∧ f.length = n ∧ ds.length = n ∧ U.length = n ∧ n ≤ 100 ∧ (∀ u ∈ U, u.length = n ∧ Hn.bnd 99 (Hn.fv u)) ∧ Hn.bnd 99 (Hn.fv f) ∧ (∀ d ∈ ds, d.natAbs ≤ 720720) ∧
  ∀ (H' : Hp) (g : Int), Ex H H' → 0 ≤ g → (∀ e : Int, e ∣ g ↔ ∀ i, i < n → e ∣ ds.getD i 0 * Hn.dv n (Hn.fv f) (Hn.gt U i)) → Q (.int g) H'
def sp_l_form (_ : PySem.W.Frag) : Sp := fun vs H Q _ => ∃ (s q fa : Addr) (B n : Nat) (G : Hp) (fs : List Addr) (F : List (List Int)), vs = [.ref s, .ref fa, .int (n : Nat)] ∧ 1 ≤ n ∧ n ≤ 12 ∧ Ov s q B G H ∧ B < 700000 ∧ G fa = some (.lst (fs.map V.ref)) ∧ RowsIn G fs F ∧ F.length = n ∧ (∀ u ∈ F, Hn.smallR n u) ∧
  ∀ (p : Addr) (f : List Int) (G' H' : Hp), Ex G G' → Ov s q (B + 20) G' H' → G' p = some (.tup (iV f)) → Hn.smallR n f → Q (.ref p) H'
def sp_l_inside (_ : PySem.W.Frag) : Sp := fun vs H Q _ => ∃ (a b c : Addr) (n B : Nat) (v ds : List Int) (fs : List Addr) (F : List (List Int)), vs = [.ref a, .ref b, .ref c] ∧ H a = some (.tup (iV v)) ∧ H b = some (.lst (fs.map V.ref)) ∧ RowsIn H fs F ∧ H c = some (.lst (iV ds)) ∧ v.length = n ∧ F.length = n ∧ ds.length = n ∧ n ≤ 100 ∧ (∀ u ∈ F, Hn.smallR n u) ∧ Hn.bnd B (Hn.fv v) ∧ sm8 B ∧ (∀ d ∈ ds, 0 ≤ d) ∧
  (∀ i, i < n → ds.getD i 0 ∣ Hn.dv n (Hn.gt F i) (Hn.fv v)) ∧ ∀ H', Ex H H' → Q (.bl true) H'
/-- two ways into one fork: the first way to be walked makes A and B known -/
theorem joinB {C : Bool → Prop} {A B G : Prop} (main : (∀ c : Bool, C c → (if c = true then A else B)) → G) (tail : ∀ c : Bool, C c → (if c = true then A else B)) : G := main tail
end Hg
namespace Hn
theorem times_dvd {n : Nat} {ds : List Int} {U : List (List Int)} (hd : ds.length = n) (hU : U.length = n) (f : Vc) (e : Int) : (∀ r ∈ timesL ds U, e ∣ dv n f (fv r)) ↔ ∀ i, i < n → e ∣ ds.getD i 0 * dv n f (gt U i) := by
  have lin : ∀ {d : Int} {u : List Int}, dv n f (fv (u.map fun e => d * e)) = d * dv n f (fv u) := fun {d u} => by
    rw [fv_times]
    unfold dv
    rw [← sm_mul]
    exact sm_congr fun i _ => by grind
  constructor
  · intro h i hi
    have a1 : ds[i]? = some (ds[i]'(by omega)) := List.getElem?_eq_getElem (by omega)
    have a2 : U[i]? = some (U[i]'(by omega)) := List.getElem?_eq_getElem (by omega)
    generalize ds[i]'(by omega) = d at a1
    generalize U[i]'(by omega) = u at a2
    have ed : ds.getD i 0 = d := by rw [List.getD_eq_getElem?_getD, a1]; rfl
    rw [ed, gt_at a2]
    by_cases d0 : d = 0
    · rw [d0, Int.zero_mul]; exact Int.dvd_zero _
    · have := h _ (times_mem.mpr ⟨i, d, u, a1, a2, d0, rfl⟩)
      rwa [lin] at this
  · intro h r hr
    obtain ⟨i, d, u, a1, a2, _, rfl⟩ := times_mem.mp hr
    have := h i (by rw [← hd]; exact (List.getElem?_eq_some_iff.mp a1).1)
    have ed : ds.getD i 0 = d := by rw [List.getD_eq_getElem?_getD, a1]; rfl
    rw [ed, gt_at a2] at this
    rw [lin]; exact this
theorem SI.grn {n W B : Nat} {f : Vc} {R : List (List Int)} {g : Int} {F : List Int} (h : SI n W B f R g F) : Grn n f R g :=
  ⟨h.g0, fun d => ⟨fun hd r hr => Int.dvd_trans hd (h.dvd r hr), fun hd => by
    rw [← h.val]
    exact dvd_span (fun u hu => by obtain ⟨r, hr, rfl⟩ := hu; exact hd r hr) h.sp⟩⟩
theorem Grn.eq {n : Nat} {f : Vc} {R : List (List Int)} {g h : Int} (a : Grn n f R g) (b : Grn n f R h) : g = h := same_of_dvd a.1 b.1 fun d => (a.2 d).trans (b.2 d).symm
end Hn
namespace Hn
theorem solF_bnd {n W B Vb : Nat} {f : Vc} {R : List (List Int)} {g v : Int} {F u : List Int} (h : SI n W B f R g F) (e : solGo n f R = (g, F)) (hv : v.natAbs ≤ Vb) (hu : solF n f R v = some u) : bnd ((Vb + 1) * (B * (2 + 2 * W) ^ R.length)) (fv u) := by
  unfold solF at hu
  rw [e] at hu
  dsimp only at hu
  by_cases g0 : g = 0
  · rw [if_pos g0] at hu
    by_cases v0 : v = 0
    · rw [if_pos v0] at hu
      cases hu
      exact bnd_mono (Nat.le_mul_of_pos_left _ (by omega)) h.bd
    · rw [if_neg v0] at hu; cases hu
  · rw [if_neg g0] at hu
    by_cases c : v.fmod g = 0
    · rw [if_pos c] at hu
      cases hu
      have ef : fv (F.map fun e => v.fdiv g * e) = fun j => v.fdiv g * fv F j := fv_times
      intro j
      rw [ef]
      show (v.fdiv g * fv F j).natAbs ≤ _
      rw [Int.natAbs_mul]
      have := fdiv_le (c := v) g0
      exact Nat.mul_le_mul (by omega) (h.bd j)
    · rw [if_neg c] at hu; cases hu
end Hn
namespace Hg
open PySem PySem.Spec PyProof.Rows L2
theorem ne_ints {K : PySem.W.Frag} {H : Hp} {p q : Addr} {xs ys : List Int} {Q : VK} (hp : H p = some (.tup (iV xs))) (hq : H q = some (.tup (iV ys))) (k : Q (.bl (!decide (xs = ys))) H) : rNeA K (.ref p) (.ref q) H Q :=
  .inr ⟨_, _, dp_t (SqT.of hp), dp_t (SqT.of hq), shaped_t _, shaped_t _, by rw [eqv_t]; exact k⟩
end Hg

namespace Hn
/-! ### kernels of exact forms: few small vectors span a sublattice of known index -/
structure KE (n : Nat) (K : Vc → Prop) (R : List Vc) (M d : Nat) : Prop where
  inK : ∀ u ∈ R, K u
  ge : 1 ≤ d
  gen : ∀ v, K v → Sp (fun u => u ∈ R) (fun j => (d : Int) * v j)
  b : ∀ u ∈ R, bnd M u
theorem dv_absB {n A M : Nat} {f u : Vc} (hf : bnd A f) (hu : bnd M u) : (dv n f u).natAbs ≤ n * (A * M) := by
  unfold dv
  refine sm_abs fun i _ => ?_
  rw [Int.natAbs_mul]
  exact Nat.mul_le_mul (hf i) (hu i)
theorem elim_sp {n : Nat} {f w : Vc} {R R' : Vc → Prop} (h : ∀ u, R u → Sp R' fun j => dv n f w * u j - dv n f u * w j) {x : Vc} (hx : Sp R x) : Sp R' fun j => dv n f w * x j - dv n f x * w j := by
  induction hx with
  | zero =>
    have z : dv n f (fun _ => 0) = 0 := by
      have := dv_comb (n := n) (f := f) (u := fun _ => 0) (v := fun _ => 0) (k := 1)
      simp only [Int.mul_zero, Int.add_zero] at this
      omega
    refine Sp.zero.cast fun j => ?_
    show _ = dv n f w * 0 - dv n f (fun _ => 0) * w j
    rw [z]; omega
  | add k hu hv ih =>
    refine (((h _ hu).mul k).plus ih).cast fun j => ?_
    show _ = _ - dv n f (fun j => _) * w j
    rw [dv_comb]
    grind
theorem KE.step {n A M d : Nat} {K : Vc → Prop} {R : List Vc} {f : Vc} (hf : bnd A f) (k : KE n K R M d) (cl : ∀ (a b : Int) (u v : Vc), K u → K v → K fun j => a * u j - b * v j) :
    KE n (fun v => K v ∧ dv n f v = 0) R M d ∨ ∃ (R' : List Vc) (d' : Nat), KE n (fun v => K v ∧ dv n f v = 0) R' (2 * (n * (A * M) * M)) d' ∧ R'.length + 1 = R.length ∧ d' ≤ n * (A * M) * d := by
  by_cases h : ∀ u ∈ R, dv n f u = 0
  · exact .inl ⟨fun u hu => ⟨k.inK u hu, h u hu⟩, k.ge, fun v hv => k.gen v hv.1, k.b⟩
  · have ⟨w, hw, w0⟩ : ∃ w, w ∈ R ∧ dv n f w ≠ 0 := by
      refine Classical.byContradiction fun h' => h fun u hu => Classical.byContradiction fun c => h' ⟨u, hu, c⟩
    obtain ⟨R1, R2, e⟩ := List.append_of_mem hw
    have mem : ∀ u, u ∈ R ↔ u = w ∨ u ∈ R1 ++ R2 := fun u => by rw [e]; simp; grind
    have dvl : ∀ (a b : Int) (u v : Vc), dv n f (fun j => a * u j - b * v j) = a * dv n f u - b * dv n f v := fun a b u v => by
      have e1 := dv_comb (n := n) (f := f) (u := u) (v := fun j => (-b) * v j + 0) (k := a)
      have e2 := dv_comb (n := n) (f := f) (u := v) (v := fun _ => 0) (k := -b)
      have e3 := dv_comb (n := n) (f := f) (u := fun _ => 0) (v := fun _ => 0) (k := 1)
      simp only [Int.mul_zero, Int.add_zero] at e1 e2 e3
      have : (fun j => a * u j - b * v j) = fun j => a * u j + -b * v j := funext fun j => by grind
      rw [this, e1, e2]
      grind
    refine .inr ⟨(R1 ++ R2).map fun u j => dv n f w * u j - dv n f u * w j, (dv n f w).natAbs * d, ⟨fun x hx => ?_, ?_, fun v hv => ?_, fun x hx => ?_⟩, ?_, ?_⟩
    · obtain ⟨u, hu, rfl⟩ := List.mem_map.mp hx
      exact ⟨cl _ _ _ _ (k.inK u ((mem u).mpr (.inr hu))) (k.inK w hw), by rw [dvl]; grind⟩
    · exact Nat.mul_pos (by omega) k.ge
    · have g := elim_sp (f := f) (n := n) (w := w) (R' := fun x => x ∈ (R1 ++ R2).map fun u j => dv n f w * u j - dv n f u * w j) (fun u hu => by
        rcases (mem u).mp hu with rfl | h2
        · exact Sp.zero.cast fun j => by omega
        · exact .of (List.mem_map.mpr ⟨u, h2, rfl⟩)) (k.gen v hv.1)
      have z : dv n f (fun j => (d : Int) * v j) = 0 := by
        have := dvl (d : Int) 0 v v
        rw [hv.2] at this
        simp only [Int.zero_mul, Int.sub_zero, Int.mul_zero] at this
        exact this
      obtain ⟨s, hs⟩ : ∃ s : Int, ((dv n f w).natAbs : Int) = s * dv n f w := by
        rcases Int.natAbs_eq (dv n f w) with h | h
        · exact ⟨1, by omega⟩
        · exact ⟨-1, by omega⟩
      refine (g.mul s).cast fun j => ?_
      rw [z, Int.natCast_mul, hs]
      grind
    · obtain ⟨u, hu, rfl⟩ := List.mem_map.mp hx
      have bu := k.b u ((mem u).mpr (.inr hu))
      have bw := k.b w hw
      intro j
      show (dv n f w * u j - dv n f u * w j).natAbs ≤ _
      have a1 : (dv n f w * u j).natAbs ≤ n * (A * M) * M := by
        rw [Int.natAbs_mul]; exact Nat.mul_le_mul (dv_absB hf bw) (bu j)
      have a2 : (dv n f u * w j).natAbs ≤ n * (A * M) * M := by
        rw [Int.natAbs_mul]; exact Nat.mul_le_mul (dv_absB hf bu) (bw j)
      omega
    · rw [e]; simp; omega
    · exact Nat.mul_le_mul_right _ (dv_absB hf (k.b w hw))
/-- the bounds after s real steps -/
def keM (n A : Nat) : Nat → Nat
  | 0 => 1
  | s + 1 => 2 * (n * (A * keM n A s) * keM n A s)
def keD (n A : Nat) : Nat → Nat
  | 0 => 1
  | s + 1 => n * (A * keM n A s) * keD n A s
def Ker (n : Nat) (E : List (List Int)) (v : Vc) : Prop := (∀ j, n ≤ j → v j = 0) ∧ ∀ f ∈ E, dv n (fv f) v = 0
theorem dv_sub {n : Nat} {f u v : Vc} {a b : Int} : dv n f (fun j => a * u j - b * v j) = a * dv n f u - b * dv n f v := by
  have e1 := dv_comb (n := n) (f := f) (u := u) (v := fun j => (-b) * v j + 0) (k := a)
  have e2 := dv_comb (n := n) (f := f) (u := v) (v := fun _ => 0) (k := -b)
  have e3 := dv_comb (n := n) (f := f) (u := fun _ => 0) (v := fun _ => 0) (k := 1)
  simp only [Int.mul_zero, Int.add_zero] at e1 e2 e3
  have : (fun j => a * u j - b * v j) = fun j => a * u j + -b * v j := funext fun j => by grind
  rw [this, e1, e2]
  grind
theorem Ker.cl {n : Nat} {E : List (List Int)} (a b : Int) (u v : Vc) (hu : Ker n E u) (hv : Ker n E v) : Ker n E fun j => a * u j - b * v j :=
  ⟨fun j hj => by show a * u j - b * v j = 0; rw [hu.1 j hj, hv.1 j hj]; omega, fun f hf => by rw [dv_sub, hu.2 f hf, hv.2 f hf]; omega⟩
theorem KE.congr {n M d : Nat} {K K' : Vc → Prop} {R : List Vc} (k : KE n K R M d) (h : ∀ v, K v ↔ K' v) : KE n K' R M d :=
  ⟨fun u hu => (h u).mp (k.inK u hu), k.ge, fun v hv => k.gen v ((h v).mpr hv), k.b⟩
def unitV (i : Nat) : Vc := fun j => if j = i then 1 else 0
theorem KE.start {n : Nat} : KE n (Ker n []) ((List.range n).map unitV) 1 1 := by
  refine ⟨fun u hu => ?_, Nat.le_refl _, fun v hv => ?_, fun u hu => ?_⟩
  · obtain ⟨i, hi, rfl⟩ := List.mem_map.mp hu
    have := List.mem_range.mp hi
    exact ⟨fun j hj => if_neg (by omega), fun f hf => by cases hf⟩
  · have : ∀ m, m ≤ n → Sp (fun u => u ∈ (List.range n).map unitV) fun j => if j < m then v j else 0 := by
      intro m
      induction m with
      | zero => exact fun _ => Sp.zero.cast fun j => by simp
      | succ m ih =>
        intro hm
        refine (Sp.add (v m) (List.mem_map.mpr ⟨m, List.mem_range.mpr (by omega), rfl⟩) (ih (by omega))).cast fun j => ?_
        unfold unitV
        grind
    refine (this n (Nat.le_refl _)).cast fun j => ?_
    have := hv.1 j
    split <;> grind
  · obtain ⟨i, hi, rfl⟩ := List.mem_map.mp hu
    intro j
    unfold unitV
    split <;> decide
theorem KE.all {n A : Nat} (E : List (List Int)) (hE : ∀ f ∈ E, bnd A (fv f)) : ∃ (R : List Vc) (s d : Nat), KE n (Ker n E) R (keM n A s) d ∧ R.length + s = n ∧ d ≤ keD n A s := by
  induction E with
  | nil => exact ⟨_, 0, 1, KE.start, by simp, Nat.le_refl _⟩
  | cons f E ih =>
    obtain ⟨R, s, d, k, hl, hd⟩ := ih fun g hg => hE g (.tail _ hg)
    have cg : ∀ v, (Ker n E v ∧ dv n (fv f) v = 0) ↔ Ker n (f :: E) v := fun v => by
      unfold Ker; simp; grind
    rcases k.step (hE f (.head _)) (fun a b u v => Ker.cl a b u v) with h | ⟨R', d', h, h1, h2⟩
    · exact ⟨R, s, d, h.congr cg, hl, hd⟩
    · exact ⟨R', s + 1, d', h.congr cg, by omega, Nat.le_trans h2 (Nat.mul_le_mul_left _ hd)⟩
end Hn
namespace Hn
/-! ### a lattice times a number -/
def scL (d : Int) (l : List Int) : List Int := l.map (d * ·)
theorem fv_scL {d : Int} {l : List Int} : fv (scL d l) = fun j => d * fv l j := by
  funext j
  unfold fv scL
  rw [List.getD_eq_getElem?_getD, List.getD_eq_getElem?_getD, List.getElem?_map]
  cases l[j]? <;> simp
def scS (d : Int) (st : Steps) : Steps := st.map (Option.map (scL d))
theorem scS_some {d : Int} {st : Steps} {c : Nat} {x : List Int} (h : (scS d st)[c]? = some (some x)) : ∃ l, st[c]? = some (some l) ∧ x = scL d l := by
  unfold scS at h
  rw [List.getElem?_map] at h
  cases e : st[c]? with
  | none => rw [e] at h; simp at h
  | some o =>
    cases o with
    | none => rw [e] at h; simp at h
    | some l => rw [e] at h; simp at h; exact ⟨l, rfl, h.symm⟩
theorem scS_of {d : Int} {st : Steps} {c : Nat} {l : List Int} (h : st[c]? = some (some l)) : (scS d st)[c]? = some (some (scL d l)) := by
  unfold scS
  rw [List.getElem?_map, h]; rfl
theorem Hnf.scale {n : Nat} {V : Vc → Prop} {C : List (List Int)} (h : Hnf n V C) {d : Int} (hd : 0 < d) : Hnf n (fun v => ∃ x, V x ∧ v = fun j => d * x j) (C.map (scL d)) := by
  obtain ⟨st, e, r, sp, rfl⟩ := h
  refine ⟨scS d st, ⟨?_, fun c l hc => ?_, fun c l j hc hj => ?_, fun c l hc => ?_⟩, fun c l j l' hc hj hl => ?_, fun v => ⟨fun hv => ?_, ?_⟩, ?_⟩
  · unfold scS; rw [List.length_map]; exact e.len
  · obtain ⟨x, hx, rfl⟩ := scS_some hc
    unfold scL; rw [List.length_map]; exact e.row _ _ hx
  · obtain ⟨x, hx, rfl⟩ := scS_some hc
    rw [fv_scL]; show d * fv x j = 0; rw [e.lo _ _ _ hx hj]; omega
  · obtain ⟨x, hx, rfl⟩ := scS_some hc
    rw [fv_scL]; exact Int.mul_pos hd (e.piv _ _ hx)
  · obtain ⟨x, hx, rfl⟩ := scS_some hc
    obtain ⟨y, hy, rfl⟩ := scS_some hl
    rw [fv_scL, fv_scL]
    have := r _ _ _ _ hx hj hy
    exact ⟨Int.mul_nonneg (by omega) this.1, Int.mul_lt_mul_of_pos_left this.2 hd⟩
  · induction hv with
    | zero => exact ⟨fun _ => 0, (sp _).mp .zero, funext fun j => (Int.mul_zero d).symm⟩
    | add k hu _ ih =>
      obtain ⟨x, hx, rfl⟩ := ih
      obtain ⟨c, l, hc, rfl⟩ := hu
      obtain ⟨y, hy, rfl⟩ := scS_some hc
      refine ⟨fun j => k * fv y j + x j, (sp _).mp (.add k ⟨c, y, hy, rfl⟩ ((sp _).mpr hx)), ?_⟩
      rw [fv_scL]
      funext j
      grind
  · rintro ⟨x, hx, rfl⟩
    have := (sp _).mpr hx
    clear hx
    induction this with
    | zero => exact Sp.zero.cast fun j => (Int.mul_zero d).symm
    | add k hu _ ih =>
      obtain ⟨c, l, hc, rfl⟩ := hu
      refine (Sp.add k ⟨c, _, scS_of (d := d) hc, rfl⟩ ih).cast fun j => ?_
      rw [fv_scL]; grind
  · have : ∀ st : Steps, (st.filterMap id).map (scL d) = (scS d st).filterMap id := fun st => by
      unfold scS
      induction st with
      | nil => rfl
      | cons o st ih => cases o <;> simp [ih]
    exact this st
/-- the numbers of a lattice between a kernel and its multiples -/
theorem Hnf.pinchK {n M d P : Nat} {V K : Vc → Prop} {R : List Vc} {C : List (List Int)} (hC : Hnf n V C) (k : KE n K R M d) (hP : 1 ≤ P) (hM : 1 ≤ M) (h1 : ∀ v, V v → K v) (h2 : ∀ u, K u → V fun j => (P : Int) * u j) : ∀ r ∈ C, bnd (pinB (d * P) n M) (fv r) := by
  have hd := k.ge
  have s := (hC.scale (d := d) (by omega)).pinch (m0 := d * P) (M := M) (R := fun u => u ∈ R) (Nat.mul_pos hd hP) hM k.b (fun v ⟨x, hx, e⟩ => e ▸ k.gen x (h1 x hx)) (fun u hu => ⟨_, h2 u (k.inK u hu), funext fun j => by rw [Int.natCast_mul, Int.mul_assoc]⟩)
  intro r hr j
  have := s _ (List.mem_map.mpr ⟨r, hr, rfl⟩) j
  rw [fv_scL] at this
  refine Nat.le_trans ?_ this
  rw [Int.natAbs_mul]
  exact Nat.le_mul_of_pos_left _ (by omega)
end Hn
namespace Hn
/-! ### the lattice of some forms by their moduli, 0 for exactly 0 -/
def LatS (n : Nat) (S : List (List Int × Nat)) (v : Vc) : Prop := (∀ j, n ≤ j → v j = 0) ∧ ∀ p ∈ S, (p.2 : Int) ∣ dv n (fv p.1) v
def exS (S : List (List Int × Nat)) : List (List Int) := (S.filter fun p => p.2 == 0).map (·.1)
def prS : List (List Int × Nat) → Nat
  | [] => 1
  | p :: S => (if p.2 = 0 then 1 else p.2) * prS S
theorem prS_pos : ∀ S : List (List Int × Nat), 1 ≤ prS S
  | [] => Nat.le_refl _
  | p :: S => by
    unfold prS
    refine Nat.mul_pos ?_ (prS_pos S)
    split <;> omega
theorem prS_dvd : ∀ {S : List (List Int × Nat)} {p}, p ∈ S → p.2 ≠ 0 → p.2 ∣ prS S
  | q :: S, p, h, z => by
    unfold prS
    rcases List.mem_cons.mp h with rfl | h
    · rw [if_neg z]; exact Nat.dvd_mul_right _ _
    · exact Nat.dvd_trans (prS_dvd h z) (Nat.dvd_mul_left _ _)
theorem keM_pos {n A : Nat} (hn : 1 ≤ n) (hA : 1 ≤ A) : ∀ s, 1 ≤ keM n A s
  | 0 => Nat.le_refl _
  | s + 1 => by
    have h := keM_pos hn hA s
    unfold keM
    exact Nat.mul_pos (by decide) (Nat.mul_pos (Nat.mul_pos hn (Nat.mul_pos hA h)) h)
theorem keM_mono {n n' A A' : Nat} (hn : n ≤ n') (hA : A ≤ A') : ∀ s, keM n A s ≤ keM n' A' s
  | 0 => Nat.le_refl _
  | s + 1 => by
    have h := keM_mono hn hA s
    unfold keM
    exact Nat.mul_le_mul_left _ (Nat.mul_le_mul (Nat.mul_le_mul hn (Nat.mul_le_mul hA h)) h)
theorem keM_up {n A s : Nat} (hn : 1 ≤ n) (hA : 1 ≤ A) : ∀ k, keM n A s ≤ keM n A (s + k)
  | 0 => Nat.le_refl _
  | k + 1 => by
    refine Nat.le_trans (keM_up hn hA k) ?_
    have h := keM_pos hn hA (s + k)
    show _ ≤ 2 * (n * (A * keM n A (s + k)) * keM n A (s + k))
    have : 1 ≤ n * (A * keM n A (s + k)) := Nat.mul_pos hn (Nat.mul_pos hA h)
    have := Nat.le_mul_of_pos_left (keM n A (s + k)) this
    omega
theorem keD_mono {n n' A A' : Nat} (hn : n ≤ n') (hA : A ≤ A') : ∀ s, keD n A s ≤ keD n' A' s
  | 0 => Nat.le_refl _
  | s + 1 => by
    unfold keD
    exact Nat.mul_le_mul (Nat.mul_le_mul hn (Nat.mul_le_mul hA (keM_mono hn hA s))) (keD_mono hn hA s)
theorem keD_up {n A s : Nat} (hn : 1 ≤ n) (hA : 1 ≤ A) : ∀ k, keD n A s ≤ keD n A (s + k)
  | 0 => Nat.le_refl _
  | k + 1 => by
    refine Nat.le_trans (keD_up hn hA k) ?_
    show _ ≤ n * (A * keM n A (s + k)) * keD n A (s + k)
    exact Nat.le_mul_of_pos_left _ (Nat.mul_pos hn (Nat.mul_pos hA (keM_pos hn hA _)))
theorem LatS.bndS {n : Nat} {S : List (List Int × Nat)} {C : List (List Int)} (hC : Hnf n (LatS n S) C) (hn : 1 ≤ n) (h5 : n ≤ 5) (hS : ∀ p ∈ S, bnd 99 (fv p.1)) {e : Nat} (he : prS S ≤ 2 ^ e) : ∀ r ∈ C, bnd (2 ^ (e + 3753)) (fv r) := by
  obtain ⟨R, s, d, k, hl, hd⟩ := KE.all (n := n) (A := 99) (exS S) (fun f hf => by
    obtain ⟨p, hp, rfl⟩ := List.mem_map.mp hf
    exact hS p (List.mem_filter.mp hp).1)
  have pk := hC.pinchK k (prS_pos S) (keM_pos hn (by decide) s) (fun v hv => ⟨hv.1, fun f hf => by
    obtain ⟨p, hp, rfl⟩ := List.mem_map.mp hf
    obtain ⟨p1, p2⟩ := List.mem_filter.mp hp
    have := hv.2 p p1
    rw [show p.2 = 0 by simpa using p2] at this
    exact Int.zero_dvd.mp this⟩) (fun u hu => ⟨fun j hj => by show (prS S : Int) * u j = 0; rw [hu.1 j hj]; omega, fun p hp => by
      have e : dv n (fv p.1) (fun j => (prS S : Int) * u j) = prS S * dv n (fv p.1) u := by
        have := dv_sub (n := n) (f := fv p.1) (u := u) (v := u) (a := prS S) (b := 0)
        simp only [Int.zero_mul, Int.sub_zero] at this
        exact this
      rw [e]
      by_cases z : p.2 = 0
      · rw [hu.2 p.1 (List.mem_map.mpr ⟨p, List.mem_filter.mpr ⟨hp, by simp [z]⟩, rfl⟩)]
        simp
      · exact Int.dvd_mul_of_dvd_left (Int.natCast_dvd_natCast.mpr (prS_dvd hp z))⟩)
  have hM : keM n 99 s ≤ 2 ^ 309 := Nat.le_trans (keM_mono h5 (Nat.le_refl _) s) (Nat.le_trans (by
    have := keM_up (n := 5) (A := 99) (s := s) (by decide) (by decide) (5 - s)
    rw [show s + (5 - s) = 5 by omega] at this
    exact this) (by decide +kernel))
  have hD : d ≤ 2 ^ 304 := Nat.le_trans hd (Nat.le_trans (keD_mono h5 (Nat.le_refl _) s) (Nat.le_trans (by
    have := keD_up (n := 5) (A := 99) (s := s) (by decide) (by decide) (5 - s)
    rw [show s + (5 - s) = 5 by omega] at this
    exact this) (by decide +kernel)))
  have hp : pinB (d * prS S) n (keM n 99 s) ≤ 2 ^ ((304 + e) + hE n 313) := pinB_le (by
    have : 2 * n * keM n 99 s ≤ 10 * 2 ^ 309 := Nat.mul_le_mul (by omega) hM
    exact Nat.le_trans this (by decide +kernel)) (by rw [Nat.pow_add]; exact Nat.mul_le_mul hD he)
  have hh : hE n 313 ≤ 3438 + 11 := Nat.le_trans (hE_mono h5 (Nat.le_refl _)) (by decide +kernel)
  intro r hr j
  exact Nat.le_trans (pk r hr j) (Nat.le_trans hp (Nat.pow_le_pow_right (by decide) (by omega)))
end Hn

namespace Hn
/-! ### the same lattice by other lists of forms -/
theorem prS_le {x : Nat} : ∀ {S : List (List Int × Nat)}, (∀ p ∈ S, p.2 ≤ 2 ^ x) → prS S ≤ 2 ^ (x * S.length)
  | [], _ => by simp [prS]
  | p :: S, h => by
    have ih := prS_le (S := S) fun q hq => h q (.tail _ hq)
    have hp := h p (.head _)
    unfold prS
    rw [List.length_cons, Nat.mul_add, Nat.mul_one, Nat.add_comm, Nat.pow_add]
    refine Nat.mul_le_mul ?_ ih
    split
    · exact Nat.one_le_two_pow
    · exact hp
theorem LatS.mem {n : Nat} {S T : List (List Int × Nat)} (h : ∀ p, p ∈ S ↔ p ∈ T) {v : Vc} : LatS n S v ↔ LatS n T v :=
  ⟨fun ⟨a, b⟩ => ⟨a, fun p hp => b p ((h p).mpr hp)⟩, fun ⟨a, b⟩ => ⟨a, fun p hp => b p ((h p).mp hp)⟩⟩
theorem LatS.app {n : Nat} {S T : List (List Int × Nat)} {v : Vc} : LatS n (S ++ T) v ↔ LatS n S v ∧ LatS n T v := by
  unfold LatS
  constructor
  · rintro ⟨a, b⟩
    exact ⟨⟨a, fun p hp => b p (List.mem_append.mpr (.inl hp))⟩, a, fun p hp => b p (List.mem_append.mpr (.inr hp))⟩
  · rintro ⟨⟨a, b⟩, _, c⟩
    exact ⟨a, fun p hp => (List.mem_append.mp hp).elim (b p) (c p)⟩
theorem LatS.nil {n : Nat} {v : Vc} : LatS n [] v ↔ ∀ j, n ≤ j → v j = 0 := ⟨fun h => h.1, fun h => ⟨h, fun p hp => by cases hp⟩⟩
theorem LatS.one {n : Nat} {f : List Int} {m : Nat} {v : Vc} : LatS n [(f, m)] v ↔ (∀ j, n ≤ j → v j = 0) ∧ (m : Int) ∣ dv n (fv f) v := by
  unfold LatS; simp
/-- one more form -/
theorem LatS.step {n m : Nat} {S : List (List Int × Nat)} {f : List Int} {B C : List (List Int)} (hB : Hnf n (LatS n S) B) (hC : Hnf n (fun v => Sp (RL B) v ∧ (m : Int) ∣ dv n (fv f) v) C) : Hnf n (LatS n (S ++ [(f, m)])) C :=
  hC.congr fun v => by
    rw [LatS.app, LatS.one, ← hB.span v]
    exact ⟨fun ⟨a, b⟩ => ⟨a, a.1, b⟩, fun ⟨a, _, b⟩ => ⟨a, b⟩⟩
def negL (f : List Int) : List Int := f.map fun x => 0 - x
theorem fv_negL {f : List Int} {j : Nat} : fv (negL f) j = -fv f j := by
  unfold fv negL
  rw [List.getD_eq_getElem?_getD, List.getD_eq_getElem?_getD, List.getElem?_map]
  cases f[j]? <;> simp
theorem dv_neg {n : Nat} {f v : Vc} : dv n (fun j => -f j) v = -dv n f v := by
  have := dv_sub (n := n) (f := v) (u := f) (v := f) (a := 0) (b := 1)
  have e : (fun j => 0 * f j - 1 * f j) = fun j => -f j := funext fun j => by omega
  rw [e] at this
  rw [dv_comm, this, dv_comm (f := v)]
  omega
theorem LatS.neg {n m : Nat} {f : List Int} {v : Vc} : LatS n [(negL f, m)] v ↔ LatS n [(f, m)] v := by
  rw [LatS.one, LatS.one, show fv (negL f) = fun j => -fv f j from funext fun j => fv_negL, dv_neg, Int.dvd_neg]
theorem LatS.rep {n m : Nat} {f : List Int} {v : Vc} : ∀ {k : Nat}, 1 ≤ k → (LatS n (List.replicate k (f, m)) v ↔ LatS n [(f, m)] v) := fun {k} hk =>
  LatS.mem fun p => by rw [List.mem_replicate]; simp; omega
theorem LatS.two {n a b : Nat} {f : List Int} {v : Vc} (h : Nat.gcd a b = 1) : LatS n [(f, a), (f, b)] v ↔ LatS n [(f, a * b)] v := by
  rw [show [(f, a), (f, b)] = [(f, a)] ++ [(f, b)] from rfl, LatS.app, LatS.one, LatS.one, LatS.one]
  constructor
  · rintro ⟨⟨z, h1⟩, _, h2⟩
    refine ⟨z, ?_⟩
    have h1 := Int.ofNat_dvd_left.mp h1
    have h2 := Int.ofNat_dvd_left.mp h2
    exact Int.ofNat_dvd_left.mpr (Nat.Coprime.mul_dvd_of_dvd_of_dvd h h1 h2)
  · rintro ⟨z, h1⟩
    have h1 := Int.ofNat_dvd_left.mp h1
    exact ⟨⟨z, Int.ofNat_dvd_left.mpr (Nat.dvd_trans (Nat.dvd_mul_right _ _) h1)⟩, z, Int.ofNat_dvd_left.mpr (Nat.dvd_trans (Nat.dvd_mul_left _ _) h1)⟩
theorem LatS.ins {n i : Nat} {S : List (List Int × Nat)} {p : List Int × Nat} {v : Vc} : LatS n (S.take i ++ p :: S.drop i) v ↔ LatS n (S ++ [p]) v :=
  LatS.mem fun q => by
    have : q ∈ S ↔ q ∈ S.take i ∨ q ∈ S.drop i := by
      rw [← List.mem_append, List.take_append_drop]
    simp only [List.mem_append, List.mem_cons, this]
    simp
    grind
end Hn

namespace Hn
theorem Hnf.le {n : Nat} {V : Vc → Prop} {C : List (List Int)} (h : Hnf n V C) : C.length ≤ n := by
  obtain ⟨st, e, _, _, rfl⟩ := h
  rw [← e.len]
  exact List.length_filterMap_le _ _
theorem Hnf.units {n : Nat} : Hnf n (LatS n []) (unitB n 1) := by
  have E : EchR n (List.range n) (unitB n 1) := by
    refine ⟨by simp [unitB], List.pairwise_lt_range, fun c hc => List.mem_range.mp hc, fun i c r h1 h2 => ?_⟩
    have hi : i < n := by have := (List.getElem?_eq_some_iff.mp h1).1; simpa using this
    rw [List.getElem?_range hi] at h1
    cases h1
    rw [unitB_at hi] at h2
    cases h2
    refine ⟨by simp, fun j hj => ?_, ?_⟩
    · rw [fv_unitB j hi, if_neg (by omega)]
    · rw [fv_unitB i hi, if_pos rfl]; decide
  refine (E.hnf fun i j c r r' hij h1 h2 h3 => ?_).congr fun v => ⟨fun h => LatS.nil.mpr fun j hj => h.at0 fun u ⟨r, hr, e⟩ => ?_, fun h => ?_⟩
  · have hj : j < n := by have := (List.getElem?_eq_some_iff.mp h1).1; simpa using this
    rw [List.getElem?_range hj] at h1
    cases h1
    rw [unitB_at hj] at h3
    rw [unitB_at (by omega)] at h2
    cases h2
    cases h3
    rw [fv_unitB j (by omega), fv_unitB j hj, if_neg (by omega), if_pos rfl]
    decide
  · obtain ⟨k, hk, rfl⟩ := List.mem_map.mp hr
    rw [e, fv_unitB j (List.mem_range.mp hk), if_neg (by have := List.mem_range.mp hk; omega)]
  · exact (unitB_sp (b := 1) (LatS.nil.mp h)).cast fun j => by show ((1 : Nat) : Int) * v j = v j; omega
/-- what a run of restricts keeps -/
theorem LatS.bnd400 {n : Nat} {S : List (List Int × Nat)} {C : List (List Int)} (hC : Hnf n (LatS n S) C) (hn : 1 ≤ n) (h5 : n ≤ 5) (hl : S.length ≤ 20) (hS : ∀ p ∈ S, bnd 99 (fv p.1) ∧ p.2 ≤ 2 ^ 20) : ∀ r ∈ C, bnd (2 ^ 4153) (fv r) :=
  hC |> fun hC => LatS.bndS (e := 400) hC hn h5 (fun p hp => (hS p hp).1) (Nat.le_trans (prS_le (x := 20) fun p hp => (hS p hp).2) (Nat.pow_le_pow_right (by decide) (by omega)))
end Hn

namespace Hn
/-! ### a form of few generators: few rows, small numbers -/
theorem RL_coef {G : List (List Int)} {v : Vc} (h : Sp (RL G) v) : ∃ z : Nat → Int, ∀ j, v j = sm G.length fun l => z l * gt G l j := by
  induction h with
  | zero => exact ⟨fun _ => 0, fun j => (sm_zero fun s _ => by simp).symm⟩
  | @add u v k h1 _ ih =>
    obtain ⟨r, hr, rfl⟩ := h1
    obtain ⟨i, hi⟩ := List.mem_iff_getElem?.mp hr
    have hl := (List.getElem?_eq_some_iff.mp hi).1
    obtain ⟨b, hb⟩ := ih
    refine ⟨fun l => (if l = i then k else 0) + b l, fun j => ?_⟩
    show k * fv r j + v j = _
    have e1 : sm G.length (fun l => (if l = i then k else 0) * gt G l j) = k * fv r j := by
      rw [sm_one hl (fun s' _ hne => by rw [if_neg hne, Int.zero_mul]), if_pos rfl, gt_at hi]
    rw [hb, ← e1, ← sm_add]
    exact sm_congr fun s _ => by grind
theorem supB (Z : Nat → Nat → Int) : ∀ a b : Nat, ∃ B : Nat, ∀ s l, s < a → l < b → (Z s l).natAbs ≤ B := by
  intro a
  induction a with
  | zero => exact fun b => ⟨0, fun s l hs => by omega⟩
  | succ a ih =>
    intro b
    obtain ⟨B, hB⟩ := ih b
    have row : ∃ B', ∀ l, l < b → (Z a l).natAbs ≤ B' := by
      clear hB
      induction b with
      | zero => exact ⟨0, fun l hl => by omega⟩
      | succ b ihb =>
        obtain ⟨B', hB'⟩ := ihb
        refine ⟨B' + (Z a b).natAbs, fun l hl => ?_⟩
        by_cases e : l = b
        · rw [e]; omega
        · have := hB' l (by omega); omega
    obtain ⟨B', hB'⟩ := row
    refine ⟨B + B', fun s l hs hl => ?_⟩
    by_cases e : s = a
    · rw [e]; have := hB' l hl; omega
    · have := hB s l (by omega) hl; omega
theorem rank_le {m k : Nat} {T : Nat → Vc} {c : Nat → Nat} (h : Tri m T c) {Gv : Nat → Vc} (hg : ∀ s, s < m → ∃ z : Nat → Int, ∀ j, T s j = sm k fun l => z l * Gv l j) : m ≤ k := by
  refine Classical.byContradiction fun hlt => ?_
  have hz : ∀ s, ∃ z : Nat → Int, s < m → ∀ j, T s j = sm k fun l => z l * Gv l j := fun s => by
    by_cases hs : s < m
    · obtain ⟨z, hz⟩ := hg s hs
      exact ⟨z, fun _ => hz⟩
    · exact ⟨fun _ => 0, fun hs' => absurd hs' hs⟩
  obtain ⟨Z, hZ⟩ := Classical.axiomOfChoice hz
  obtain ⟨B, hB⟩ := supB Z m k
  obtain ⟨y, ⟨i0, hi0, hy0⟩, _, ye⟩ := siegel (k := m) (t := k) (M := B + 1) (by omega) (by omega) (fun l s => Z s l) fun l s hl hs => by have := hB s l hs hl; omega
  have z0 : ∀ j, (0 : Int) = sm m fun s => y s * T s j := fun j => by
    have e1 : sm m (fun s => y s * T s j) = sm m (fun s => sm k fun l => Gv l j * (Z s l * y s)) := sm_congr fun s hs => by
      rw [hZ s hs, ← sm_mul]
      exact sm_congr fun l _ => by grind
    rw [e1, sm_swap]
    refine (sm_zero fun l hl => ?_).symm
    rw [sm_mul, ye l hl, Int.mul_zero]
  exact hy0 (h.coef (v := fun _ => 0) z0 (k := m) (Nat.le_refl _) (fun i hi => rfl) i0 hi0)
theorem EchR.tri {n : Nat} {cs : List Nat} {R : List (List Int)} (e : EchR n cs R) : Tri R.length (gt R) (fun i => cs.getD i 0) := by
  have at_ : ∀ s, s < R.length → ∃ c r, cs[s]? = some c ∧ R[s]? = some r ∧ cs.getD s 0 = c ∧ gt R s = fv r := fun s hs => by
    have h1 : s < cs.length := by rw [e.len]; exact hs
    exact ⟨cs[s], R[s], List.getElem?_eq_getElem h1, List.getElem?_eq_getElem hs, by rw [List.getD_eq_getElem?_getD, List.getElem?_eq_getElem h1]; rfl, gt_at (List.getElem?_eq_getElem hs)⟩
  refine ⟨fun s i hs hi => ?_, fun s hs => ?_⟩
  · obtain ⟨c, r, a1, a2, a3, a4⟩ := at_ s hs
    obtain ⟨c', r', b1, b2, b3, b4⟩ := at_ i (by omega)
    rw [a4, b3]
    refine (e.row s c r a1 a2).2.1 c' ?_
    have p := List.pairwise_iff_getElem.mp e.asc i s (List.getElem?_eq_some_iff.mp b1).1 (List.getElem?_eq_some_iff.mp a1).1 hi
    rw [(List.getElem?_eq_some_iff.mp b1).2, (List.getElem?_eq_some_iff.mp a1).2] at p
    exact p
  · obtain ⟨c, r, a1, a2, a3, a4⟩ := at_ s hs
    rw [a4, a3]
    have := (e.row s c r a1 a2).2.2
    omega
theorem Hnf.few {n M k : Nat} {V : Vc → Prop} {C G : List (List Int)} (hC : Hnf n V C) (hV : ∀ v, V v ↔ Sp (RL G) v) (hk : G.length ≤ k) (hM : 1 ≤ M) (hG : ∀ r ∈ G, bnd M (fv r)) : C.length ≤ k ∧ ∀ r ∈ C, bnd (pinB 1 (k + 1) M) (fv r) := by
  have hlen : C.length ≤ k := by
    obtain ⟨cs, e⟩ := hC.ech
    refine Nat.le_trans (rank_le e.tri fun s hs => RL_coef ((hV _).mp ((hC.span _).mpr (.of ?_)))) hk
    exact ⟨_, List.mem_of_getElem? (List.getElem?_eq_getElem hs), gt_at (List.getElem?_eq_getElem hs)⟩
  refine ⟨hlen, ?_⟩
  obtain ⟨st, e, red, sp, rfl⟩ := hC
  have hR : ∀ u, RL G u → bnd M u := fun u ⟨r, hr, e⟩ => e ▸ hG r hr
  have g : GensM ((1 : Nat) : Int) (cols st).length (TI st) (RL G) := by
    refine ⟨fun s hs => (hV _).mp ((sp _).mp ((gens_self st).ts s hs)), fun u hu => ?_⟩
    have := (gens_self st).sp ((sp _).mpr ((hV _).mpr (.of hu)))
    obtain ⟨z, hz⟩ := this
    exact ⟨z, fun j => by rw [← hz]; simp⟩
  have mk : (cols st).length ≤ k := Nat.le_trans (rank_le e.tri fun s hs => RL_coef (g.ts s hs)) hk
  have z0 : ((1 : Nat) : Int) ≠ 0 := by omega
  have piv : ∀ c l, st[c]? = some (some l) → (fv l c).natAbs ≤ 1 * pB (k + 1) M := fun c l hc => by
    obtain ⟨i, hi, ei⟩ := cI_of hc
    have := piv_boundM (n := k + 1) z0 hM e.tri g (fun u hu i _ => hR u hu _) (by omega) hi
    unfold TI at this
    rw [ei, hc] at this
    exact this
  intro r hr
  obtain ⟨x, hx, ex⟩ := List.mem_filterMap.mp hr
  change x = some r at ex
  subst ex
  obtain ⟨c, hc⟩ := List.mem_iff_getElem?.mp hx
  have vR : Sp (RL G) (fv r) := (hV _).mp ((sp _).mp (.of ⟨c, r, hc, rfl⟩))
  have at_ : ∀ c' l, st[c']? = some (some l) → (fv r c').natAbs ≤ 1 * pB (k + 1) M := fun c' l hl => by
    rcases Nat.lt_trichotomy c' c with h | h | h
    · rw [e.lo _ _ _ hc h]; simp
    · subst h
      rw [hc] at hl
      cases hl
      exact piv _ _ hc
    · have := red _ _ _ _ hc h hl
      have := piv _ _ hl
      omega
  refine bnd_out (e.row _ _ hc) fun j hj => ?_
  by_cases hst : ∃ l, st[j]? = some (some l)
  · obtain ⟨l, hl⟩ := hst
    exact Nat.le_trans (at_ j l hl) (Nat.le_add_right _ _)
  · obtain ⟨x, d, d0, dB, xB, hf⟩ := form_boundM (n := k + 1) z0 hM e.tri g hR (by omega) j
    have f1 := hf _ vR
    generalize hm : (cols st).length = m at *
    have hci : ∀ i, i < m → (fv r (cI st i)).natAbs ≤ 1 * pB (k + 1) M := fun i hi => at_ _ _ (cI_step (by omega))
    have key : d * fv r j = -(sm m fun i => x i * fv r (cI st i)) := by omega
    have b2 : (d * fv r j).natAbs ≤ (k + 1) * ((2 * (k + 1) * M) ^ (k + 1) * (1 * pB (k + 1) M)) := by
      rw [key, Int.natAbs_neg]
      refine Nat.le_trans (sm_abs (B := (2 * (k + 1) * M) ^ (k + 1) * (1 * pB (k + 1) M)) fun i hi => ?_) (Nat.mul_le_mul_right _ (by omega))
      rw [Int.natAbs_mul]
      exact Nat.mul_le_mul (xB i hi) (hci i hi)
    have hd : (fv r j).natAbs ≤ (d * fv r j).natAbs := by
      rw [Int.natAbs_mul]
      exact Nat.le_mul_of_pos_left _ (by omega)
    unfold pinB
    omega
end Hn

namespace Hn
/-! ### the index of a lattice in another one -/
structure Lat (L : Vc → Prop) : Prop where
  z : L fun _ => 0
  c : ∀ (k : Int) (u v : Vc), L u → L v → L fun j => k * u j + v j
theorem Lat.cast {L : Vc → Prop} {u v : Vc} (h : L u) (e : ∀ j, u j = v j) : L v := (funext e : u = v) ▸ h
theorem Lat.sub {L : Vc → Prop} (l : Lat L) {u v : Vc} (hu : L u) (hv : L v) : L fun j => u j - v j := Lat.cast (l.c (-1) v u hv hu) fun j => by omega
theorem Lat.add {L : Vc → Prop} (l : Lat L) {u v : Vc} (hu : L u) (hv : L v) : L fun j => u j + v j := Lat.cast (l.c 1 u v hu hv) fun j => by omega
theorem Lat.mul {L : Vc → Prop} (l : Lat L) (k : Int) {u : Vc} (hu : L u) : L fun j => k * u j := Lat.cast (l.c k u _ hu l.z) fun j => by omega
theorem Lat.sp (R : Vc → Prop) : Lat (Sp R) := ⟨.zero, fun k u v hu hv => (hu.mul k).plus hv⟩
theorem Lat.lats (n : Nat) (S : List (List Int × Nat)) : Lat (LatS n S) := by
  refine ⟨⟨fun _ _ => rfl, fun p _ => ?_⟩, fun k u v hu hv => ⟨fun j hj => by (show k * u j + v j = 0; rw [hu.1 j hj, hv.1 j hj]; omega), fun p hp => ?_⟩⟩
  · have : dv n (fv p.1) (fun _ => 0) = 0 := sm_zero fun i _ => by simp
    rw [this]
    exact Int.dvd_zero _
  · rw [dv_comb]
    exact Int.dvd_add (Int.dvd_mul_of_dvd_right (hu.2 p hp)) (hv.2 p hp)
def Idx (L M : Vc → Prop) (N : Nat) : Prop := ∃ A : List Vc, A.length = N ∧ (∀ u ∈ A, L u) ∧ A.Pairwise (fun u w => ¬ M fun j => u j - w j) ∧ ∀ v, L v → ∃ u ∈ A, M fun j => v j - u j
theorem idx_le {M : Vc → Prop} (hM : Lat M) : ∀ {A B : List Vc}, A.Pairwise (fun u w => ¬ M fun j => u j - w j) → (∀ u ∈ A, ∃ w ∈ B, M fun j => u j - w j) → A.length ≤ B.length
  | [], B, _, _ => Nat.zero_le _
  | a :: A, B, p, h => by
    obtain ⟨b, hb, e⟩ := h a (.head _)
    obtain ⟨B1, B2, rfl⟩ := List.append_of_mem hb
    rw [List.pairwise_cons] at p
    have ih := idx_le hM (A := A) (B := B1 ++ B2) p.2 fun u hu => by
      obtain ⟨w, hw, ew⟩ := h u (.tail _ hu)
      have nb : w ≠ b := fun e' => p.1 u hu (by
        subst e'
        exact Lat.cast (hM.sub e ew) fun j => by omega)
      refine ⟨w, ?_, ew⟩
      simp only [List.mem_append, List.mem_cons] at hw ⊢
      rcases hw with h | h | h
      · exact .inl h
      · exact absurd h nb
      · exact .inr h
    simp only [List.length_append, List.length_cons] at ih ⊢
    omega
theorem Idx.uniq {L M : Vc → Prop} (hM : Lat M) {N K : Nat} (h : Idx L M N) (g : Idx L M K) : N = K := by
  obtain ⟨A, rfl, a1, a2, a3⟩ := h
  obtain ⟨B, rfl, b1, b2, b3⟩ := g
  exact Nat.le_antisymm (idx_le hM a2 fun u hu => b3 u (a1 u hu)) (idx_le hM b2 fun u hu => a3 u (b1 u hu))
theorem Idx.congr {L L' M M' : Vc → Prop} {N : Nat} (h : Idx L M N) (e1 : ∀ v, L v ↔ L' v) (e2 : ∀ v, M v ↔ M' v) : Idx L' M' N := by
  obtain ⟨A, a0, a1, a2, a3⟩ := h
  exact ⟨A, a0, fun u hu => (e1 u).mp (a1 u hu), a2.imp fun h' g => h' ((e2 _).mpr g), fun v hv => let ⟨u, hu, g⟩ := a3 v ((e1 v).mpr hv); ⟨u, hu, (e2 _).mp g⟩⟩
theorem Idx.self {L : Vc → Prop} (l : Lat L) : Idx L L 1 := ⟨[fun _ => 0], rfl, fun u hu => List.mem_singleton.mp hu ▸ l.z, List.pairwise_singleton _ _, fun v hv => ⟨_, .head _, Lat.cast hv fun j => by omega⟩⟩
theorem Idx.pos {L M : Vc → Prop} (l : Lat L) {N : Nat} (h : Idx L M N) : 1 ≤ N := by
  obtain ⟨A, rfl, a1, a2, a3⟩ := h
  obtain ⟨u, hu, _⟩ := a3 _ l.z
  exact List.length_pos_of_mem hu
theorem Idx.mul {L M Q : Vc → Prop} (hL : Lat L) (hM : Lat M) (sM : ∀ v, M v → L v) (sQ : ∀ v, Q v → M v) {N K : Nat} (h : Idx L M N) (g : Idx M Q K) : Idx L Q (N * K) := by
  obtain ⟨A, rfl, a1, a2, a3⟩ := h
  obtain ⟨B, rfl, b1, b2, b3⟩ := g
  refine ⟨A.flatMap fun a => B.map fun b => fun j => a j + b j, ?_, fun u hu => ?_, ?_, fun v hv => ?_⟩
  · rw [List.length_flatMap]
    have : (A.map fun a => (B.map fun b => fun j => a j + b j).length) = A.map fun _ => B.length := List.map_congr_left fun a _ => List.length_map _
    rw [this, List.map_const', List.sum_replicate_nat]
  · obtain ⟨a, ha, hu⟩ := List.mem_flatMap.mp hu
    obtain ⟨b, hb, rfl⟩ := List.mem_map.mp hu
    exact hL.add (a1 a ha) (sM b (b1 b hb))
  · rw [List.pairwise_flatMap]
    refine ⟨fun a _ => ?_, a2.imp fun {a a'} h' x hx y hy q => h' ?_⟩
    · rw [List.pairwise_map]
      exact b2.imp fun {b b'} h' q => h' (Lat.cast q fun j => by show (a j + b j) - (a j + b' j) = b j - b' j; omega)
    · obtain ⟨b, hb, rfl⟩ := List.mem_map.mp hx
      obtain ⟨b', hb', rfl⟩ := List.mem_map.mp hy
      exact Lat.cast (hM.add (sQ _ q) (hM.sub (b1 b' hb') (b1 b hb))) fun j => by show (a j + b j) - (a' j + b' j) + (b' j - b j) = a j - a' j; omega
  · obtain ⟨a, ha, e⟩ := a3 v hv
    obtain ⟨b, hb, e'⟩ := b3 _ e
    exact ⟨_, List.mem_flatMap.mpr ⟨a, ha, List.mem_map.mpr ⟨b, hb, rfl⟩⟩, Lat.cast e' fun j => by omega⟩
/-- a lattice by one more vector -/
theorem Idx.cyc {L M : Vc → Prop} (hL : Lat L) (hM : Lat M) {u : Vc} {b : Nat} (hb : 1 ≤ b) (hu : L u) (gen : ∀ v, L v → ∃ t : Int, M fun j => v j - t * u j) (bu : M fun j => (b : Int) * u j) (tor : ∀ t : Int, M (fun j => t * u j) → (b : Int) ∣ t) : Idx L M b := by
  refine ⟨(List.range b).map fun (t : Nat) => fun j => (t : Int) * u j, by simp, fun x hx => ?_, ?_, fun v hv => ?_⟩
  · obtain ⟨t, _, rfl⟩ := List.mem_map.mp hx
    exact hL.mul _ hu
  · rw [List.pairwise_map, List.pairwise_iff_getElem]
    intro i j hi hj hij q
    rw [List.length_range] at hi hj
    rw [List.getElem_range, List.getElem_range] at q
    have := tor ((i : Int) - j) (Lat.cast q fun k => by grind)
    have := Int.le_of_dvd (a := b) (b := (j : Int) - i) (by omega) (by rw [← Int.dvd_neg]; rwa [show -((j : Int) - i) = (i : Int) - j by omega])
    omega
  · obtain ⟨t, ht⟩ := gen v hv
    have h0 := Int.emod_nonneg t (b := (b : Int)) (by omega)
    have h1 := Int.emod_lt_of_pos t (b := (b : Int)) (by omega)
    refine ⟨_, List.mem_map.mpr ⟨(t % (b : Int)).toNat, List.mem_range.mpr (by omega), rfl⟩, ?_⟩
    refine Lat.cast (hM.add ht (hM.mul (t / b) bu)) fun j => ?_
    show _ = v j - ((t % b).toNat : Int) * u j
    rw [Int.toNat_of_nonneg h0]
    have := Int.mul_ediv_add_emod t b
    grind
end Hn

namespace Hn
/-! ### the index by the pivots -/
def pP : List Nat → List (List Int) → Int
  | c :: cs, r :: R => fv r c * pP cs R
  | _, _ => 1
theorem pP_set : ∀ {cs : List Nat} {R : List (List Int)} {k c : Nat} {r : List Int} (r' : List Int), cs[k]? = some c → R[k]? = some r → pP cs (R.set k r') * fv r c = fv r' c * pP cs R
  | [], _, k, c, r, r', h, _ => by simp at h
  | _ :: _, [], k, c, r, r', _, h => by simp at h
  | c0 :: cs, r0 :: R, 0, c, r, r', h1, h2 => by
    obtain rfl : c0 = c := by simpa using h1
    obtain rfl : r0 = r := by simpa using h2
    show fv r' c0 * pP cs R * fv r0 c0 = fv r' c0 * (fv r0 c0 * pP cs R)
    grind
  | c0 :: cs, r0 :: R, k + 1, c, r, r', h1, h2 => by
    have ih := pP_set (cs := cs) (R := R) (k := k) r' h1 h2
    show fv r0 c0 * pP cs (R.set k r') * fv r c = fv r' c * (fv r0 c0 * pP cs R)
    grind
theorem pP_pos {n : Nat} : ∀ {cs : List Nat} {R : List (List Int)}, (∀ (i c : Nat) (r : List Int), cs[i]? = some c → R[i]? = some r → 0 < fv r c) → 0 < pP cs R
  | [], _, _ => by unfold pP; decide
  | _ :: _, [], _ => by unfold pP; decide
  | c :: cs, r :: R, h => Int.mul_pos (h 0 c r rfl rfl) (pP_pos (n := n) fun i c' r' a b => h (i + 1) c' r' a b)
theorem pP_snoc : ∀ {cs : List Nat} {R : List (List Int)} {c : Nat} {r : List Int}, cs.length = R.length → pP (cs ++ [c]) (R ++ [r]) = pP cs R * fv r c
  | [], [], c, r, _ => by simp [pP]
  | [], _ :: _, _, _, h => by simp at h
  | _ :: _, [], _, _, h => by simp at h
  | c0 :: cs, r0 :: R, c, r, h => by
    have ih := pP_snoc (cs := cs) (R := R) (c := c) (r := r) (by simpa using h)
    show fv r0 c0 * pP (cs ++ [c]) (R ++ [r]) = fv r0 c0 * pP cs R * fv r c
    rw [ih]; grind
theorem sub_sorted : ∀ {cs ds : List Nat}, cs.Pairwise (· < ·) → ds.Pairwise (· < ·) → (∀ d ∈ ds, d ∈ cs) → ds.length ≤ cs.length ∧ (ds.length = cs.length → ds = cs)
  | [], ds, _, _, h => by
    cases ds with
    | nil => simp
    | cons d ds => exact absurd (h d (.head _)) (by simp)
  | c :: cs, [], _, _, _ => by simp
  | c :: cs, d :: ds, p, q, h => by
    rw [List.pairwise_cons] at p q
    by_cases e : d = c
    · subst e
      have ih := sub_sorted p.2 q.2 fun x hx => by
        rcases List.mem_cons.mp (h x (.tail _ hx)) with e | e
        · have := q.1 x hx; omega
        · exact e
      refine ⟨by simpa using ih.1, fun e => ?_⟩
      rw [ih.2 (by simpa using e)]
    · have dm : d ∈ cs := (List.mem_cons.mp (h d (.head _))).resolve_left e
      have ih := sub_sorted (cs := cs) (ds := d :: ds) p.2 (List.pairwise_cons.mpr q) fun x hx => by
        rcases List.mem_cons.mp hx with e2 | e2
        · exact e2 ▸ dm
        · have a := p.1 d dm
          have b := q.1 x e2
          rcases List.mem_cons.mp (h x (.tail _ e2)) with e3 | e3
          · omega
          · exact e3
      have := ih.1
      simp only [List.length_cons] at this ⊢
      exact ⟨by omega, fun e => by omega⟩
theorem Sp.sumz {R : Vc → Prop} {us : Nat → Vc} (y : Nat → Int) : ∀ {m : Nat}, (∀ t, t < m → y t = 0 ∨ Sp R (us t)) → Sp R fun j => sm m fun t => y t * us t j
  | 0, _ => Sp.zero.cast fun j => rfl
  | m + 1, h => by
    have ih := Sp.sumz y (m := m) fun t ht => h t (by omega)
    rcases h m (by omega) with e | e
    · refine ih.cast fun j => ?_
      show _ = sm m (fun t => y t * us t j) + y m * us m j
      rw [e]; omega
    · exact ((e.mul (y m)).plus ih).cast fun j => by
        show y m * us m j + _ = sm m (fun t => y t * us t j) + y m * us m j
        omega
/-- the columns of a lattice of the same rank inside -/
theorem EchR.cols_sub {n : Nat} {cs ds : List Nat} {C D : List (List Int)} (eC : EchR n cs C) (eD : EchR n ds D) (sub : ∀ r ∈ D, Sp (RL C) (fv r)) : D.length ≤ C.length ∧ (D.length = C.length → ds = cs) := by
  have h := sub_sorted eC.asc eD.asc fun d hd => by
    obtain ⟨i, hi⟩ := List.mem_iff_getElem?.mp hd
    have hl : i < D.length := by rw [← eD.len]; exact (List.getElem?_eq_some_iff.mp hi).1
    have hr := List.getElem?_eq_getElem hl
    obtain ⟨a, b, c⟩ := eD.row i d _ hi hr
    obtain ⟨i', r', e1, _⟩ := eC.lead_at b c (sub _ (List.mem_of_getElem? hr))
    exact List.mem_of_getElem? e1
  rw [eC.len, eD.len] at h
  exact h
theorem EchR.set {n : Nat} {cs : List Nat} {E : List (List Int)} (e : EchR n cs E) {k c : Nat} {r' : List Int} (hc : cs[k]? = some c) (hl : r'.length = n) (h0 : ∀ j, j < c → fv r' j = 0) (hp : 0 < fv r' c) : EchR n cs (E.set k r') := by
  refine ⟨by rw [List.length_set]; exact e.len, e.asc, e.lt, fun i c' r h1 h2 => ?_⟩
  rw [List.getElem?_set] at h2
  by_cases hk : k = i
  · subst hk
    rw [if_pos rfl] at h2
    split at h2
    · cases h2
      rw [hc] at h1; cases h1
      exact ⟨hl, h0, hp⟩
    · cases h2
  · rw [if_neg hk] at h2
    exact e.row i c' r h1 h2
theorem piv_step {n : Nat} {cs : List Nat} {C E : List (List Int)} (eC : EchR n cs C) (eE : EchR n cs E) {k c : Nat} {r r' : List Int} (hc : cs[k]? = some c) (hr : C[k]? = some r) (hE : ∀ i, k ≤ i → E[i]? = C[i]?) (hl : r'.length = n) (h0 : ∀ j, j < c → fv r' j = 0) (hp : 0 < fv r' c) (hs : Sp (RL C) (fv r')) :
    ∃ b : Nat, 1 ≤ b ∧ Idx (Sp (RL E)) (Sp (RL (E.set k r'))) b ∧ (∀ v, Sp (RL (E.set k r')) v → Sp (RL E) v) ∧ pP cs (E.set k r') = b * pP cs E ∧ ∀ v, Sp (RL E) v → Sp (RL (E.set k r')) fun j => (b : Int) * v j := by
  have kl : k < C.length := (List.getElem?_eq_some_iff.mp hr).1
  have El : E.length = C.length := by rw [← eE.len, eC.len]
  have eE' := eE.set hc hl h0 hp
  have hEk : E[k]? = some r := (hE k (Nat.le_refl _)).trans hr
  have ck : cs.getD k 0 = c := by rw [List.getD_eq_getElem?_getD, hc]; rfl
  have lt_c : ∀ i, i < k → cs.getD i 0 < c := fun i hi => by
    have hil : i < cs.length := by rw [eC.len]; omega
    rw [List.getD_eq_getElem?_getD, List.getElem?_eq_getElem hil]
    exact asc_lt eC.asc hi (List.getElem?_eq_getElem hil) hc
  have rp := (eC.row k c r hc hr).2.2
  have rz : ∀ i, i < k → fv r (cs.getD i 0) = 0 := fun i hi => (eC.row k c r hc hr).2.1 _ (lt_c i hi)
  obtain ⟨z, hz⟩ := RL_coef hs
  have z0 : ∀ i, i < k → z i = 0 := eC.tri.coef (v := fv r') hz (k := k) (by omega) fun i hi => h0 _ (lt_c i hi)
  have zk : fv r' c = z k * fv r c := by
    rw [hz, sm_one kl (fun s hs' hne => ?_), gt_at hr]
    by_cases hlt : s < k
    · rw [z0 s hlt, Int.zero_mul]
    · have := eC.tri.lo s k hs' (by omega)
      rw [ck] at this
      rw [this, Int.mul_zero]
  have zp : 0 < z k := by
    rw [zk] at hp
    exact Int.pos_of_mul_pos_left hp rp
  obtain ⟨b, hb⟩ : ∃ b : Nat, z k = (b : Int) := ⟨(z k).toNat, by omega⟩
  -- members
  have memE : ∀ i, i < E.length → Sp (RL E) (gt E i) := fun i hi => .of ⟨_, List.mem_of_getElem? (List.getElem?_eq_getElem hi), gt_at (List.getElem?_eq_getElem hi)⟩
  have memE' : ∀ i, i < E.length → i ≠ k → Sp (RL (E.set k r')) (gt E i) := fun i hi hne => .of ⟨E[i], List.mem_of_getElem? (i := i) (by rw [List.getElem?_set, if_neg (Ne.symm hne)]; exact List.getElem?_eq_getElem hi), gt_at (List.getElem?_eq_getElem hi)⟩
  have hE'k : (E.set k r')[k]? = some r' := by rw [List.getElem?_set, if_pos rfl, if_pos (by omega)]
  have memr' : Sp (RL (E.set k r')) (fv r') := .of ⟨r', List.mem_of_getElem? hE'k, rfl⟩
  have memr : Sp (RL E) (fv r) := .of ⟨r, List.mem_of_getElem? hEk, rfl⟩
  have gC : ∀ i, k ≤ i → gt C i = gt E i := fun i hi => by unfold gt; rw [List.getD_eq_getElem?_getD, List.getD_eq_getElem?_getD, hE i hi]
  have r'E : Sp (RL E) (fv r') := (Sp.sumz (us := gt C) z (m := C.length) fun t ht => by
    by_cases hlt : t < k
    · exact .inl (z0 t hlt)
    · rw [gC t (by omega)]; exact .inr (memE t (by omega))).cast fun j => (hz j).symm
  have sub : ∀ v, Sp (RL (E.set k r')) v → Sp (RL E) v := fun v hv => by
    obtain ⟨y, hy⟩ := RL_coef hv
    refine (Sp.sumz (us := gt (E.set k r')) y (m := (E.set k r').length) fun t ht => .inr ?_).cast fun j => (hy j).symm
    rw [List.length_set] at ht
    by_cases e : t = k
    · rw [e, gt_at hE'k]; exact r'E
    · have : (E.set k r')[t]? = some E[t] := by rw [List.getElem?_set, if_neg (Ne.symm e)]; exact List.getElem?_eq_getElem ht
      rw [gt_at this, ← gt_at (List.getElem?_eq_getElem ht)]
      exact memE t ht
  have gen : ∀ v, Sp (RL E) v → ∃ t : Int, Sp (RL (E.set k r')) fun j => v j - t * fv r j := fun v hv => by
    obtain ⟨y, hy⟩ := RL_coef hv
    refine ⟨y k, ?_⟩
    refine (Sp.sumz (us := gt E) (fun s => if s = k then 0 else y s) (m := E.length) fun t ht => ?_).cast fun j => ?_
    · by_cases e : t = k
      · exact .inl (if_pos e)
      · exact .inr (memE' t ht e)
    · have e1 : sm E.length (fun s => (if s = k then y k else 0) * gt E s j) = y k * fv r j := by
        rw [sm_one (by omega : k < E.length) (fun s _ hne => by rw [if_neg hne, Int.zero_mul]), if_pos rfl, gt_at hEk]
      have e2 : v j = sm E.length (fun s => (if s = k then 0 else y s) * gt E s j) + sm E.length (fun s => (if s = k then y k else 0) * gt E s j) := by
        rw [hy, ← sm_add]
        exact sm_congr fun s _ => by
          by_cases e : s = k
          · rw [if_pos e, if_pos e, e]; omega
          · rw [if_neg e, if_neg e]; omega
      rw [e2, e1]; omega
  have bu : Sp (RL (E.set k r')) fun j => (b : Int) * fv r j := by
    have h1 : Sp (RL (E.set k r')) (fun j => sm C.length fun s => (if s = k then 0 else z s) * gt C s j) := Sp.sumz (us := gt C) (fun s => if s = k then 0 else z s) fun t ht => by
      by_cases e : t = k
      · exact .inl (if_pos e)
      · by_cases hlt : t < k
        · exact .inl (by rw [if_neg e]; exact z0 t hlt)
        · rw [gC t (by omega)]
          exact .inr (memE' t (by omega) e)
    refine ((Lat.sp _).sub memr' h1).cast fun j => ?_
    have e1 : sm C.length (fun s => (if s = k then z k else 0) * gt C s j) = z k * fv r j := by
      rw [sm_one kl (fun s _ hne => by rw [if_neg hne, Int.zero_mul]), if_pos rfl, gt_at hr]
    have e2 : fv r' j = sm C.length (fun s => (if s = k then 0 else z s) * gt C s j) + sm C.length (fun s => (if s = k then z k else 0) * gt C s j) := by
      rw [hz, ← sm_add]
      exact sm_congr fun s _ => by
        by_cases e : s = k
        · rw [if_pos e, if_pos e, e]; omega
        · rw [if_neg e, if_neg e]; omega
    rw [e2, e1, hb]; omega
  refine ⟨b, by omega, Idx.cyc (u := fv r) (Lat.sp _) (Lat.sp _) (by omega) memr gen bu (fun t ht => ?_), sub, ?_, fun v hv => ?_⟩
  · obtain ⟨y, hy⟩ := RL_coef ht
    have El' : (E.set k r').length = C.length := by rw [List.length_set]; exact El
    have y0 : ∀ i, i < k → y i = 0 := eE'.tri.coef (v := fun j => t * fv r j) hy (k := k) (by omega) fun i hi => by
      show t * fv r (cs.getD i 0) = 0
      rw [rz i hi, Int.mul_zero]
    have yk : t * fv r c = y k * fv r' c := by
      rw [show t * fv r c = _ from hy c, sm_one (by omega : k < (E.set k r').length) (fun s hs' hne => ?_), gt_at hE'k]
      by_cases hlt : s < k
      · rw [y0 s hlt, Int.zero_mul]
      · have := eE'.tri.lo s k hs' (by omega)
        rw [ck] at this
        rw [this, Int.mul_zero]
    rw [zk, hb, ← Int.mul_assoc] at yk
    have := Int.eq_of_mul_eq_mul_right (by omega) yk
    exact ⟨y k, by rw [this, Int.mul_comm]⟩
  · have := pP_set r' hc hEk
    rw [zk, hb] at this
    exact Int.eq_of_mul_eq_mul_right (a := fv r c) (by omega) (by rw [this]; grind)
  · obtain ⟨t, ht⟩ := gen v hv
    exact ((ht.mul (b : Int)).plus (bu.mul t)).cast fun j => by grind
theorem Idx.piv {n : Nat} {cs : List Nat} {C D : List (List Int)} (eC : EchR n cs C) (eD : EchR n cs D) (sub : ∀ r ∈ D, Sp (RL C) (fv r)) : ∃ N : Nat, 1 ≤ N ∧ Idx (Sp (RL C)) (Sp (RL D)) N ∧ pP cs D = N * pP cs C ∧ ∀ v, Sp (RL C) v → Sp (RL D) fun j => (N : Int) * v j := by
  have Dl : D.length = C.length := by rw [← eD.len, eC.len]
  have key : ∀ k, k ≤ C.length → ∃ (E : List (List Int)) (N : Nat), 1 ≤ N ∧ EchR n cs E ∧ (∀ i, k ≤ i → E[i]? = C[i]?) ∧ (∀ i, i < k → E[i]? = D[i]?) ∧ Idx (Sp (RL C)) (Sp (RL E)) N ∧ (∀ v, Sp (RL E) v → Sp (RL C) v) ∧ pP cs E = N * pP cs C ∧ ∀ v, Sp (RL C) v → Sp (RL E) fun j => (N : Int) * v j := by
    intro k
    induction k with
    | zero => exact fun _ => ⟨C, 1, Nat.le_refl _, eC, fun _ _ => rfl, fun i hi => by omega, Idx.self (Lat.sp _), fun _ h => h, by simp, fun v hv => hv.cast fun j => by simp⟩
    | succ k ih =>
      intro hk
      obtain ⟨E, N, n1, eE, a1, a2, a3, a4, a5, a6⟩ := ih (by omega)
      have hcl : k < cs.length := by rw [eC.len]; omega
      have hc : cs[k]? = some cs[k] := List.getElem?_eq_getElem hcl
      have hr : C[k]? = some C[k] := List.getElem?_eq_getElem (by omega)
      have hdl : k < D.length := by omega
      have hd : D[k]? = some D[k] := List.getElem?_eq_getElem hdl
      obtain ⟨d1, d2, d3⟩ := eD.row k _ _ hc hd
      obtain ⟨b, b1, b2, b3, b4, b5⟩ := piv_step eC eE hc hr a1 d1 d2 d3 (sub _ (List.mem_of_getElem? hd))
      refine ⟨E.set k D[k], N * b, Nat.mul_pos n1 b1, eE.set hc d1 d2 d3, fun i hi => ?_, fun i hi => ?_, Idx.mul (Lat.sp _) (Lat.sp _) a4 b3 a3 b2, fun v hv => a4 v (b3 v hv), by rw [b4, a5, Int.natCast_mul]; grind, fun v hv => (b5 _ (a6 v hv)).cast fun j => by rw [Int.natCast_mul]; grind⟩
      · rw [List.getElem?_set, if_neg (by omega)]; exact a1 i (by omega)
      · rw [List.getElem?_set]
        by_cases e : k = i
        · subst e
          have El : E.length = C.length := by rw [← eE.len, eC.len]
          rw [if_pos rfl, if_pos (by omega), hd]
        · rw [if_neg e]; exact a2 i (by omega)
  obtain ⟨E, N, n1, eE, a1, a2, a3, a4, a5, a6⟩ := key C.length (Nat.le_refl _)
  have : E = D := List.ext_getElem? fun i => by
    by_cases h : i < C.length
    · exact a2 i h
    · rw [a1 i (by omega), List.getElem?_eq_none (by omega), List.getElem?_eq_none (by omega)]
  subst this
  exact ⟨N, n1, a3, a5, a6⟩
end Hn

namespace Hn
/-! ### a lattice of full rank by its dual -/
/-- every vector, times top, in the rows -/
theorem dual_sum {n m : Nat} {T : Nat → Vc} {top : Int} {Cf : Nat → Nat → Int} (hC : ∀ i, i < n → ∀ j, (if j = i then top else 0) = sm m fun k => Cf i k * T k j) {v : Vc} (hv : ∀ j, n ≤ j → v j = 0) (j : Nat) :
    top * v j = sm m fun k => (sm n fun i => Cf i k * v i) * T k j := by
  have e1 : sm m (fun k => (sm n fun i => Cf i k * v i) * T k j) = sm m (fun k => sm n fun i => v i * (Cf i k * T k j)) := sm_congr fun k _ => by
    rw [← sm_mulr]
    exact sm_congr fun i _ => by grind
  rw [e1, sm_swap]
  have e2 : sm n (fun i => sm m fun k => v i * (Cf i k * T k j)) = sm n fun i => v i * (if j = i then top else 0) := sm_congr fun i hi => by rw [sm_mul, ← hC i hi j]
  rw [e2]
  by_cases hj : j < n
  · rw [sm_one hj (fun i _ hne => by rw [if_neg (Ne.symm hne), Int.mul_zero]), if_pos rfl, Int.mul_comm]
  · rw [hv j (by omega), Int.mul_zero]
    exact (sm_zero fun i hi => by rw [if_neg (by omega), Int.mul_zero]).symm
theorem dual_in {n : Nat} {cs : List Nat} {R : List (List Int)} (e : EchR n cs R) {top : Int} (t0 : top ≠ 0) {Cf : Nat → Nat → Int} (hC : ∀ i, i < n → ∀ j, (if j = i then top else 0) = sm R.length fun k => Cf i k * gt R k j) {v : Vc} (hv : ∀ j, n ≤ j → v j = 0) :
    Sp (RL R) v ↔ ∀ k, k < R.length → top ∣ sm n fun i => Cf i k * v i := by
  have key := dual_sum hC hv
  constructor
  · intro h
    obtain ⟨z, hz⟩ := RL_coef h
    have z0 : ∀ j, (0 : Int) = sm R.length fun k => ((sm n fun i => Cf i k * v i) - top * z k) * gt R k j := fun j => by
      have e1 : sm R.length (fun k => ((sm n fun i => Cf i k * v i) - top * z k) * gt R k j) = sm R.length (fun k => (sm n fun i => Cf i k * v i) * gt R k j + (-top) * (z k * gt R k j)) := sm_congr fun k _ => by grind
      rw [e1, sm_add, sm_mul, ← key j, ← hz j]
      grind
    intro k hk
    have := e.tri.coef (v := fun _ => 0) z0 (k := R.length) (Nat.le_refl _) (fun i hi => rfl) k hk
    exact ⟨z k, by omega⟩
  · intro h
    have hq : ∀ k, ∃ q : Int, k < R.length → (sm n fun i => Cf i k * v i) = top * q := fun k => by
      by_cases hk : k < R.length
      · obtain ⟨q, hq⟩ := h k hk
        exact ⟨q, fun _ => hq⟩
      · exact ⟨0, fun h => absurd h hk⟩
    obtain ⟨q, hq⟩ := Classical.axiomOfChoice hq
    have ev : v = fun j => sm R.length fun k => q k * gt R k j := funext fun j => by
      have e1 : sm R.length (fun k => (sm n fun i => Cf i k * v i) * gt R k j) = top * sm R.length fun k => q k * gt R k j := by
        rw [← sm_mul]
        exact sm_congr fun k hk => by rw [hq k hk, Int.mul_assoc]
      exact Int.eq_of_mul_eq_mul_left t0 (by rw [key j, e1])
    rw [ev]
    exact Sp.sum q fun k hk => by
      have hr : R[k]? = some (R[k]'hk) := List.getElem?_eq_getElem hk
      rw [gt_at hr]
      exact Sp.of ⟨_, List.mem_of_getElem? hr, rfl⟩
theorem sp_dvd {n : Nat} {L : List (List Int)} {s : Int} {v w : Vc} (h : ∀ r ∈ L, s ∣ dv n (fv r) v) (hw : Sp (RL L) w) : s ∣ dv n w v := by
  induction hw with
  | zero => exact ⟨0, by unfold dv; rw [Int.mul_zero]; exact sm_zero fun i _ => by simp⟩
  | @add u w k hu _ ih =>
    obtain ⟨r, hr, rfl⟩ := hu
    rw [dv_addl]
    exact Int.dvd_add (Int.dvd_trans (h r hr) (Int.dvd_mul_left _ _)) ih
/-- the lattice is what the forms of its dual say -/
theorem dual_lat {n : Nat} {cs : List Nat} {R cols D : List (List Int)} (e : EchR n cs R) {top c scale : Int} (c0 : c ≠ 0) (ht : top = c * scale) (t0 : top ≠ 0) {Cf : Nat → Nat → Int} (hC : ∀ i, i < n → ∀ j, (if j = i then top else 0) = sm R.length fun k => Cf i k * gt R k j)
    (hl : cols.length = R.length) (hcol : ∀ k, k < R.length → ∀ i, i < n → Cf i k = c * gt cols k i) (hD : ∀ v, Sp (RL D) v ↔ Sp (RL cols) v) {v : Vc} (hv : ∀ j, n ≤ j → v j = 0) :
    Sp (RL R) v ↔ ∀ d ∈ D, scale ∣ dv n (fv d) v := by
  rw [dual_in e t0 hC hv]
  have ek : ∀ k, k < R.length → ((top ∣ sm n fun i => Cf i k * v i) ↔ scale ∣ dv n (gt cols k) v) := fun k hk => by
    have e1 : (sm n fun i => Cf i k * v i) = c * dv n (gt cols k) v := by
      unfold dv
      rw [← sm_mul]
      exact sm_congr fun i hi => by rw [hcol k hk i hi, Int.mul_assoc]
    rw [e1, ht]
    exact Int.mul_dvd_mul_iff_left c0
  constructor
  · intro h d hd
    refine sp_dvd (L := cols) (fun r hr => ?_) ((hD _).mp (Sp.of ⟨d, hd, rfl⟩))
    obtain ⟨k, hk⟩ := List.mem_iff_getElem?.mp hr
    have kl := (List.getElem?_eq_some_iff.mp hk).1
    have := (ek k (by omega)).mp (h k (by omega))
    rwa [gt_at hk] at this
  · intro h k hk
    have hr : cols[k]? = some (cols[k]'(by omega)) := List.getElem?_eq_getElem (by omega)
    refine (ek k hk).mpr ?_
    rw [gt_at hr]
    exact sp_dvd h ((hD _).mpr (Sp.of ⟨_, List.mem_of_getElem? hr, rfl⟩))
/-! ### full rank -/
theorem asc_gap {cs : List Nat} (h : cs.Pairwise (· < ·)) {i : Nat} : ∀ (d : Nat) (hj : i + d < cs.length), cs[i]'(by omega) + d ≤ cs[i + d]
  | 0, _ => Nat.le_refl _
  | d + 1, hj => by
    have h1 := asc_gap h (i := i) d (by omega)
    have h2 := List.pairwise_iff_getElem.mp h (i + d) (i + (d + 1)) (by omega) hj (by omega)
    omega
theorem EchR.full {n : Nat} {cs : List Nat} {R : List (List Int)} (e : EchR n cs R) (h : R.length = n) : cs = List.range n := by
  have cl : cs.length = n := by rw [e.len, h]
  refine List.ext_getElem (by rw [List.length_range, cl]) fun i h1 h2 => ?_
  rw [List.getElem_range]
  have a := asc_gap e.asc (i := 0) i (by omega)
  have b := asc_gap e.asc (i := i) (n - 1 - i) (by omega)
  have c := e.lt _ (List.getElem_mem (by omega : i + (n - 1 - i) < cs.length))
  have z : cs[0 + i]'(by omega) = cs[i] := by congr 1; omega
  omega
/-- the rows of the unit form -/
def unL (n : Nat) : List (List Int) := (List.range n).map fun k => (List.range n).map fun j => if j = k then 1 else 0
theorem un_fv {n k : Nat} {r : List Int} (hr : (unL n)[k]? = some r) (j : Nat) : k < n ∧ r.length = n ∧ fv r j = if j = k then 1 else 0 := by
  unfold unL at hr
  rw [List.getElem?_map] at hr
  obtain ⟨k', hk, rfl⟩ := Option.map_eq_some_iff.mp hr
  have hl := (List.getElem?_eq_some_iff.mp hk)
  obtain ⟨hl, e⟩ := hl
  rw [List.getElem_range] at e
  rw [List.length_range] at hl
  subst e
  refine ⟨hl, by simp, ?_⟩
  by_cases hj : j < n
  · exact fv_at (by rw [List.getElem?_map, List.getElem?_range hj]; rfl)
  · rw [fv_out (by simp; omega), if_neg (by omega)]
theorem un_ech (n : Nat) : EchR n (List.range n) (unL n) := by
  refine ⟨by simp [unL], List.pairwise_lt_range, fun c hc => List.mem_range.mp hc, fun i c r hc hr => ?_⟩
  have hi := (List.getElem?_eq_some_iff.mp hc)
  obtain ⟨hi, e⟩ := hi
  rw [List.getElem_range] at e
  subst e
  refine ⟨(un_fv hr 0).2.1, fun j hj => ?_, ?_⟩
  · rw [(un_fv hr j).2.2, if_neg (by omega)]
  · rw [(un_fv hr _).2.2, if_pos rfl]; decide
theorem un_all {n : Nat} {v : Vc} (hv : ∀ j, n ≤ j → v j = 0) : Sp (RL (unL n)) v := by
  have e : v = fun j => sm n fun k => v k * gt (unL n) k j := funext fun j => by
    have at_ : ∀ k, k < n → ∀ j, gt (unL n) k j = if j = k then 1 else 0 := fun k hk j => by
      have hr : (unL n)[k]? = some ((unL n)[k]'(by simp [unL]; exact hk)) := List.getElem?_eq_getElem _
      rw [gt_at hr]
      exact (un_fv hr j).2.2
    by_cases hj : j < n
    · rw [sm_one hj (fun k hk hne => by rw [at_ k hk, if_neg (Ne.symm hne), Int.mul_zero]), at_ j hj, if_pos rfl, Int.mul_one]
    · rw [hv j (by omega)]
      exact (sm_zero fun k hk => by rw [at_ k hk, if_neg (by omega), Int.mul_zero]).symm
  rw [e]
  refine Sp.sum v fun k hk => ?_
  have hr : (unL n)[k]? = some ((unL n)[k]'(by simp [unL]; exact hk)) := List.getElem?_eq_getElem _
  rw [gt_at hr]
  exact Sp.of ⟨_, List.mem_of_getElem? hr, rfl⟩
theorem pP_un : ∀ {cs : List Nat} {R : List (List Int)}, (∀ (i c : Nat) (r : List Int), cs[i]? = some c → R[i]? = some r → fv r c = 1) → pP cs R = 1
  | [], _, _ => rfl
  | _ :: _, [], _ => rfl
  | c :: cs, r :: R, h => by
    rw [pP, h 0 c r rfl rfl, pP_un fun i c r h1 h2 => h (i + 1) c r (by simpa using h1) (by simpa using h2)]
    rfl
/-- of full rank: the product of the pivots times any vector lies in it -/
theorem EchR.top {n : Nat} {cs : List Nat} {R : List (List Int)} (e : EchR n cs R) (h : R.length = n) {v : Vc} (hv : ∀ j, n ≤ j → v j = 0) : Sp (RL R) fun j => pP cs R * v j := by
  have ec := e.full h
  subst ec
  obtain ⟨N, N1, _, hN, ht⟩ := Idx.piv (un_ech n) e fun r hr => un_all fun j hj => by
    obtain ⟨i, hi⟩ := List.mem_iff_getElem?.mp hr
    have hl := (List.getElem?_eq_some_iff.mp hi).1
    have hc : (List.range n)[i]? = some i := List.getElem?_range (by omega)
    exact fv_out (by rw [(e.row i i r hc hi).1]; exact hj)
  have p1 : pP (List.range n) (unL n) = 1 := pP_un fun i c r h1 h2 => by
    obtain ⟨hi, e⟩ := List.getElem?_eq_some_iff.mp h1
    rw [List.getElem_range] at e
    subst e
    rw [(un_fv h2 _).2.2, if_pos rfl]
  rw [hN, p1, Int.mul_one]
  exact ht v (un_all hv)
/-! ### coordinates are bounded -/
theorem sm_cut {f : Nat → Int} {k : Nat} : ∀ {m : Nat}, k ≤ m → (∀ s, k ≤ s → s < m → f s = 0) → sm m f = sm k f
  | 0, h, _ => by rw [show k = 0 by omega]
  | m + 1, h, hz => by
    by_cases e : k = m + 1
    · rw [e]
    · show sm m f + f m = _
      rw [hz m (by omega) (by omega), sm_cut (by omega) fun s h1 h2 => hz s h1 (by omega), Int.add_zero]
theorem sm_geo {f : Nat → Int} {B : Nat} : ∀ {k : Nat}, (∀ s, s < k → (f s).natAbs ≤ B * (B * (1 + B) ^ s)) → (sm k f).natAbs + B ≤ B * (1 + B) ^ k
  | 0, _ => by show (0 : Int).natAbs + B ≤ B * 1; omega
  | k + 1, h => by
    have h1 := sm_geo (k := k) fun s hs => h s (by omega)
    have h2 := h k (by omega)
    show (sm k f + f k).natAbs + B ≤ _
    have e : B * (1 + B) ^ (k + 1) = B * (1 + B) ^ k + B * (B * (1 + B) ^ k) := by rw [Nat.pow_succ]; grind
    rw [e]
    omega
theorem crd_bnd {n : Nat} {cs : List Nat} {R : List (List Int)} (e : EchR n cs R) {B : Nat} (hR : ∀ r ∈ R, bnd B (fv r)) {z : Nat → Int} {v : Vc} (hv : ∀ j, (v j).natAbs ≤ B) (hz : ∀ j, v j = sm R.length fun s => z s * gt R s j) : ∀ i, i < R.length → (z i).natAbs ≤ B * (1 + B) ^ i := by
  intro i
  induction i using Nat.strongRecOn with
  | ind i ih =>
    intro hi
    have t := e.tri
    have at_ : ∀ s, s < R.length → ∀ j, (gt R s j).natAbs ≤ B := fun s hs j => by
      have hr : R[s]? = some (R[s]'hs) := List.getElem?_eq_getElem hs
      rw [gt_at hr]
      exact hR _ (List.mem_of_getElem? hr) j
    have hp := t.nz i hi
    have e1 : v (cs.getD i 0) = sm i (fun s => z s * gt R s (cs.getD i 0)) + z i * gt R i (cs.getD i 0) := by
      rw [hz, sm_cut (k := i + 1) (by omega) fun s h1 h2 => by rw [t.lo s i h2 (by omega), Int.mul_zero]]
      rfl
    have g := sm_geo (f := fun s => z s * gt R s (cs.getD i 0)) (B := B) (k := i) fun s hs => by
      rw [Int.natAbs_mul, Nat.mul_comm]
      exact Nat.mul_le_mul (at_ s (by omega) _) (ih s hs (by omega))
    have vb := hv (cs.getD i 0)
    have zp : (z i).natAbs ≤ (z i * gt R i (cs.getD i 0)).natAbs := by
      rw [Int.natAbs_mul]
      exact Nat.le_mul_of_pos_right _ (by omega)
    have e2 : (z i * gt R i (cs.getD i 0)).natAbs ≤ (v (cs.getD i 0)).natAbs + (sm i fun s => z s * gt R s (cs.getD i 0)).natAbs := by omega
    omega
theorem fdiv_du {c x : Int} (c0 : c ≠ 0) : (c * x).fdiv c = x := by rw [Int.mul_comm]; exact Int.mul_fdiv_cancel _ c0
end Hn

set_option maxHeartbeats 4000000
namespace Hg
open PySem PySem.Spec PyProof.Rows L2
/-! ### products of pivots, class counts, saturations -/
section
variable {X : Cx}
def ipM : TIp := fun x y H Q => ∃ i j, x = .int i ∧ y = .int j ∧ CMulB i j ∧ Q (.int (i * j)) H
theorem ip_mulB : PIp X .Mult ipM := by
  intro pins s σ H x y v u Q I r1 r2 h
  obtain ⟨i, j, e1, e2, hc, q⟩ := h
  subst e1; subst e2
  obtain ⟨t, rfl⟩ := r1
  obtain ⟨t', rfl⟩ := r2
  exact PyProof.Rows.imul_int ⟨.int _, H, I.tok _, ⟨_, rfl⟩, q⟩ hc.ok
end
theorem seeXc {CX : CXT} {P : Program} {w : World} {K : PySem.W.Frag} {mg : Str → Option Value} {base : Heap} {N ps : List Str} {qual : Str} {scope : Scope} {f : Addr} {cd : Value} {A : Around} {outer : List Env} {s : Shared} {H : Hp} {E : XK}
    (NS : base.NoSeer) (hP : P.given.tree = none) (hr : Room 32 (A.deeper (envOfC qual scope s.heap.objs.size f cd))) (S : FnScope N ps scope) : SeeX (cxOf CX P w K mg base N qual scope f cd A outer s H E) :=
  ⟨NS, hP, rfl, S.gen, S.co, by
    have h := hr.dp
    have e : Builtin.pylongFrames = 100 := rfl
    show (A.deeper (envOfC qual scope s.heap.objs.size f cd)).depth + Builtin.pylongFrames < recursionLimit
    omega⟩
theorem pP_le {x : Nat} : ∀ {cs : List Nat} {R : List (List Int)}, (∀ r ∈ R, Hn.bnd (2 ^ x) (Hn.fv r)) → (Hn.pP cs R).natAbs ≤ 2 ^ (x * R.length)
  | [], R, _ => by unfold Hn.pP; exact Nat.one_le_two_pow
  | _ :: _, [], _ => by unfold Hn.pP; exact Nat.one_le_two_pow
  | c :: cs, r :: R, h => by
    have ih := pP_le (cs := cs) (R := R) fun q hq => h q (.tail _ hq)
    show (Hn.fv r c * Hn.pP cs R).natAbs ≤ _
    rw [Int.natAbs_mul, List.length_cons, Nat.mul_add, Nat.mul_one, Nat.add_comm, Nat.pow_add]
    exact Nat.mul_le_mul (h r (.head _) c) ih
def sp_pivot_product (K : PySem.W.Frag) : Sp := fun vs H Q _ => ∃ (k : Bool) (a : Addr) (n x : Nat) (cs : List Nat) (xs : List V) (R : List (List Int)), vs = [.ref a] ∧ SqK K k H a xs ∧ RowsK K H xs R ∧ Hn.EchR n cs R ∧ n ≤ 100 ∧ R.length ≤ 100 ∧ (∀ r ∈ R, Hn.bnd (2 ^ x) (Hn.fv r)) ∧ x * R.length < 40000000 ∧ x < 40000000 ∧ Q (.int (Hn.pP cs R)) H
/-- the class count, or a raise where the other one is not inside -/
def sp_class_count (K : PySem.W.Frag) : Sp := fun vs H Q E => ∃ (k l : Bool) (a b : Addr) (n x : Nat) (cs ds : List Nat) (xs ys : List V) (R S : List (List Int)), vs = [.ref a, .ref b] ∧ SqK K k H a xs ∧ RowsK K H xs R ∧ SqK K l H b ys ∧ RowsK K H ys S ∧
  Hn.EchR n cs R ∧ Hn.EchR n ds S ∧ n ≤ 100 ∧ R.length ≤ 100 ∧ S.length ≤ 100 ∧ (∀ r ∈ R, Hn.bnd (2 ^ x) (Hn.fv r)) ∧ (∀ r ∈ S, Hn.bnd (2 ^ x) (Hn.fv r)) ∧ x + (x + 1) * R.length < 40000000 ∧ x * S.length < 40000000 ∧
  ((¬ ∀ r ∈ S, Hn.Sp (Hn.RL R) (Hn.fv r)) → ∀ H', Ex H H' → ∀ C, PySem.W.nsIn K mainGlobals "NotInside" = some (some (.ref C)) → E (.ref C) none H') ∧
  ((∀ r ∈ S, Hn.Sp (Hn.RL R) (Hn.fv r)) → ∀ (H' : Hp) (N : Nat), Ex H H' → N ≤ 2 ^ (x * S.length) → (S.length < R.length → N = 0) → (S.length = R.length → 1 ≤ N ∧ Hn.Idx (Hn.Sp (Hn.RL R)) (Hn.Sp (Hn.RL S)) N ∧ ∀ v, Hn.Sp (Hn.RL R) v → Hn.Sp (Hn.RL S) fun j => (N : Int) * v j) → Q (.int (N : Nat)) H')
theorem sm_ech {x c : Nat} (h : x + (x + 1) * c < 40000000) : sm8 (2 ^ x * (1 + 2 ^ x) ^ c) := by
  refine Nat.lt_of_le_of_lt (Hn.log_le (e := x + (x + 1) * c) ?_) h
  rw [Nat.pow_add, Nat.pow_mul]
  refine Nat.mul_le_mul_left _ (Nat.pow_le_pow_left ?_ _)
  rw [Nat.pow_succ]
  have : 1 ≤ 2 ^ x := Nat.one_le_two_pow
  omega
/-- columns of rows -/
def colsL (n : Nat) (R : List (List Int)) : List (List Int) := (List.range n).map fun k => R.map fun r => Hn.fv r k
end Hg
namespace Hn
theorem vanish_iff {n : Nat} {R : List (List Int)} (v : Vc) (h0 : ∀ j, n ≤ j → v j = 0) : Sp (RL []) (imgV (Hg.colsL n R) v) ↔ ∀ r ∈ R, dv n (fv r) v = 0 := by
  have cl : (Hg.colsL n R).length = n := by simp [Hg.colsL]
  have at_ : ∀ (i : Nat) (r : List Int), R[i]? = some r → imgV (Hg.colsL n R) v i = dv n (fv r) v := fun i r hr => by
    unfold imgV dv
    rw [cl]
    exact sm_congr fun k hk => by
      congr 1
      rw [List.getD_eq_getElem?_getD, Hg.colsL, List.getElem?_map, List.getElem?_range hk]
      exact fv_at (by show (R.map fun r => fv r k)[i]? = _; rw [List.getElem?_map, hr]; rfl)
  have out : ∀ i, R.length ≤ i → imgV (Hg.colsL n R) v i = 0 := fun i hi => by
    unfold imgV
    rw [cl]
    refine sm_zero fun k hk => ?_
    rw [List.getD_eq_getElem?_getD, Hg.colsL, List.getElem?_map, List.getElem?_range hk]
    show fv (R.map fun r => fv r k) i * v k = 0
    rw [fv_out (by rw [List.length_map]; exact hi), Int.zero_mul]
  constructor
  · intro h r hr
    obtain ⟨i, hi⟩ := List.mem_iff_getElem?.mp hr
    rw [← at_ i r hi]
    exact h.at0 fun u ⟨q, hq, _⟩ => by cases hq
  · intro h
    refine Sp.zero.cast fun j => ?_
    by_cases hj : j < R.length
    · rw [at_ j _ (List.getElem?_eq_getElem hj)]; exact (h _ (List.getElem_mem hj)).symm
    · exact (out j (by omega)).symm
def VanP (n : Nat) (R : List (List Int)) (v : Vc) : Prop := (∀ j, n ≤ j → v j = 0) ∧ ∀ r ∈ R, dv n (fv r) v = 0
/-- the saturation: what every form that vanishes on the lattice vanishes at -/
def SatP (n : Nat) (R : List (List Int)) (v : Vc) : Prop := (∀ j, n ≤ j → v j = 0) ∧ ∀ x, VanP n R x → dv n x v = 0
theorem sat_of {n : Nat} {R C : List (List Int)} (h : Hnf n (VanP n R) C) (v : Vc) : VanP n C v ↔ SatP n R v := by
  constructor
  · rintro ⟨a, b⟩
    have key : ∀ x, Sp (RL C) x → dv n x v = 0 := fun x hs => by
      induction hs with
      | zero => exact sm_zero fun i _ => by simp
      | @add u w k hu _ ih =>
        obtain ⟨r, hr, rfl⟩ := hu
        rw [dv_addl, ih, b r hr]; simp
    exact ⟨a, fun x hx => key x ((h.span x).mp hx)⟩
  · rintro ⟨a, b⟩
    exact ⟨a, fun r hr => b _ ((h.span _).mpr (.of ⟨r, hr, rfl⟩))⟩
end Hn
namespace Hg
open PySem PySem.Spec PyProof.Rows L2
def sp_vanishing (K : PySem.W.Frag) : Sp := fun vs H Q _ => ∃ (k : Bool) (a : Addr) (n M : Nat) (xs : List V) (R : List (List Int)), vs = [.ref a, .int (n : Nat)] ∧ SqK K k H a xs ∧ RowsK K H xs R ∧ 1 ≤ n ∧ R.length + n ≤ 100 ∧ (∀ r ∈ R, r.length = n ∧ Hn.bnd M (Hn.fv r)) ∧ 1 ≤ M ∧ rm (R.length + n) M ∧
  ∀ (H' : Hp) (p : Addr) (as : List Addr) (C : List (List Int)), Ex H H' → H' p = some (.tup (as.map V.ref)) → RowsIn H' as C → Hn.Hnf n (Hn.VanP n R) C → (∀ r ∈ C, r.length = n ∧ Hn.bnd (Hn.hB (R.length + n) M) (Hn.fv r)) → Q (.ref p) H'
def sp_saturation (K : PySem.W.Frag) : Sp := fun vs H Q _ => ∃ (k : Bool) (a : Addr) (n M M2 : Nat) (xs : List V) (R : List (List Int)), vs = [.ref a, .int (n : Nat)] ∧ SqK K k H a xs ∧ RowsK K H xs R ∧ 1 ≤ n ∧ n ≤ 50 ∧ R.length ≤ n ∧ (∀ r ∈ R, r.length = n ∧ Hn.bnd M (Hn.fv r)) ∧ 1 ≤ M ∧ 1 ≤ M2 ∧ rm (R.length + n) M ∧ (∀ N, N ≤ n + n → rm N M2) ∧
  (∀ C, Hn.Hnf n (Hn.VanP n R) C → (∀ r ∈ C, Hn.bnd (Hn.hB (R.length + n) M) (Hn.fv r)) → ∀ r ∈ C, Hn.bnd M2 (Hn.fv r)) ∧
  ∀ (H' : Hp) (p : Addr) (as : List Addr) (C C1 : List (List Int)), Ex H H' → H' p = some (.tup (as.map V.ref)) → RowsIn H' as C → Hn.Hnf n (Hn.SatP n R) C → (∀ r ∈ C, r.length = n) → Hn.Hnf n (Hn.VanP n R) C1 → (∀ r ∈ C1, Hn.bnd M2 (Hn.fv r)) → Q (.ref p) H'
def sp_l_basisS (_ : PySem.W.Frag) : Sp := fun vs H Q _ => ∃ (s q : Addr) (B n : Nat) (G : Hp), vs = [.ref s, .int (n : Nat)] ∧ 1 ≤ n ∧ n ≤ 7 ∧ Ov s q B G H ∧ B < 800000 ∧
  ∀ (p : Addr) (as : List Addr) (cs : List Nat) (R : List (List Int)) (G' H' : Hp), Ex G G' → Ov s q (B + 300) G' H' → G' p = some (.tup (as.map V.ref)) → RowsIn G' as R → Hn.EchR n cs R → Hn.Hnf n (Hn.Sp (Hn.RL R)) R → (∀ r ∈ R, Hn.bnd (2 ^ 160) (Hn.fv r)) → Q (.ref p) H'
/-- whether the class count raises -/
def sp_l_raises (K : PySem.W.Frag) : Sp := fun vs H Q _ => ∃ (k l : Bool) (a b : Addr) (n x : Nat) (cs ds : List Nat) (xs ys : List V) (R S : List (List Int)), vs = [.ref a, .ref b] ∧ SqK K k H a xs ∧ RowsK K H xs R ∧ SqK K l H b ys ∧ RowsK K H ys S ∧
  Hn.EchR n cs R ∧ Hn.EchR n ds S ∧ n ≤ 100 ∧ R.length ≤ 100 ∧ S.length ≤ 100 ∧ (∀ r ∈ R, Hn.bnd (2 ^ x) (Hn.fv r)) ∧ (∀ r ∈ S, Hn.bnd (2 ^ x) (Hn.fv r)) ∧ x + (x + 1) * R.length < 40000000 ∧ x * S.length < 40000000 ∧
  ∀ (H' : Hp) (c : Bool), Ex H H' → (c = true ↔ ¬ ∀ r ∈ S, Hn.Sp (Hn.RL R) (Hn.fv r)) → Q (.bl c) H'
end Hg
namespace Hn
/-- a count as the program tells it, and an index as another way tells it -/
def Cnt (C D : List (List Int)) (N : Nat) : Prop := (D.length < C.length → N = 0) ∧ (D.length = C.length → 1 ≤ N ∧ Idx (Sp (RL C)) (Sp (RL D)) N)
theorem Cnt.eq {C D : List (List Int)} {N K : Nat} (h : Cnt C D N) (g0 : K = 0 → D.length < C.length) (g1 : K ≠ 0 → D.length = C.length ∧ Idx (Sp (RL C)) (Sp (RL D)) K) : N = K := by
  by_cases hk : K = 0
  · rw [hk]; exact h.1 (g0 hk)
  · obtain ⟨a, b⟩ := g1 hk
    exact (h.2 a).2.uniq (Lat.sp _) b
end Hn

namespace Hn
/-! ### saturations: rank, index, numbers -/
theorem Lat.van (n : Nat) (R : List (List Int)) : Lat (VanP n R) := by
  refine ⟨⟨fun _ _ => rfl, fun r _ => sm_zero fun i _ => by simp⟩, fun k u v hu hv => ⟨fun j hj => ?_, fun r hr => ?_⟩⟩
  · show k * u j + v j = 0
    rw [hu.1 j hj, hv.1 j hj]; omega
  · rw [dv_comb, hu.2 r hr, hv.2 r hr]; omega
theorem Lat.sat (n : Nat) (R : List (List Int)) : Lat (SatP n R) := by
  refine ⟨⟨fun _ _ => rfl, fun x _ => sm_zero fun i _ => by simp⟩, fun k u v hu hv => ⟨fun j hj => ?_, fun x hx => ?_⟩⟩
  · show k * u j + v j = 0
    rw [hu.1 j hj, hv.1 j hj]; omega
  · rw [dv_comb, hu.2 x hx, hv.2 x hx]; omega
theorem Lat.sum {L : Vc → Prop} (l : Lat L) {T : Nat → Vc} (y : Nat → Int) : ∀ {m : Nat}, (∀ s, s < m → L (T s)) → L fun j => sm m fun s => y s * T s j
  | 0, _ => Lat.cast l.z fun j => rfl
  | m + 1, h => Lat.cast (l.c (y m) (T m) _ (h m (by omega)) (Lat.sum l y (m := m) fun s hs => h s (by omega))) fun j => by
      show y m * T m j + _ = sm m (fun s => y s * T s j) + y m * T m j
      omega
theorem sat_row {n : Nat} {R : List (List Int)} {r : List Int} (hr : r ∈ R) (hl : r.length = n) : SatP n R (fv r) := ⟨fun j hj => fv_out (by omega), fun x hx => by rw [dv_comm]; exact hx.2 r hr⟩
/-- a vector of the saturation is known by its numbers at the pivots -/
theorem sat_pin {n M : Nat} {cs : List Nat} {R : List (List Int)} (e : EchR n cs R) (hM : 1 ≤ M) (hR : ∀ r ∈ R, bnd M (fv r)) {w : Vc} (hw : SatP n R w) (h0 : ∀ i, i < R.length → w (cs.getD i 0) = 0) (j : Nat) : w j = 0 := by
  by_cases hj : j < n
  · have g : GensM ((1 : Nat) : Int) R.length (gt R) (RL R) := ⟨fun s hs => .of ⟨_, List.mem_of_getElem? (List.getElem?_eq_getElem hs), gt_at (List.getElem?_eq_getElem hs)⟩, fun u hu => by
      obtain ⟨z, hz⟩ := RL_coef (.of hu)
      exact ⟨z, fun j => by rw [← hz]; simp⟩⟩
    obtain ⟨x, d, d0, _, _, hf⟩ := form_boundM (n := R.length + 1) (M := M) (by omega) hM e.tri g (fun u ⟨r, hr, e⟩ => e ▸ hR r hr) (by omega) j
    have cl : ∀ i, i < R.length → cs.getD i 0 < n := fun i hi => by
      have : i < cs.length := by rw [e.len]; exact hi
      rw [List.getD_eq_getElem?_getD, List.getElem?_eq_getElem this]
      exact e.lt _ (List.getElem_mem this)
    have dvF : ∀ v : Vc, dv n (fun k => (sm R.length fun i => if k = cs.getD i 0 then x i else 0) + if k = j then d else 0) v = (sm R.length fun i => x i * v (cs.getD i 0)) + d * v j := fun v => by
      unfold dv
      have e1 : sm n (fun k => ((sm R.length fun i => if k = cs.getD i 0 then x i else 0) + if k = j then d else 0) * v k) = sm n (fun k => sm R.length fun i => (if k = cs.getD i 0 then x i else 0) * v k) + sm n (fun k => (if k = j then d else 0) * v k) := by
        rw [← sm_add]
        exact sm_congr fun k _ => by rw [Int.add_mul, ← sm_mulr]
      rw [e1, sm_swap, sm_one hj (fun i _ hne => by rw [if_neg hne, Int.zero_mul]), if_pos rfl]
      congr 1
      exact sm_congr fun i hi => by
        rw [sm_one (cl i hi) (fun k _ hne => by rw [if_neg hne, Int.zero_mul]), if_pos rfl]
    have hF : VanP n R (fun k => (sm R.length fun i => if k = cs.getD i 0 then x i else 0) + if k = j then d else 0) := by
      refine ⟨fun k hk => ?_, fun r hr => ?_⟩
      · show (sm R.length fun i => if k = cs.getD i 0 then x i else 0) + (if k = j then d else 0) = 0
        rw [if_neg (by omega), sm_zero fun i hi => if_neg (by have := cl i hi; omega)]; rfl
      · rw [dv_comm, dvF]
        exact hf _ (.of ⟨r, hr, rfl⟩)
    have := hw.2 _ hF
    rw [dvF, sm_zero fun i hi => by rw [h0 i hi, Int.mul_zero]] at this
    rw [Int.zero_add] at this
    exact (Int.mul_eq_zero.mp this).resolve_left d0
  · exact hw.1 j (by omega)
theorem sat_rank {n M : Nat} {cs : List Nat} {R C : List (List Int)} (e : EchR n cs R) (hM : 1 ≤ M) (hR : ∀ r ∈ R, bnd M (fv r)) (hC : Hnf n (SatP n R) C) : ∃ ds, EchR n ds C ∧ C.length = R.length ∧ ds = cs ∧ ∀ r ∈ R, Sp (RL C) (fv r) := by
  obtain ⟨ds, f⟩ := hC.ech
  have rl : ∀ r ∈ R, r.length = n := fun r hr => by
    obtain ⟨i, hi⟩ := List.mem_iff_getElem?.mp hr
    have : i < cs.length := by rw [e.len]; exact (List.getElem?_eq_some_iff.mp hi).1
    exact (e.row i _ r (List.getElem?_eq_getElem this) hi).1
  have sub : ∀ r ∈ R, Sp (RL C) (fv r) := fun r hr => (hC.span _).mp (sat_row hr (rl r hr))
  have c1 := f.cols_sub e sub
  have c2 : C.length ≤ R.length := by
    refine Classical.byContradiction fun hlt => ?_
    obtain ⟨B, hB⟩ := supB (fun s i => gt C s (cs.getD i 0)) C.length R.length
    obtain ⟨y, ⟨i0, hi0, hy0⟩, _, ye⟩ := siegel (k := C.length) (t := R.length) (M := B + 1) (by omega) (by omega) (fun i s => gt C s (cs.getD i 0)) fun i s hi hs => by have := hB s i hs hi; omega
    have hT : ∀ s, s < C.length → SatP n R (gt C s) := fun s hs => (hC.span _).mpr (.of ⟨_, List.mem_of_getElem? (List.getElem?_eq_getElem hs), gt_at (List.getElem?_eq_getElem hs)⟩)
    have hw := (Lat.sat n R).sum y hT
    have hz := sat_pin e hM hR hw fun i hi => by
      rw [← ye i hi]
      exact sm_congr fun s _ => Int.mul_comm _ _
    exact hy0 (f.tri.coef (v := fun _ => 0) (fun j => (hz j).symm) (k := C.length) (Nat.le_refl _) (fun i hi => rfl) i0 hi0)
  have el : C.length = R.length := by omega
  exact ⟨ds, f, el, (c1.2 el.symm).symm, sub⟩
/-- the numbers of a saturation -/
theorem sat_bnd {n M : Nat} {cs : List Nat} {R C : List (List Int)} (e : EchR n cs R) (hM : 1 ≤ M) (hR : ∀ r ∈ R, bnd M (fv r)) (hC : Hnf n (SatP n R) C) : ∀ r ∈ C, bnd (pinB (pP cs R).natAbs n M) (fv r) := by
  obtain ⟨ds, f, el, rfl, sub⟩ := sat_rank e hM hR hC
  obtain ⟨N, n1, _, hp, ht⟩ := Idx.piv f e sub
  have rl : ∀ r ∈ R, r.length = n := fun r hr => by
    obtain ⟨i, hi⟩ := List.mem_iff_getElem?.mp hr
    have : i < ds.length := by rw [e.len]; exact (List.getElem?_eq_some_iff.mp hi).1
    exact (e.row i _ r (List.getElem?_eq_getElem this) hi).1
  have pC := pP_pos (n := n) (cs := ds) (R := C) fun i c r h1 h2 => (f.row i c r h1 h2).2.2
  have pR := pP_pos (n := n) (cs := ds) (R := R) fun i c r h1 h2 => (e.row i c r h1 h2).2.2
  obtain ⟨q, hq⟩ : ∃ q : Nat, pP ds C = (q : Int) := ⟨(pP ds C).toNat, by omega⟩
  have hd : (pP ds R).natAbs = N * q := by rw [hp, hq, ← Int.natCast_mul]; rfl
  rw [hd]
  have k : KE n (SatP n R) (R.map fv) M (N * q) := ⟨fun u hu => by
      obtain ⟨r, hr, rfl⟩ := List.mem_map.mp hu
      exact sat_row hr (rl r hr), Nat.mul_pos n1 (by omega), fun v hv => by
      refine Sp.mono (R := RL R) (fun u ⟨r, hr, e⟩ => e ▸ List.mem_map.mpr ⟨r, hr, rfl⟩) ?_
      exact ((ht v ((hC.span v).mp hv)).mul (q : Int)).cast fun j => by rw [Int.natCast_mul]; grind, fun u hu => by
      obtain ⟨r, hr, rfl⟩ := List.mem_map.mp hu
      exact hR r hr⟩
  have := hC.pinchK k (P := 1) (Nat.le_refl _) hM (fun v hv => hv) fun u hu => Lat.cast hu fun j => by simp
  rwa [Nat.mul_one] at this
theorem van_sat {n : Nat} {R C : List (List Int)} (hC : Hnf n (SatP n R) C) (hl : ∀ r ∈ R, r.length = n) (x : Vc) : VanP n C x ↔ VanP n R x := by
  constructor
  · rintro ⟨a, b⟩
    refine ⟨a, fun r hr => ?_⟩
    have key : ∀ v, Sp (RL C) v → dv n v x = 0 := fun v hs => by
      induction hs with
      | zero => exact sm_zero fun i _ => by simp
      | @add u w k hu _ ih =>
        obtain ⟨r, hr, rfl⟩ := hu
        rw [dv_addl, ih, b r hr]; simp
    exact key _ ((hC.span _).mp (sat_row hr (hl r hr)))
  · intro h
    refine ⟨h.1, fun r hr => ?_⟩
    rw [dv_comm]
    exact ((hC.span (fv r)).mpr (.of ⟨r, hr, rfl⟩)).2 x h
theorem sat_sat {n : Nat} {R C : List (List Int)} (hC : Hnf n (SatP n R) C) (hl : ∀ r ∈ R, r.length = n) (v : Vc) : SatP n C v ↔ SatP n R v :=
  ⟨fun ⟨a, b⟩ => ⟨a, fun x hx => b x ((van_sat hC hl x).mpr hx)⟩, fun ⟨a, b⟩ => ⟨a, fun x hx => b x ((van_sat hC hl x).mp hx)⟩⟩
end Hn

set_option maxHeartbeats 4000000
namespace Hg
open PySem PySem.Calls
/-- math.lcm of numbers of any size -/
theorem inv_room {M : Model} {A : Around} {E : Value → Shared → Prop} {s : Shared} {n : Nat} {Q : Unit → Shared → Prop} (hl : s.heap.NoLimit) (hd : A.depth + Builtin.pylongFrames < recursionLimit) (hs : SeerAt M A s.heap) (h : Q () s) : wpAny M A (Builtin.roomForPylongsInverse n) Q E s := by
  unfold Builtin.roomForPylongsInverse
  by_cases hb : n.log2 / 30 + 1 > 450
  · rw [if_pos hb]
    refine wpAny_bind (hs A.units s E _ rfl ?_)
    exact wpAny_pylongFrames hl hd h
  · rw [if_neg hb]
    exact wpAny_pure h
theorem lcm_any {prog : Program} {w : World} {A : Around} {E : Value → Shared → Prop} {s : Shared} {Q : Value → Shared → Prop} {a b : Int} {t u : Tok} (hl : s.heap.NoLimit) (hd : A.depth + Builtin.pylongFrames < recursionLimit) (hs : SeerAt (model prog w) A s.heap) (hsz : (Nat.lcm a.natAbs b.natAbs).log2 < bitsLine)
    (h : Q (.int ((Nat.lcm a.natAbs b.natAbs : Nat) : Int) s.toks) { s with toks := s.toks + 1 }) : wpAny (model prog w) A (call (.builtin "math.lcm") [.int a t, .int b u]) Q E s := by
  refine call_function_entry PySem.W.MGF.kind_lcm PySem.W.MGF.plain_lcm PySem.W.MGF.entry_lcm (PySem.W.MGF.args_lcm _ _) ?_
  have e1 : ((Nat.lcm 1 a.natAbs).lcm b.natAbs) = Nat.lcm a.natAbs b.natAbs := by simp [Nat.lcm]
  have hd' : A.in1.depth + Builtin.pylongFrames < recursionLimit := hd
  have hs' : SeerAt (model prog w) A.in1 s.heap := hs
  have hsz' : ((((Nat.lcm 1 a.natAbs).lcm b.natAbs : Nat) : Int)).natAbs.log2 < bitsLine := by rw [e1]; exact hsz
  rw [← e1] at h
  obtain ⟨hp, g, d, tk, os⟩ := s
  wp_walk using (inv_room hl hd' hs')
  (try (refine wpAny_ite_false (decide_eq_false (Nat.not_le.mpr hsz')) ?_; wp_walk))
  exact ⟨_, rfl, h⟩
end Hg

set_option maxHeartbeats 4000000
namespace Hg
open PySem PySem.Spec PyProof.Rows L2
/-! ### math.lcm of numbers of any size -/
theorem SeeX.seer {X : Cx} (S : SeeX X) {pins : List (Addr × Obj)} {σ : L2.St} {H : Hp} {s : Shared} (I : Inv X pins σ H s) : SeerAt (model X.prog X.w) X.A s.heap :=
  SeerAt.of (S.ns.keeps I.bk) S.tr (I.ok.frames.trans (congrArg some S.st)) S.gen S.co I.ok.blt I.ok.glob
abbrev rLcmP : List V → Hp → VK → Prop := fun vs H Q => ∃ a b : Int, vs = [.int a, .int b] ∧ (Nat.lcm a.natAbs b.natAbs).log2 < 134217728 ∧ Q (.int ((Nat.lcm a.natAbs b.natAbs : Nat) : Int)) H
theorem cr_lcmP {X : Cx} (S : SeeX X) : CallR X (.builtin "math.lcm") rLcmP := by
  intro pins s σ H vs us Q I r h
  obtain ⟨a, b, rfl, hc, q⟩ := h
  obtain ⟨t, u, rfl⟩ := Vals.int2 r
  have e : bitsLine = 134217728 := by decide
  exact lcm_any I.nolimit S.dp (S.seer I) (by rw [e]; exact hc) ⟨.int _, H, I.tok _, ⟨_, rfl⟩, q⟩
end Hg
namespace Hg
open PySem PySem.Spec PyProof.Rows L2
/-! ### division inside a comprehension -/
structure SeeY (X : Cx) : Prop where
  ns : X.base.NoSeer
  tr : X.prog.given.tree = none
  st : ∃ (e : Env) (l : List Env), X.stack = e :: l ∧ e.scope.isGenerator = false ∧ e.scope.isCoroutine = false ∧ e.builtins = X.env.builtins ∧ e.globals = X.env.globals
  dp : X.A.depth + Builtin.pylongFrames < recursionLimit
theorem SeeY.room {X : Cx} (S : SeeY X) {pins : List (Addr × Obj)} {σ : L2.St} {H : Hp} {s : Shared} (I : Inv X pins σ H s) : PylongRoom (model X.prog X.w) X.A s := by
  obtain ⟨e, l, h1, h2, h3, h4, h5⟩ := S.st
  exact PylongRoom.of I.nolimit S.dp (SeerAt.of (S.ns.keeps I.bk) S.tr (I.ok.frames.trans (congrArg some h1)) h2 h3 (h4.trans I.ok.blt) (h5.trans I.ok.glob))
theorem oDivY {X : Cx} (S : SeeY X) : OpR X (binaryOp .FloorDiv) rDivP := by
  intro pins s σ H x y v u Q I rx ry h
  obtain ⟨i, j, rfl, rfl, hc, q⟩ := h
  obtain ⟨t, rfl⟩ := rx
  obtain ⟨t', rfl⟩ := ry
  exact PyProof.Rows.floordiv_int hc ⟨.int _, H, I.tok _, ⟨_, rfl⟩, q⟩ (.inr (S.room I))
theorem seeB {CX : CXT} {P : Program} {w : World} {K : PySem.W.Frag} {mg : Str → Option Value} {base : Heap} {N ps : List Str} {qual : Str} {scope : Scope} {f : Addr} {cd : Value} {A : Around} {outer : List Env} {s : Shared} {H : Hp} {E : XK} {s' : Shared} {H' : Hp} {sc : Scope} {cl : List (Str × Addr)} {C : Addr} {fp : List Addr}
    (NS : base.NoSeer) (hP : P.given.tree = none) (hr : Room 32 (A.deeper (envOfC qual scope s.heap.objs.size f cd))) (S : FnScope N ps scope) : SeeY ((cxOf CX P w K mg base N qual scope f cd A outer s H E).nox.blk s' H' sc (compEnvC sc cl C (cxOf CX P w K mg base N qual scope f cd A outer s H E).nox.env) fp) :=
  ⟨NS, hP, ⟨_, _, rfl, S.gen, S.co, rfl, rfl⟩, by
    have h := hr.dp
    have e : Builtin.pylongFrames = 100 := rfl
    show (A.deeper (envOfC qual scope s.heap.objs.size f cd)).depth + Builtin.pylongFrames < recursionLimit
    omega⟩
/-- a value's truth, inside a comprehension too -/
theorem kTru {X : Cx} {K : PySem.W.Frag} {a : Expr} {ta : TE} (ha : PE X a ta) (he : ∀ whole, isTrue a X.env whole = (do let v ← whole; standAt a.pos; holding [v] (truthy v))) (hK : X.K = K := by rfl) : PT X a (fun σ H Q => ta σ H fun x H' => ∃ k, TruV K x H' k ∧ Q k H') := hK ▸ pt_truth ha he
end Hg

set_option maxHeartbeats 4000000
namespace Hg
open PySem PySem.Spec PyProof.Rows L2
/-- // inside two comprehensions -/
theorem seeB2 {CX : CXT} {P : Program} {w : World} {K : PySem.W.Frag} {mg : Str → Option Value} {base : Heap} {N ps : List Str} {qual : Str} {scope : Scope} {f : Addr} {cd : Value} {A : Around} {outer : List Env} {s : Shared} {H : Hp} {E : XK} {s' s2 : Shared} {H' H2 : Hp} {sc sc2 : Scope} {cl cl2 : List (Str × Addr)} {C C2 : Addr} {fp fp2 : List Addr}
    (NS : base.NoSeer) (hP : P.given.tree = none) (hr : Room 32 (A.deeper (envOfC qual scope s.heap.objs.size f cd))) (S : FnScope N ps scope) : SeeY (((cxOf CX P w K mg base N qual scope f cd A outer s H E).nox.blk s' H' sc (compEnvC sc cl C (cxOf CX P w K mg base N qual scope f cd A outer s H E).nox.env) fp).blk s2 H2 sc2 (compEnvC sc2 cl2 C2 ((cxOf CX P w K mg base N qual scope f cd A outer s H E).nox.blk s' H' sc (compEnvC sc cl C (cxOf CX P w K mg base N qual scope f cd A outer s H E).nox.env) fp).env) fp2) :=
  ⟨NS, hP, ⟨_, _, rfl, S.gen, S.co, rfl, rfl⟩, by
    have h := hr.dp
    have e : Builtin.pylongFrames = 100 := rfl
    show (A.deeper (envOfC qual scope s.heap.objs.size f cd)).depth + Builtin.pylongFrames < recursionLimit
    omega⟩
/-- [e for row in rows for e in row] -/
theorem lc2_pure {J : It} {n : Nat} {G : Hp → Prop} {Y : Nat → Hp → V → Hp → Prop} (w : Walk J n G Y) {g g1 : TG} {tt tt1 : TT} {wi1 : TI} {te : TE} {vs vs1 : List Nat} {σ : L2.St} {H1 : Hp} {D : Addr} {Qd : Hp → Prop} (hD : H1 D = none) (val : Nat → List V) (hn : ((List.range n).flatMap val).length ≤ 1000000) (hG : ∀ H, Ex H1 H → G H)
    (hs : ∀ i x Hc Hy, i < n → Ex H1 Hc → Y i Hc x Hy → ∀ (Nx : Hp → Prop) (P4 : L2.St → It → Hp → Prop),
      (∀ (σ2 : L2.St) (J1 : It) (G1 : Hp → Prop) (Y1 : Nat → Hp → V → Hp → Prop), Walk J1 (val i).length G1 Y1 → (∀ H, Ex H1 H → G1 H) →
        (∀ j v x Hc Hy, (val i)[j]? = some v → Ex H1 Hc → Y1 j Hc x Hy → ∀ (Qe : VK) (Qn : Hp → Prop), (∀ H4, Ex Hc H4 → Qe v H4) → g1 x (wipe σ2 vs1) Hy fun σ3 H5 => wipe σ3 vs1 = wipe σ2 vs1 ∧ tt1 σ3 H5 fun b H6 => if b = true then te σ3 H6 Qe else Qn H6) → P4 σ2 J1 Hc) →
      g x (wipe σ vs) Hy fun σ2 H2 => wipe σ2 vs = wipe σ vs ∧ tt σ2 H2 fun b H3 => if b = true then wi1 σ2 H3 (P4 σ2) else Nx H3)
    (hd : ∀ H, Ex H1 H → H D = some (.lst ((List.range n).flatMap val)) → Qd H) :
    ∃ W : Nat → Nat → Hp → Prop, (∃ m, W 0 m (upd H1 D (.lst []))) ∧ ∀ i m H, W i m H →
      (J.stop i H ∧ Qd H) ∨ (J.go i H ∧ ∃ Nx : Hp → Prop, (∀ H', Nx H' → ∃ m', m' < m ∧ W (i + 1) m' H') ∧ ∀ x H', J.yld i H x H' → g x (wipe σ vs) H' fun σ2 H2 => wipe σ2 vs = wipe σ vs ∧ tt σ2 H2 fun b H3 =>
        if b = true then wi1 σ2 H3 fun J1 H4 => ∃ W1 : Nat → Nat → Hp → Prop, (∃ m, W1 0 m H4) ∧ ∀ j k H, W1 j k H →
          (J1.stop j H ∧ Nx H) ∨ (J1.go j H ∧ ∃ Nx1 : Hp → Prop, (∀ H', Nx1 H' → ∃ k', k' < k ∧ W1 (j + 1) k' H') ∧ ∀ x H', J1.yld j H x H' → g1 x (wipe σ2 vs1) H' fun σ3 H5 => wipe σ3 vs1 = wipe σ2 vs1 ∧ tt1 σ3 H5 fun b H6 =>
            if b = true then te σ3 H6 fun y H7 => ∃ acc, H7 D = some (.lst acc) ∧ acc.length < sizeLine ∧ Nx1 (upd H7 D (.lst (acc ++ [y]))) else Nx1 H6)
        else Nx H3) := by
  have sub : ∀ i, i < n → ((List.range i).flatMap val).length + (val i).length ≤ 1000000 := fun i hi => by
    refine Nat.le_trans ?_ hn
    have e : List.range n = List.range (i + 1) ++ (List.range n).drop (i + 1) := by
      have := List.take_append_drop (i + 1) (List.range n)
      rw [List.take_range, Nat.min_eq_left (by omega)] at this
      exact this.symm
    rw [e, List.flatMap_append, List.length_append, List.range_succ, List.flatMap_append, List.length_append]
    simp only [List.flatMap_cons, List.flatMap_nil, List.append_nil]
    omega
  refine ⟨fun i m H => m = n - i ∧ i ≤ n ∧ Ex H1 H ∧ H D = some (.lst ((List.range i).flatMap val)), ⟨n, by simp, Nat.zero_le _, Ex.new hD, upd_same⟩, ?_⟩
  rintro i m H ⟨rfl, hi, e, hd0⟩
  by_cases hlt : i < n
  · refine .inr ⟨w.goes i H hlt (hG H e), fun H' => Ex H1 H' ∧ H' D = some (.lst ((List.range (i + 1)).flatMap val)), fun H' p => ⟨n - (i + 1), by omega, rfl, hlt, p⟩, fun x H' y => ?_⟩
    refine hs i x H H' hlt e (w.yields i H x H' hlt (hG H e) y) _ (fun σ2 J1 H4 => ∃ W1 : Nat → Nat → Hp → Prop, (∃ m, W1 0 m H4) ∧ ∀ j k H, W1 j k H → (J1.stop j H ∧ (Ex H1 H ∧ H D = some (.lst ((List.range (i + 1)).flatMap val)))) ∨ (J1.go j H ∧ ∃ Nx1 : Hp → Prop, (∀ H', Nx1 H' → ∃ k', k' < k ∧ W1 (j + 1) k' H') ∧ ∀ x H', J1.yld j H x H' → g1 x (wipe σ2 vs1) H' fun σ3 H5 => wipe σ3 vs1 = wipe σ2 vs1 ∧ tt1 σ3 H5 fun b H6 => if b = true then te σ3 H6 fun y H7 => ∃ acc, H7 D = some (.lst acc) ∧ acc.length < sizeLine ∧ Nx1 (upd H7 D (.lst (acc ++ [y]))) else Nx1 H6)) fun σ2 J1 G1 Y1 w1 hG1 hs1 => ?_
    refine ⟨fun j k H => k = (val i).length - j ∧ j ≤ (val i).length ∧ Ex H1 H ∧ H D = some (.lst ((List.range i).flatMap val ++ (val i).take j)), ⟨_, rfl, Nat.zero_le _, e, by rw [List.take_zero, List.append_nil]; exact hd0⟩, ?_⟩
    rintro j k H5 ⟨rfl, hj, e5, hd5⟩
    by_cases hjl : j < (val i).length
    · refine .inr ⟨w1.goes j H5 hjl (hG1 H5 e5), fun H' => Ex H1 H' ∧ H' D = some (.lst ((List.range i).flatMap val ++ (val i).take (j + 1))), fun H' p => ⟨(val i).length - (j + 1), by omega, rfl, hjl, p⟩, fun x1 H6 y1 => ?_⟩
      have hv : (val i)[j]? = some ((val i)[j]'hjl) := List.getElem?_eq_getElem hjl
      refine hs1 j _ x1 H5 H6 hv e5 (w1.yields j H5 x1 H6 hjl (hG1 H5 e5) y1) _ _ fun H7 e7 => ⟨_, e7 _ _ hd5, ?_, (e5.trans e7).up hD, ?_⟩
      · have := sub i hlt
        rw [sizeLine_eq, List.length_append, List.length_take]
        omega
      · rw [upd_same, take_snoc hv, List.append_assoc]
    · refine .inl ⟨?_, e5, ?_⟩
      · have : j = (val i).length := by omega
        rw [this]
        exact w1.stops H5 (hG1 H5 e5)
      · rw [hd5, List.take_of_length_le (by omega), List.range_succ, List.flatMap_append]
        simp only [List.flatMap_cons, List.flatMap_nil, List.append_nil]
  · have : i = n := by omega
    subst this
    exact .inl ⟨w.stops H (hG H e), hd H e hd0⟩
section
variable {J : It} {n : Nat} {G : Hp → Prop} {Y : Nat → Hp → V → Hp → Prop}
theorem lc_ownD (w : Walk J n G Y) {g : TG} {tt : TT} {te : TE} {vs : List Nat} {σ : L2.St} {H1 : Hp} {D : Addr} {Qd : Hp → Prop} (hD : H1 D = none) (P : Nat → List V → Hp → Prop) (hP : ∀ H, P 0 [] H)
    (hk : ∀ i acc H xs o, H D = some (.lst xs) → P i acc H → P i acc (upd H D o)) (hl : ∀ i acc H, i ≤ n → P i acc H → acc.length ≤ i) (hn : n ≤ 1000000) (hG : ∀ H, Ex H1 H → G H)
    (hs : ∀ i x Hc Hy acc, i < n → Ex H1 Hc → P i acc Hc → Hc D = some (.lst acc) → Y i Hc x Hy → ∀ (Qe : VK) (Qn : Hp → Prop), (∀ y H4, Ex Hc H4 → P (i + 1) (acc ++ [y]) H4 → Qe y H4) → (∀ H3, Ex Hc H3 → P (i + 1) acc H3 → Qn H3) →
      g x (wipe σ vs) Hy fun σ2 H2 => wipe σ2 vs = wipe σ vs ∧ tt σ2 H2 fun b H3 => if b = true then te σ2 H3 Qe else Qn H3)
    (hd : ∀ H acc, Ex H1 H → P n acc H → H D = some (.lst acc) → Qd H) :
    ∃ W : Nat → Nat → Hp → Prop, (∃ m, W 0 m (upd H1 D (.lst []))) ∧ ∀ i m H, W i m H →
      (J.stop i H ∧ Qd H) ∨ (J.go i H ∧ ∃ Nx : Hp → Prop, (∀ H', Nx H' → ∃ m', m' < m ∧ W (i + 1) m' H') ∧ ∀ x H', J.yld i H x H' → g x (wipe σ vs) H' fun σ2 H2 => wipe σ2 vs = wipe σ vs ∧ tt σ2 H2 fun b H3 =>
        if b = true then te σ2 H3 fun y H4 => ∃ acc, H4 D = some (.lst acc) ∧ acc.length < sizeLine ∧ Nx (upd H4 D (.lst (acc ++ [y]))) else Nx H3) := by
  have e1 := Ex.new (o := .lst []) hD
  refine lc_it w (fun i H => ∃ acc, Ex H1 H ∧ P i acc H ∧ H D = some (.lst acc)) ⟨[], e1, hP _, upd_same⟩ (fun i H hi p => ?_) (fun i x Hc Hy hi p y => ?_) (fun H p => ?_)
  · obtain ⟨acc, ex, _, _⟩ := p
    exact hG H ex
  · obtain ⟨acc, ex, pa, hA⟩ := p
    refine hs i x Hc Hy acc hi ex pa hA y _ _ (fun y H4 e2 pa' => ?_) (fun H3 e2 pa' => ⟨acc, ex.trans e2, pa', e2 _ _ hA⟩)
    have hA2 := e2 _ _ hA
    refine ⟨acc, hA2, ?_, acc ++ [y], (ex.trans e2).up hD, hk _ _ _ _ _ hA2 pa', upd_same⟩
    have := hl i acc Hc (Nat.le_of_lt hi) pa
    rw [sizeLine_eq]
    omega
  · obtain ⟨acc, ex, pa, hA⟩ := p
    exact hd H acc ex pa hA
end
/-- lists of numbers, none of them D -/
def RowsLD (D : Addr) (H : Hp) (as : List Addr) (F : List (List Int)) : Prop := as.length = F.length ∧ ∀ (i : Nat) (a : Addr) (r : List Int), as[i]? = some a → F[i]? = some r → a ≠ D ∧ H a = some (.lst (iV r))
theorem RowsLD.ex {D : Addr} {H H' : Hp} {as : List Addr} {F : List (List Int)} (e : Ex H H') (h : RowsLD D H as F) : RowsLD D H' as F := ⟨h.1, fun i a r h1 h2 => let ⟨x, y⟩ := h.2 i a r h1 h2; ⟨x, e _ _ y⟩⟩
theorem RowsLD.put {D : Addr} {H : Hp} {as : List Addr} {F : List (List Int)} {o : HO} (h : RowsLD D H as F) : RowsLD D (upd H D o) as F := ⟨h.1, fun i a r h1 h2 => let ⟨x, y⟩ := h.2 i a r h1 h2; ⟨x, (upd_ne x).trans y⟩⟩
theorem RowsLD.snoc {D : Addr} {H : Hp} {as : List Addr} {F : List (List Int)} (h : RowsLD D H as F) {a : Addr} {r : List Int} (na : a ≠ D) (ha : H a = some (.lst (iV r))) : RowsLD D H (as ++ [a]) (F ++ [r]) := by
  refine ⟨by simp [h.1], fun i b q h3 h4 => ?_⟩
  by_cases hi : i < as.length
  · rw [List.getElem?_append_left hi] at h3
    rw [List.getElem?_append_left (by rw [← h.1]; exact hi)] at h4
    exact h.2 i b q h3 h4
  · rw [List.getElem?_append_right (by omega)] at h3
    rw [List.getElem?_append_right (by rw [← h.1]; omega), ← h.1] at h4
    have : i - as.length = 0 := by have := (List.getElem?_eq_some_iff.mp h3).1; simp at this; omega
    rw [this] at h3 h4
    cases h3; cases h4
    exact ⟨na, ha⟩
theorem RowsLD.k {K : PySem.W.Frag} {D : Addr} {H : Hp} {as : List Addr} {F : List (List Int)} (h : RowsLD D H as F) : RowsK K H (as.map V.ref) F := by
  refine ⟨by rw [List.length_map]; exact h.1, fun i x r h1 h2 => ?_⟩
  rw [List.getElem?_map] at h1
  obtain ⟨a, ha, rfl⟩ := Option.map_eq_some_iff.mp h1
  exact ⟨false, a, rfl, SqK.lst (h.2 i a r ha h2).2⟩
/-- the dual of a lattice of full rank -/
structure DualOf (n : Nat) (R : List (List Int)) (scale : Int) (D : List (List Int)) : Prop where
  pos : 0 < scale
  lat : ∀ v : Hn.Vc, (∀ j, n ≤ j → v j = 0) → (Hn.Sp (Hn.RL R) v ↔ ∀ d ∈ D, scale ∣ Hn.dv n (Hn.fv d) v)
  com : ∀ c : Int, c ∣ scale → (∀ r ∈ D, ∀ j, c ∣ Hn.fv r j) → c ∣ 1
  unit : ∀ i, i < n → Hn.Sp (Hn.RL D) fun j => if j = i then scale else 0
  all : ∀ (u : Hn.Vc) (q : Int), q ≠ 0 → (∀ j, n ≤ j → u j = 0) → (∀ r ∈ R, q ∣ Hn.dv n u (Hn.fv r)) → ∃ w, Hn.Sp (Hn.RL D) w ∧ ∀ j, scale * u j = q * w j
def sp_dual_of (K : PySem.W.Frag) : Sp := fun vs H Q _ => ∃ (k : Bool) (a : Addr) (n x y M : Nat) (cs : List Nat) (xs : List V) (R : List (List Int)), vs = [.ref a, .int (n : Nat)] ∧ SqK K k H a xs ∧ RowsK K H xs R ∧ Hn.EchR n cs R ∧ R.length = n ∧ n ≤ 12 ∧ (∀ r ∈ R, Hn.bnd (2 ^ x) (Hn.fv r)) ∧ x * n < 40000000 ∧ x < 40000000 ∧
  (Hn.pP cs R).natAbs ≤ 2 ^ y ∧ x ≤ y ∧ y + (y + 1) * n < 40000000 ∧ 2 ^ y * (1 + 2 ^ y) ^ n ≤ M ∧ 1 ≤ M ∧ rm n M ∧
  ∀ (H' : Hp) (p ra : Addr) (as : List Addr) (scale : Int) (D : List (List Int)), Ex H H' → H' p = some (.tup [.int scale, .ref ra]) → H' ra = some (.tup (as.map V.ref)) → RowsIn H' as D → DualOf n R scale D → (∃ V, Hn.Hnf n V D) → (∀ r ∈ D, r.length = n ∧ Hn.bnd (Hn.hB n M) (Hn.fv r)) → scale ∣ Hn.pP cs R → Q (.ref p) H'
/-- a row put into its columns -/
def sp__spread (K : PySem.W.Frag) : Sp := fun vs H Q _ => ∃ (k l : Bool) (a b : Addr) (n : Nat) (r : List Int) (cs : List Nat), vs = [.ref a, .ref b, .int (n : Nat)] ∧ SqK K k H a (iV r) ∧ SqK K l H b (cs.map fun c => V.int (c : Nat)) ∧ r.length = cs.length ∧ 1 ≤ n ∧ n ≤ 100 ∧ (∀ c ∈ cs, c < n) ∧ cs.Pairwise (· < ·) ∧
  ∀ (H' : Hp) (p : Addr) (z : List Int), Ex H H' → H' p = some (.tup (iV z)) → z.length = n → (∀ (i c : Nat), cs[i]? = some c → Hn.fv z c = Hn.fv r i) → (∀ j, j ∉ cs → Hn.fv z j = 0) → Q (.ref p) H'
end Hg

namespace Hn
/-! ### every list of rows has a form; how large the form of a kernel is -/
theorem lowTo_ex {N : Nat} {st : Steps} (e : Ech N st) {c : Nat} {xs : List Int} (h : xs.length = N) : ∀ d : Nat, ∃ zs, LowTo N st c (c + 1 + d) xs zs
  | 0 => ⟨xs, LowTo.start h⟩
  | d + 1 => by
    obtain ⟨zs, hz⟩ := lowTo_ex e (c := c) h d
    by_cases hp : ∃ l, st[c + 1 + d]? = some (some l)
    · obtain ⟨l, hl⟩ := hp
      exact ⟨_, hz.some e (by omega) hl⟩
    · exact ⟨zs, hz.none fun l hl => hp ⟨l, hl⟩⟩
theorem low_ex {N : Nat} {st : Steps} (e : Ech N st) {c : Nat} (hc : c < N) {xs : List Int} (h : xs.length = N) : ∃ zs, Low N st c xs zs := by
  obtain ⟨zs, hz⟩ := lowTo_ex e (c := c) h (N - (c + 1))
  rw [show c + 1 + (N - (c + 1)) = N by omega] at hz
  exact ⟨zs, hz⟩
theorem BR.enter {N M : Nat} {R : Vc → Prop} {st0 : Steps} {u : List Int} (b : BR N M R st0) (hM : 1 ≤ M) (hl : u.length = N) (hu : bnd M (fv u)) : ∃ st, BR N M (or1 R (fv u)) st := by
  have go : ∀ (k c : Nat) (st : Steps) (row : List Int), c + k = N → RI N M R st0 u c st row → ∃ st', BR N M (or1 R (fv u)) st' := by
    intro k
    induction k with
    | zero =>
      intro c st row h I
      have : c = N := by omega
      subst this
      exact ⟨st, I.fin b hu⟩
    | succ k ih =>
      intro c st row h I
      by_cases hr : fv row c = 0
      · exact ih (c + 1) st row (by omega) (I.skip hr)
      have hc : c < st.length := by rw [I.e.len]; omega
      have hst : st[c]? = some st[c] := List.getElem?_eq_getElem hc
      generalize st[c] = x at hst
      cases x with
      | none =>
        obtain ⟨k1, hk, hp⟩ : ∃ k1 : Int, (k1 = 1 ∨ k1 = -1) ∧ 0 < k1 * fv row c := by
          rcases Int.lt_or_gt_of_ne hr with h1 | h1
          · exact ⟨-1, .inr rfl, by omega⟩
          · exact ⟨1, .inl rfl, by omega⟩
        have ep : ∀ j, fv (row.map fun x => k1 * x) j = k1 * fv row j := fun j => fv_map (f := fun x => k1 * x) (by simp) j
        obtain ⟨z, hz⟩ := low_ex I.e (c := c) (by omega) (xs := row.map fun x => k1 * x) (by rw [List.length_map, I.rl])
        exact ⟨_, I.create b hM hu hst hk (by rw [List.length_map, I.rl]) ep (by rw [ep]; exact hp) hz⟩
      | some l =>
        have pl := I.e.piv _ _ hst
        have ll := I.e.row _ _ hst
        obtain ⟨g0, p, r, ep, er, eg, hs, ht⟩ := bezF_pos pl hr
        have hll : l.length = row.length := by rw [ll, I.rl]
        obtain ⟨new, hn⟩ := low_ex I.e (c := c) (by omega) (xs := combL (bezF (fv l c) (fv row c)).2.1 l (bezF (fv l c) (fv row c)).2.2 row) (by rw [len_comb hll, ll])
        obtain ⟨left, hf⟩ := low_ex I.e (c := c) (by omega) (xs := combL (-r) l p row) (by rw [len_comb hll, ll])
        exact ih (c + 1) _ _ (by omega) (I.merge b hM hu hst g0 ep er eg ht hn hf)
  exact go N 0 st0 u (by omega) (RI.start b hM hl hu)
theorem BR.rows {N M : Nat} (hM : 1 ≤ M) : ∀ rows : List (List Int), (∀ r ∈ rows, r.length = N ∧ bnd M (fv r)) → ∃ st, BR N M (RL rows) st
  | [], _ => ⟨_, BR.empty.congr fun v => ⟨fun h => h.elim, fun ⟨r, hr, _⟩ => by cases hr⟩⟩
  | u :: rows, h => by
    obtain ⟨st, b⟩ := BR.rows hM rows fun r hr => h r (List.mem_cons_of_mem _ hr)
    obtain ⟨h1, h2⟩ := h u (.head _)
    obtain ⟨st', b'⟩ := b.enter hM h1 h2
    refine ⟨st', b'.congr fun v => ⟨?_, ?_⟩⟩
    · rintro (⟨r, hr, e⟩ | e)
      · exact ⟨r, List.mem_cons_of_mem _ hr, e⟩
      · exact ⟨u, .head _, e⟩
    · rintro ⟨r, hr, e⟩
      rcases List.mem_cons.mp hr with rfl | hr
      · exact .inr e
      · exact .inl ⟨r, hr, e⟩
theorem BR.form {N M L n : Nat} {R : Vc → Prop} {st : Steps} (b : BR N M R st) (hM : 1 ≤ M) (hN : N = L + n) : ∃ C, Hnf n (fun v => Sp R (shift L v)) C ∧ ∀ r ∈ C, r.length = n ∧ bnd (hB N M) (fv r) := by
  have go : ∀ k : Nat, k ≤ n → ∃ tl, FI N M L n R st (n - k) tl := by
    intro k
    induction k with
    | zero => intro _; exact ⟨_, FI.start b hM hN⟩
    | succ k ih =>
      intro hk
      obtain ⟨tl, F⟩ := ih (by omega)
      rw [show n - k = (n - (k + 1)) + 1 by omega] at F
      have hc : n - (k + 1) < tl.length := by rw [F.e.len]; omega
      have hst : tl[n - (k + 1)]? = some tl[n - (k + 1)] := List.getElem?_eq_getElem hc
      generalize tl[n - (k + 1)] = x at hst
      cases x with
      | none => exact ⟨tl, F.skip hst⟩
      | some l =>
        obtain ⟨z, hz⟩ := low_ex F.e (c := n - (k + 1)) (by omega) (xs := l) (F.e.row _ _ hst)
        exact ⟨_, F.step b hM hN hst hz⟩
  obtain ⟨tl, F⟩ := go n (Nat.le_refl _)
  rw [Nat.sub_self] at F
  refine ⟨tl.filterMap id, ⟨tl, F.e, fun c l j l' h1 h2 h3 => F.red c l j l' (Nat.zero_le _) h1 h2 h3, F.sp, rfl⟩, fun r hr => ?_⟩
  obtain ⟨x, hx, ex'⟩ := List.mem_filterMap.mp hr
  change x = some r at ex'
  subst ex'
  obtain ⟨c, hc⟩ := List.mem_iff_getElem?.mp hx
  exact ⟨F.e.row _ _ hc, F.hb b hM hN hc⟩
/-- every lattice that rows generate has a form -/
theorem hnf_ex {n M : Nat} (hM : 1 ≤ M) {R : List (List Int)} (h : ∀ r ∈ R, r.length = n ∧ bnd M (fv r)) : ∃ C, Hnf n (Sp (RL R)) C ∧ ∀ r ∈ C, r.length = n ∧ bnd (hB n M) (fv r) := by
  obtain ⟨st, b⟩ := BR.rows hM R h
  obtain ⟨C, hC, hb⟩ := b.form (L := 0) (n := n) hM (by omega)
  exact ⟨C, hC.congr fun v => by rw [shift_zero], hb⟩
end Hn

namespace Hg
open PySem PySem.Spec PyProof.Rows L2
/-- a list's places: pairs of a form and its modulus -/
def PairsIn (H : Hp) (as : List Addr) (S : List (List Int × Nat)) : Prop := as.length = S.length ∧ ∀ (i : Nat) (a : Addr) (p : List Int × Nat), as[i]? = some a → S[i]? = some p → ∃ fa : Addr, H a = some (.tup [.ref fa, .int (p.2 : Nat)]) ∧ H fa = some (.tup (iV p.1))
theorem PairsIn.mono {H H' : Hp} {as : List Addr} {S : List (List Int × Nat)} (h : PairsIn H as S) (k : ∀ a xs, H a = some (.tup xs) → H' a = some (.tup xs)) : PairsIn H' as S :=
  ⟨h.1, fun i a p h1 h2 => let ⟨fa, x, y⟩ := h.2 i a p h1 h2; ⟨fa, k _ _ x, k _ _ y⟩⟩
def okP (n : Nat) (p : List Int × Nat) : Prop := p.1.length = n ∧ Hn.bnd 99 (Hn.fv p.1) ∧ p.2 ≤ 2 ^ 20
def sp_l_lattice (_ : PySem.W.Frag) : Sp := fun vs H Q _ => ∃ (a : Addr) (as : List Addr) (n : Nat) (S : List (List Int × Nat)), vs = [.ref a, .int (n : Nat)] ∧ H a = some (.lst (as.map V.ref)) ∧ PairsIn H as S ∧ 1 ≤ n ∧ n ≤ 5 ∧ S.length ≤ 20 ∧ (∀ p ∈ S, okP n p) ∧
  ∀ (H' : Hp) (p : Addr) (bs : List Addr) (C : List (List Int)), Ex H H' → H' p = some (.tup (bs.map V.ref)) → RowsIn H' bs C → Hn.Hnf n (Hn.LatS n S) C → (∀ r ∈ C, r.length = n ∧ Hn.bnd (2 ^ 4153) (Hn.fv r)) → Q (.ref p) H'
theorem rm_lat {n : Nat} (h : n ≤ 5) : rm (1 + n) (2 ^ 4162) := rm_pow (N' := 6) (x := 4162) (by omega) (by decide) (Nat.le_refl _) (by decide +kernel)
theorem sm8_2 {x : Nat} (h : x < 40000000) : sm8 (2 ^ x) := by unfold sm8; rw [Nat.log2_two_pow]; exact h
end Hg
namespace Hg
open PySem PySem.Spec PyProof.Rows L2
def sp_l_drawn (_ : PySem.W.Frag) : Sp := fun vs H Q _ => ∃ (s q : Addr) (B n : Nat) (G : Hp), vs = [.ref s, .int (n : Nat)] ∧ n ≤ 5 ∧ Ov s q B G H ∧ B < 700000 ∧
  ∀ (p fa : Addr) (f : List Int) (m : Nat) (G' H' : Hp), Ex G G' → G p = none → Ov s q (B + 20) G' H' → G' p = some (.tup [.ref fa, .int (m : Nat)]) → G' fa = some (.tup (iV f)) → okP n (f, m) → Q (.ref p) H'
end Hg
namespace Hg
open PySem PySem.Spec PyProof.Rows L2
theorem PairsIn.nil {H : Hp} : PairsIn H [] [] := ⟨rfl, fun i a r h => by simp at h⟩
theorem PairsIn.one {H : Hp} {a fa : Addr} {f : List Int} {m : Nat} (h : H a = some (.tup [.ref fa, .int (m : Nat)])) (hf : H fa = some (.tup (iV f))) : PairsIn H [a] [(f, m)] :=
  ⟨rfl, fun i b p h1 h2 => by
    cases i with
    | zero => cases h1; cases h2; exact ⟨fa, h, hf⟩
    | succ i => simp at h1⟩
theorem PairsIn.app {H : Hp} {as bs : List Addr} {R S : List (List Int × Nat)} (h : PairsIn H as R) (g : PairsIn H bs S) : PairsIn H (as ++ bs) (R ++ S) := by
  refine ⟨by rw [List.length_append, List.length_append, h.1, g.1], fun i a p h1 h2 => ?_⟩
  by_cases hi : i < as.length
  · rw [List.getElem?_append_left hi] at h1
    rw [List.getElem?_append_left (by rw [← h.1]; exact hi)] at h2
    exact h.2 i a p h1 h2
  · rw [List.getElem?_append_right (by omega)] at h1
    rw [List.getElem?_append_right (by rw [← h.1]; omega), ← h.1] at h2
    exact g.2 _ a p h1 h2
theorem PairsIn.take {H : Hp} {as : List Addr} {R : List (List Int × Nat)} (h : PairsIn H as R) (k : Nat) : PairsIn H (as.take k) (R.take k) := by
  refine ⟨by rw [List.length_take, List.length_take, h.1], fun i a p h1 h2 => ?_⟩
  rw [List.getElem?_take] at h1 h2
  split at h1
  · rename_i hi
    rw [if_pos hi] at h2
    exact h.2 i a p h1 h2
  · cases h1
theorem PairsIn.drop {H : Hp} {as : List Addr} {R : List (List Int × Nat)} (h : PairsIn H as R) (k : Nat) : PairsIn H (as.drop k) (R.drop k) := by
  refine ⟨by rw [List.length_drop, List.length_drop, h.1], fun i a p h1 h2 => ?_⟩
  rw [List.getElem?_drop] at h1 h2
  exact h.2 _ a p h1 h2
theorem PairsIn.rep {H : Hp} {a fa : Addr} {f : List Int} {m : Nat} (h : H a = some (.tup [.ref fa, .int (m : Nat)])) (hf : H fa = some (.tup (iV f))) (k : Nat) : PairsIn H (List.replicate k a) (List.replicate k (f, m)) :=
  ⟨by simp, fun i b p h1 h2 => by
    have e1 := List.eq_of_mem_replicate (List.mem_of_getElem? h1)
    have e2 := List.eq_of_mem_replicate (List.mem_of_getElem? h2)
    subst e1; subst e2
    exact ⟨fa, h, hf⟩⟩
theorem PairsIn.beside {s q : Addr} {B : Nat} {G H : Hp} (O : Ov s q B G H) {as : List Addr} {S : List (List Int × Nat)} (h : PairsIn H as S) : PairsIn (beside s q H) as S := h.mono fun a xs h => O.tup h
/-- a pair at a place -/
theorem PairsIn.at_ {H : Hp} {as : List Addr} {S : List (List Int × Nat)} (h : PairsIn H as S) {i : Nat} {a : Addr} (ha : as[i]? = some a) : ∃ (fa : Addr) (f : List Int) (m : Nat), S[i]? = some (f, m) ∧ H a = some (.tup [.ref fa, .int (m : Nat)]) ∧ H fa = some (.tup (iV f)) := by
  have hi := (List.getElem?_eq_some_iff.mp ha).1
  have hl : i < S.length := by rw [← h.1]; exact hi
  have hs : S[i]? = some S[i] := List.getElem?_eq_getElem hl
  obtain ⟨fa, h1, h2⟩ := h.2 i a _ ha hs
  exact ⟨fa, _, _, hs, h1, h2⟩
def sp_l_other_list (_ : PySem.W.Frag) : Sp := fun vs H Q _ => ∃ (s q a : Addr) (B n : Nat) (G : Hp) (as : List Addr) (S : List (List Int × Nat)), vs = [.ref s, .ref a] ∧ Ov s q B G H ∧ B < 700000 ∧ n ≤ 5 ∧ G a = some (.lst (as.map V.ref)) ∧ PairsIn G as S ∧ (∀ p ∈ S, okP n p) ∧ S.length ≤ 10 ∧
  ∀ (l : Addr) (bs : List Addr) (T : List (List Int × Nat)) (G' H' : Hp), Ex G G' → Ov s q (B + 40 * S.length + 1) G' H' → G' l = some (.lst (bs.map V.ref)) → PairsIn G' bs T → (∀ p ∈ T, okP n p) → T.length ≤ 2 * S.length → (∀ v, Hn.LatS n T v ↔ Hn.LatS n S v) → Q (.ref l) H'
theorem okP.neg {n m : Nat} {f : List Int} (h : okP n (f, m)) : okP n (Hn.negL f, m) :=
  ⟨by rw [← h.1]; exact List.length_map .., fun j => by rw [Hn.fv_negL, Int.natAbs_neg]; exact h.2.1 j, h.2.2⟩
theorem okP.mod {n m m' : Nat} {f : List Int} (h : okP n (f, m)) (hm : m' ≤ m) : okP n (f, m') := ⟨h.1, h.2.1, Nat.le_trans hm h.2.2⟩
end Hg
namespace Hg
open PySem PySem.Spec PyProof.Rows L2
/-- a list of parts beside the list that is made -/
structure PrtIn (n : Nat) (f : List Int) (m : Nat) (s q Lf pl fb : Addr) (bs : List Addr) (T : List (List Int × Nat)) (H : Hp) : Prop where
  lf : H Lf = some (.lst (bs.map V.ref))
  tin : PairsIn H bs T
  n1 : pl ≠ s
  n2 : pl ≠ q
  n3 : pl ≠ Lf
  ex : ∃ (g : List Int) (ps : List Addr) (P : List (List Int × Nat)), H pl = some (.lst (ps.map V.ref)) ∧ PairsIn H ps P ∧ H fb = some (.tup (iV g)) ∧ okP n (g, m) ∧ (∀ p ∈ P, okP n p) ∧ P.length ≤ 2 ∧ (∀ v, Hn.LatS n P v ↔ Hn.LatS n [(f, m)] v) ∧ ∀ v, Hn.LatS n [(g, m)] v ↔ Hn.LatS n [(f, m)] v
theorem PrtIn.keep {n m : Nat} {f : List Int} {s q Lf pl fb : Addr} {bs : List Addr} {T : List (List Int × Nat)} {H H' : Hp} (h : PrtIn n f m s q Lf pl fb bs T H) (k : ∀ a xs, H a = some (.tup xs) → H' a = some (.tup xs)) (k1 : ∀ o, H Lf = some o → H' Lf = some o) (k2 : ∀ o, H pl = some o → H' pl = some o) : PrtIn n f m s q Lf pl fb bs T H' :=
  let ⟨g, ps, P, a, b, c, d⟩ := h.ex
  ⟨k1 _ h.lf, h.tin.mono k, h.n1, h.n2, h.n3, g, ps, P, k2 _ a, b.mono k, k _ _ c, d⟩
theorem PrtIn.ext {n m : Nat} {f : List Int} {s q Lf pl fb : Addr} {bs : List Addr} {T : List (List Int × Nat)} {H H' : Hp} (h : PrtIn n f m s q Lf pl fb bs T H) (e : Ex H H') : PrtIn n f m s q Lf pl fb bs T H' := h.keep (fun _ _ x => e _ _ x) (fun _ x => e _ _ x) (fun _ x => e _ _ x)
theorem PrtIn.draw {n m B B1 : Nat} {f : List Int} {s q Lf pl fb : Addr} {bs : List Addr} {T : List (List Int × Nat)} {G H H1 : Hp} (h : PrtIn n f m s q Lf pl fb bs T H) (nL : Lf ≠ s ∧ Lf ≠ q) (O : Ov s q B G H) (O1 : Ov s q B1 (beside s q H) H1) : PrtIn n f m s q Lf pl fb bs T H1 :=
  h.keep (fun _ _ x => O.t O1 x) (fun _ x => O1.l nL.1 nL.2 x) (fun _ x => O1.l h.n1 h.n2 x)
theorem part_split {m k : Nat} (hm : 0 < m) (hk : 0 < k) (h : m % k = 0) (hg : Nat.gcd k (m / k) = 1) {n : Nat} {g : List Int} (ok : okP n (g, m)) : okP n (g, k) ∧ okP n (g, m / k) ∧ ∀ v, Hn.LatS n [(g, k), (g, m / k)] v ↔ Hn.LatS n [(g, m)] v := by
  have e : k * (m / k) = m := Nat.mul_div_cancel' (Nat.dvd_of_mod_eq_zero h)
  refine ⟨ok.mod (Nat.le_of_dvd hm (Nat.dvd_of_mod_eq_zero h)), ok.mod (Nat.div_le_self _ _), fun v => ?_⟩
  rw [Hn.LatS.two hg, e]
end Hg

set_option maxHeartbeats 4000000
namespace Hg
open PySem PySem.Spec PyProof.Rows L2
/-! ### the class Knowledge: its names, its methods -/
structure KCls_Knowledge (K : PySem.W.Frag) (mg : Str → Option Value) (C : Addr) : Prop where
  cl : Cls K C
  nS : NoAttr K C "_size"
  nO : NoAttr K C "_observations"
  nT : NoAttr K C "_stages"
  mg : mg "Knowledge" = some (.ref C)
structure MethK (K : PySem.W.Frag) (C : Addr) (m qual : Str) (st : Stmt) (ps : List Str) (f : Addr) (fd : FuncData) : Prop where
  fn : Fun K m qual st f fd
  bd : Binds K fd ps []
  mt : Meth K C m f
/-- an __init__ whose last argument has a tuple at d as its default -/
structure InitK (K : PySem.W.Frag) (C : Addr) (qual : Str) (st : Stmt) (ps : List Str) (d : Addr) (f : Addr) (fd : FuncData) : Prop where
  fn : FunD K "__init__" qual (defArgs st) (defBody st) (defScope st) [.ref d] [] f fd
  bd : Binds K fd ps []
  bd1 : Binds K fd ps [.ref d]
  mak : Mk K C f
  at_ : ∀ H : Hp, SqT K H d []
theorem InitK.dv {K : PySem.W.Frag} {C : Addr} {qual : Str} {st : Stmt} {ps : List Str} {d f : Addr} {fd : FuncData} (_ : InitK K C qual st ps d f fd) : Vals [.ref d] [.ref d] := .cons rfl .nil
/-! ### its fields -/
def kf (n : Int) (o s : Addr) : List (Str × V) := [("_size", .int n), ("_observations", .ref o), ("_stages", .ref s)]
theorem kf_1 (n : Int) : putF "_size" (.int n) [] = ([("_size", V.int n)] : List (Str × V)) := rfl
theorem so_ : ¬ (("_size" : Str) = "_observations") := by decide +kernel
theorem st_ : ¬ (("_size" : Str) = "_stages") := by decide +kernel
theorem ot_ : ¬ (("_observations" : Str) = "_stages") := by decide +kernel
theorem kf_2 (n : Int) (o : Addr) : putF "_observations" (.ref o) (putF "_size" (.int n) []) = ([("_size", V.int n), ("_observations", V.ref o)] : List (Str × V)) := by
  show (if ("_size" : Str) = "_observations" then _ else (("_size" : Str), V.int n) :: putF "_observations" (V.ref o) []) = _
  rw [if_neg so_]; rfl
theorem kf_3 (n : Int) (o s : Addr) : putF "_stages" (.ref s) (putF "_observations" (.ref o) (putF "_size" (.int n) [])) = kf n o s := by
  rw [kf_2]
  show (if ("_size" : Str) = "_stages" then _ else (("_size" : Str), V.int n) :: (if ("_observations" : Str) = "_stages" then _ else (("_observations" : Str), V.ref o) :: putF "_stages" (V.ref s) [])) = _
  rw [if_neg st_, if_neg ot_]; rfl
theorem kf_o (n : Int) (o s x : Addr) : putF "_observations" (.ref x) (kf n o s) = kf n x s := by
  show (if ("_size" : Str) = "_observations" then _ else (("_size" : Str), V.int n) :: (if ("_observations" : Str) = "_observations" then (("_observations" : Str), V.ref x) :: [(("_stages" : Str), V.ref s)] else _)) = _
  rw [if_neg so_, if_pos rfl]; rfl
theorem kf_t (n : Int) (o s x : Addr) : putF "_stages" (.ref x) (kf n o s) = kf n o x := by
  show (if ("_size" : Str) = "_stages" then _ else (("_size" : Str), V.int n) :: (if ("_observations" : Str) = "_stages" then _ else (("_observations" : Str), V.ref o) :: (if ("_stages" : Str) = "_stages" then [(("_stages" : Str), V.ref x)] else _))) = _
  rw [if_neg st_, if_neg ot_, if_pos rfl]; rfl
theorem lk_put {x y : Str} {v w : V} {l : List (Str × V)} : ((x, v) :: l).lookup y = if y = x then some v else l.lookup y := by
  rw [List.lookup_cons]
  by_cases h : y = x
  · rw [if_pos h, h]; simp
  · rw [if_neg h]; have : (y == x) = false := by simpa using h
    rw [this]
theorem kf_size (n : Int) (o s : Addr) : (kf n o s).lookup ("_size" : Str) = some (.int n) := by
  unfold kf; rw [lk_put (w := .non), if_pos rfl]
theorem kf_obs (n : Int) (o s : Addr) : (kf n o s).lookup ("_observations" : Str) = some (.ref o) := by
  unfold kf; rw [lk_put (w := .non), if_neg (Ne.symm so_), lk_put (w := .non), if_pos rfl]
theorem kf_stg (n : Int) (o s : Addr) : (kf n o s).lookup ("_stages" : Str) = some (.ref s) := by
  unfold kf; rw [lk_put (w := .non), if_neg (Ne.symm st_), lk_put (w := .non), if_neg (Ne.symm ot_), lk_put (w := .non), if_pos rfl]
theorem kf_no {n : Int} {o s : Addr} {m : Str} (h1 : ¬ m = "_size") (h2 : ¬ m = "_observations") (h3 : ¬ m = "_stages") : (kf n o s).lookup m = none := by
  unfold kf; rw [lk_put (w := .non), if_neg h1, lk_put (w := .non), if_neg h2, lk_put (w := .non), if_neg h3]; rfl
/-! ### its data -/
/-- a tuple or a list of whole numbers -/
def FrmAt (H : Hp) (a : Addr) (f : List Int) : Prop := H a = some (.tup (iV f)) ∨ H a = some (.lst (iV f))
theorem FrmAt.ex {H H' : Hp} {a : Addr} {f : List Int} (e : Ex H H') (h : FrmAt H a f) : FrmAt H' a f := h.imp (e _ _) (e _ _)
/-- pairs of a form, a tuple or a list, and its modulus -/
def ObsIn (H : Hp) (as : List Addr) (S : List (List Int × Nat)) : Prop := as.length = S.length ∧ ∀ (i : Nat) (a : Addr) (p : List Int × Nat), as[i]? = some a → S[i]? = some p → ∃ fa : Addr, H a = some (.tup [.ref fa, .int (p.2 : Nat)]) ∧ FrmAt H fa p.1
theorem ObsIn.ex {H H' : Hp} {as : List Addr} {S : List (List Int × Nat)} (e : Ex H H') (h : ObsIn H as S) : ObsIn H' as S :=
  ⟨h.1, fun i a p h1 h2 => let ⟨fa, x, y⟩ := h.2 i a p h1 h2; ⟨fa, e _ _ x, y.ex e⟩⟩
theorem PairsIn.obs {H : Hp} {as : List Addr} {S : List (List Int × Nat)} (h : PairsIn H as S) : ObsIn H as S :=
  ⟨h.1, fun i a p h1 h2 => let ⟨fa, x, y⟩ := h.2 i a p h1 h2; ⟨fa, x, .inl y⟩⟩
/-- bases of lattices, one behind the other -/
def StIn (H : Hp) (ts : List Addr) (Bs : List (List (List Int))) : Prop := ts.length = Bs.length ∧ ∀ (i : Nat) (t : Addr) (R : List (List Int)), ts[i]? = some t → Bs[i]? = some R → ∃ as : List Addr, H t = some (.tup (as.map V.ref)) ∧ RowsIn H as R
theorem StIn.mono {H H' : Hp} {ts : List Addr} {Bs : List (List (List Int))} (k : ∀ a xs, H a = some (.tup xs) → H' a = some (.tup xs)) (h : StIn H ts Bs) : StIn H' ts Bs :=
  ⟨h.1, fun i a p h1 h2 => let ⟨fa, x, y⟩ := h.2 i a p h1 h2; ⟨fa, k _ _ x, y.mono k⟩⟩
theorem StIn.snoc {H : Hp} {ts : List Addr} {Bs : List (List (List Int))} (h : StIn H ts Bs) {t : Addr} {R : List (List Int)} {as : List Addr} (h1 : H t = some (.tup (as.map V.ref))) (h2 : RowsIn H as R) : StIn H (ts ++ [t]) (Bs ++ [R]) := by
  refine ⟨by simp [h.1], fun i b x h3 h4 => ?_⟩
  by_cases hi : i < ts.length
  · rw [List.getElem?_append_left hi] at h3
    rw [List.getElem?_append_left (by rw [← h.1]; exact hi)] at h4
    exact h.2 i b x h3 h4
  · rw [List.getElem?_append_right (by omega)] at h3
    rw [List.getElem?_append_right (by rw [← h.1]; omega), ← h.1] at h4
    have : i - ts.length = 0 := by have := (List.getElem?_eq_some_iff.mp h3).1; simp at this; omega
    rw [this] at h3 h4
    cases h3; cases h4
    exact ⟨as, h1, h2⟩
theorem PairsIn.snoc {H : Hp} {as : List Addr} {S : List (List Int × Nat)} (h : PairsIn H as S) {a fa : Addr} {f : List Int} {m : Nat} (h1 : H a = some (.tup [.ref fa, .int (m : Nat)])) (h2 : H fa = some (.tup (iV f))) : PairsIn H (as ++ [a]) (S ++ [(f, m)]) := by
  refine ⟨by simp [h.1], fun i b x h3 h4 => ?_⟩
  by_cases hi : i < as.length
  · rw [List.getElem?_append_left hi] at h3
    rw [List.getElem?_append_left (by rw [← h.1]; exact hi)] at h4
    exact h.2 i b x h3 h4
  · rw [List.getElem?_append_right (by omega)] at h3
    rw [List.getElem?_append_right (by rw [← h.1]; omega), ← h.1] at h4
    have : i - as.length = 0 := by have := (List.getElem?_eq_some_iff.mp h3).1; simp at this; omega
    rw [this] at h3 h4
    cases h3; cases h4
    exact ⟨fa, h1, h2⟩
/-- each is the basis of what the observations ahead of it tell -/
def Chain (n : Nat) (S : List (List Int × Nat)) (Bs : List (List (List Int))) : Prop := Bs.length = S.length + 1 ∧ ∀ (i : Nat) (R : List (List Int)), Bs[i]? = some R → Hn.Hnf n (Hn.LatS n (S.take i)) R
theorem Chain.nil {n : Nat} : Chain n [] [Hn.unitB n 1] := ⟨rfl, fun i R h => by
  cases i with
  | zero => cases h; exact Hn.Hnf.units
  | succ i => simp at h⟩
theorem Chain.snoc {n : Nat} {S : List (List Int × Nat)} {Bs : List (List (List Int))} (h : Chain n S Bs) {p : List Int × Nat} {R : List (List Int)} (hR : Hn.Hnf n (Hn.LatS n (S ++ [p])) R) : Chain n (S ++ [p]) (Bs ++ [R]) := by
  refine ⟨by simp [h.1], fun i Q hi => ?_⟩
  by_cases c : i < Bs.length
  · rw [List.getElem?_append_left c] at hi
    rw [List.take_append_of_le_length (by have := h.1; omega)]
    exact h.2 i Q hi
  · rw [List.getElem?_append_right (by omega)] at hi
    have e : i - Bs.length = 0 := by have := (List.getElem?_eq_some_iff.mp hi).1; simp at this; omega
    rw [e] at hi
    cases hi
    rw [List.take_of_length_le (by have := h.1; simp; omega)]
    exact hR
def KnD (H : Hp) (n : Nat) (S : List (List Int × Nat)) (o s : Addr) : Prop := ∃ (oas ts : List Addr) (Bs : List (List (List Int))), H o = some (.tup (oas.map V.ref)) ∧ PairsIn H oas S ∧ H s = some (.tup (ts.map V.ref)) ∧ StIn H ts Bs ∧ Chain n S Bs
theorem KnD.mono {H H' : Hp} {n : Nat} {S : List (List Int × Nat)} {o s : Addr} (k : ∀ a xs, H a = some (.tup xs) → H' a = some (.tup xs)) (h : KnD H n S o s) : KnD H' n S o s := by
  obtain ⟨oas, ts, Bs, h1, h2, h3, h4, h5⟩ := h
  exact ⟨oas, ts, Bs, k _ _ h1, h2.mono k, k _ _ h3, h4.mono k, h5⟩
/-- at p stands a Knowledge of n cells from the observations S -/
def KnAt (C : Addr) (H : Hp) (p : Addr) (n : Nat) (S : List (List Int × Nat)) : Prop := ∃ dx o s : Addr, H p = some (.ins C dx (kf n o s)) ∧ KnD H n S o s
theorem KnAt.ex {C : Addr} {H H' : Hp} {p : Addr} {n : Nat} {S : List (List Int × Nat)} (e : Ex H H') (h : KnAt C H p n S) : KnAt C H' p n S := by
  obtain ⟨dx, o, s, h1, h2⟩ := h
  exact ⟨dx, o, s, e _ _ h1, h2.mono fun a xs z => e _ _ z⟩
/-- sizes of numbers: A of forms, B of rows, M ahead of a restriction -/
structure KB (n A B M : Nat) : Prop where
  n1 : 1 ≤ n
  n12 : n ≤ 12
  sA : sm8 A
  sB : sm8 B
  h0 : A ≤ B
  h1 : n * (A * B) ≤ M
  h2 : B ≤ M
  h3 : 1000000 ≤ M
  hr : rm (1 + n) M
/-- what a list of observations keeps -/
structure KS (n A B : Nat) (S : List (List Int × Nat)) : Prop where
  ok : ∀ p ∈ S, p.1.length = n ∧ Hn.bnd A (Hn.fv p.1) ∧ p.2 ≤ 1000000
  le : S.length ≤ 200
  bd : ∀ (i : Nat) (R : List (List Int)), Hn.Hnf n (Hn.LatS n (S.take i)) R → ∀ r ∈ R, Hn.bnd B (Hn.fv r)
/-- all but p is kept -/
def Bt (p : Addr) (H H' : Hp) : Prop := ∀ b u, b ≠ p → H b = some u → H' b = some u
/-! ### the promises -/
def sp_is_multiple (_ : PySem.W.Frag) : Sp := fun vs H Q _ => ∃ a b : Int, vs = [.int a, .int b] ∧ Q (.bl (decide (b ∣ a))) H
def sp_checked_form (_ : PySem.W.Frag) : Sp := fun vs H Q _ => ∃ (a : Addr) (n : Nat) (f : List Int), vs = [.ref a, .int (n : Nat)] ∧ FrmAt H a f ∧ f.length = n ∧ n ≤ 1000 ∧ ∀ (H' : Hp) (p : Addr), Ex H H' → H' p = some (.tup (iV f)) → Q (.ref p) H'
def sp_checked_modulus (_ : PySem.W.Frag) : Sp := fun vs H Q _ => ∃ m : Nat, vs = [.int (m : Nat)] ∧ m ≤ 1000000 ∧ Q (.int (m : Nat)) H
def sp__narrowed (_ : PySem.W.Frag) : Sp := fun vs H Q _ => ∃ (a b : Addr) (n A B M m : Nat) (as : List Addr) (R : List (List Int)) (f : List Int) (S : List (List Int × Nat)), vs = [.ref a, .ref b, .int (m : Nat)] ∧ H a = some (.tup (as.map V.ref)) ∧ RowsIn H as R ∧ H b = some (.tup (iV f)) ∧ f.length = n ∧ KB n A B M ∧ Hn.bnd A (Hn.fv f) ∧
  (∀ r ∈ R, Hn.bnd B (Hn.fv r)) ∧ m ≤ 1000000 ∧ Hn.Hnf n (Hn.LatS n S) R ∧
  ∀ (H' : Hp) (p : Addr) (cs : List Addr) (D : List (List Int)), Ex H H' → H' p = some (.tup (cs.map V.ref)) → RowsIn H' cs D → Hn.Hnf n (Hn.LatS n (S ++ [(f, m)])) D → Q (.ref p) H'
def sp_Knowledge_grain (C : Addr) (_ : PySem.W.Frag) : Sp := fun vs H Q _ => ∃ (p a : Addr) (n A B M : Nat) (S : List (List Int × Nat)) (f : List Int), vs = [.ref p, .ref a] ∧ KnAt C H p n S ∧ KB n A B M ∧ KS n A B S ∧ FrmAt H a f ∧ f.length = n ∧ Hn.bnd A (Hn.fv f) ∧
  ∀ (H' : Hp) (g : Int) (R : List (List Int)), Ex H H' → Hn.Hnf n (Hn.LatS n S) R → Hn.Grn n (Hn.fv f) R g → Q (.int g) H'
def sp_Knowledge_add (C : Addr) (K : PySem.W.Frag) : Sp := fun vs H Q _ => ∃ (k : Bool) (p b dx o s : Addr) (n A B M : Nat) (S T : List (List Int × Nat)) (as : List Addr), vs = [.ref p, .ref b] ∧ H p = some (.ins C dx (kf n o s)) ∧ KnD H n S o s ∧ KB n A B M ∧ KS n A B (S ++ T) ∧ SqK K k H b (as.map V.ref) ∧ ObsIn H as T ∧
  ∀ (H' : Hp) (o' s' : Addr), Bt p H H' → H' p = some (.ins C dx (kf n o' s')) → KnD H' n (S ++ T) o' s' → Q .non H'
def sp_Knowledge_init (C : Addr) (K : PySem.W.Frag) : Sp := fun vs H Q _ => ∃ (k : Bool) (p b dx : Addr) (n A B M : Nat) (T : List (List Int × Nat)) (as : List Addr), vs = [.ref p, .int (n : Nat), .ref b] ∧ H p = some (.ins C dx []) ∧ KB n A B M ∧ KS n A B T ∧ SqK K k H b (as.map V.ref) ∧ ObsIn H as T ∧
  ∀ (H' : Hp), Bt p H H' → KnAt C H' p n T → Q .non H'
def sp_Knowledge_extended (C : Addr) (K : PySem.W.Frag) : Sp := fun vs H Q _ => ∃ (k : Bool) (p b : Addr) (n A B M : Nat) (S T : List (List Int × Nat)) (as : List Addr), vs = [.ref p, .ref b] ∧ KnAt C H p n S ∧ KB n A B M ∧ KS n A B (S ++ T) ∧ SqK K k H b (as.map V.ref) ∧ ObsIn H as T ∧
  ∀ (H' : Hp) (x : Addr), Ex H H' → H x = none → KnAt C H' x n (S ++ T) → Q (.ref x) H'
def sp_Knowledge_observe (C : Addr) (_ : PySem.W.Frag) : Sp := fun vs H Q _ => ∃ (p a : Addr) (n A B M m : Nat) (S : List (List Int × Nat)) (f : List Int), vs = [.ref p, .ref a, .int (m : Nat)] ∧ KnAt C H p n S ∧ KB n A B M ∧ KS n A B (S ++ [(f, m)]) ∧ FrmAt H a f ∧
  ∀ (H' : Hp) (x : Addr), Ex H H' → H x = none → KnAt C H' x n (S ++ [(f, m)]) → Q (.ref x) H'
/-! ### lemmas -/
theorem Bt.ex {p : Addr} {H0 H H' : Hp} (b : Bt p H H') (e : Ex H0 H) (n : H0 p = none) : Ex H0 H' := fun a o h => b a o (ne_of_none h n) (e _ _ h)
theorem KS.left {n A B : Nat} {S T : List (List Int × Nat)} (h : KS n A B (S ++ T)) : KS n A B S := by
  refine ⟨fun p hp => h.ok p (List.mem_append_left _ hp), by have := h.le; rw [List.length_append] at this; omega, fun i R hR => ?_⟩
  by_cases c : i ≤ S.length
  · exact h.bd i R (by rw [List.take_append_of_le_length c]; exact hR)
  · refine h.bd S.length R ?_
    rw [List.take_append_of_le_length (Nat.le_refl _), List.take_length]
    rw [List.take_of_length_le (by omega)] at hR
    exact hR
theorem KnD.basis {H : Hp} {n : Nat} {S : List (List Int × Nat)} {o s : Addr} (h : KnD H n S o s) : ∃ (ts us : List Addr) (t : Addr) (R : List (List Int)), H s = some (.tup (ts.map V.ref)) ∧ ts[ts.length - 1]? = some t ∧ 1 ≤ ts.length ∧ H t = some (.tup (us.map V.ref)) ∧ RowsIn H us R ∧ Hn.Hnf n (Hn.LatS n S) R := by
  obtain ⟨oas, ts, Bs, h1, h2, h3, h4, h5⟩ := h
  have l1 := h4.1
  have l2 := h5.1
  have ht : ts[ts.length - 1]? = some (ts[ts.length - 1]'(by omega)) := List.getElem?_eq_getElem (by omega)
  have hB : Bs[ts.length - 1]? = some (Bs[ts.length - 1]'(by omega)) := List.getElem?_eq_getElem (by omega)
  obtain ⟨us, q1, q2⟩ := h4.2 _ _ _ ht hB
  have q3 := h5.2 _ _ hB
  rw [List.take_of_length_le (by omega)] at q3
  exact ⟨ts, us, _, _, h3, ht, by omega, q1, q2, q3⟩
end Hg
namespace Hg
open PySem PySem.Spec PyProof.Rows L2
theorem FrmAt.dp {K : PySem.W.Frag} {H : Hp} {a : Addr} {f : List Int} (h : FrmAt H a f) : ∃ d, Dp K H (.ref a) d ∧ isSq d = true := by
  rcases h with h | h
  · exact ⟨_, dp_t (SqT.of h), rfl⟩
  · exact ⟨_, dp_l (SqL.of h), rfl⟩
theorem tup_frm {K : PySem.W.Frag} {H : Hp} {a : Addr} {f : List Int} {Q : VK} (h : FrmAt H a f) (q : ∀ (p : Addr) (H' : Hp), Ex H H' → H' p = some (.tup (iV f)) → Q (.ref p) H') : rTupK K [.ref a] H Q := by
  rcases h with h | h
  · exact ⟨a, _, rfl, .inr ⟨SqT.of h, q a H (Ex.refl H) h⟩⟩
  · exact ⟨a, _, rfl, .inl ⟨SqL.of h, fun l hl => q l _ (Ex.new hl) upd_same⟩⟩
theorem frm_true {f : List Int} {n : Nat} (h : f.length = n) : (decide (((iV f).length : Int) = (n : Int)) && (iV f).all isI) = true := by
  have h1 : (iV f).all isI = true := List.all_eq_true.mpr fun x hx => by
    obtain ⟨z, _, rfl⟩ := List.mem_map.mp hx
    rfl
  rw [h1, Bool.and_true]
  exact decide_eq_true (by simp [h])
theorem atI_end {ts : List Addr} {t : Addr} (h : ts[ts.length - 1]? = some t) (h1 : 1 ≤ ts.length) : atI (ts.map V.ref) (-1) = some (.ref t) := by
  have e : ts = ts.dropLast ++ [t] := by
    have hne : ts ≠ [] := fun e => by rw [e] at h1; simp at h1
    rw [← List.getLast?_eq_getElem?] at h
    rw [List.getLast?_eq_some_getLast hne] at h
    rw [← Option.some.inj h, List.dropLast_concat_getLast hne]
  rw [e, List.map_append]
  exact Hg.atI_last
end Hg
namespace Hn
theorem Hnf.rlen {n : Nat} {V : Vc → Prop} {R : List (List Int)} (h : Hnf n V R) : ∀ r ∈ R, r.length = n := fun r hr => by
  obtain ⟨cs, ec⟩ := h.ech
  obtain ⟨i, hi⟩ := List.getElem?_of_mem hr
  have hl : i < cs.length := by rw [ec.len]; exact (List.getElem?_eq_some_iff.mp hi).1
  exact (ec.row i _ r (List.getElem?_eq_getElem hl) hi).1
end Hn
namespace Hg
open PySem PySem.Spec PyProof.Rows L2
theorem KS.none {n A B : Nat} {S : List (List Int × Nat)} (h : KS n A B S) : KS n A B [] := KS.left (S := []) (T := S) h
theorem bt_seq {K : PySem.W.Frag} {k : Bool} {H H' : Hp} {p C dx b : Addr} {fs : List (Str × V)} {xs : List V} (bt : Bt p H H') (hp : H p = some (.ins C dx fs)) (h : SqK K k H b xs) : SqK K k H' b xs := by
  have rd : ∀ {u : HO}, (∀ C dx fs, u ≠ .ins C dx fs) → (∀ o C dx fs, HO.frz o u ≠ .ins C dx fs) → Rd H b u → Rd H' b u := fun {u} nu nf z => z.elim (fun z => .inl (bt _ _ (fun e => by rw [e, hp] at z; exact nu _ _ _ (Option.some.inj z).symm) z)) fun ⟨o, z⟩ => .inr ⟨o, bt _ _ (fun e => by rw [e, hp] at z; exact nf _ _ _ _ (Option.some.inj z).symm) z⟩
  cases k with
  | true => exact Or.imp (rd (fun _ _ _ e => by cases e) fun _ _ _ _ e => by cases e) id h
  | false => exact Or.imp (rd (fun _ _ _ e => by cases e) fun _ _ _ _ e => by cases e) id h
theorem bt_obs {H H' : Hp} {p C dx : Addr} {fs : List (Str × V)} {as : List Addr} {T : List (List Int × Nat)} (bt : Bt p H H') (hp : H p = some (.ins C dx fs)) (h : ObsIn H as T) : ObsIn H' as T := by
  refine ⟨h.1, fun i a q h1 h2 => ?_⟩
  obtain ⟨fa, g1, g2⟩ := h.2 i a q h1 h2
  refine ⟨fa, bt _ _ (fun e => by rw [e, hp] at g1; cases g1) g1, ?_⟩
  rcases g2 with g2 | g2
  · exact .inl (bt _ _ (fun e => by rw [e, hp] at g2; cases g2) g2)
  · exact .inr (bt _ _ (fun e => by rw [e, hp] at g2; cases g2) g2)
end Hg

namespace Hn
/-! ### the index of a restriction -/
theorem bez (a : Int) : ∀ b : Int, ∃ x y : Int, (x * a + y * b) ∣ a ∧ (x * a + y * b) ∣ b := fun b => by
  generalize hn : b.natAbs = n
  induction n using Nat.strongRecOn generalizing a b with
  | ind n ih =>
    by_cases hb : b = 0
    · subst hb
      exact ⟨1, 0, by simp, Int.dvd_zero _⟩
    · have h0 := Int.emod_nonneg a hb
      have h1 := Int.emod_lt a hb
      obtain ⟨x, y, d1, d2⟩ := ih (a % b).natAbs (by omega) b (a % b) rfl
      have e := Int.mul_ediv_add_emod a b
      refine ⟨y, x - y * (a / b), ?_, ?_⟩
      · have : y * a + (x - y * (a / b)) * b = x * b + y * (a % b) := by
          have : y * a = y * (b * (a / b)) + y * (a % b) := by rw [← Int.mul_add, e]
          rw [this]; grind
        rw [this]
        exact (congrArg (fun z => x * b + y * (a % b) ∣ z) e) ▸ Int.dvd_add (Int.dvd_trans d1 (Int.dvd_mul_right _ _)) d2
      · have : y * a + (x - y * (a / b)) * b = x * b + y * (a % b) := by
          have : y * a = y * (b * (a / b)) + y * (a % b) := by rw [← Int.mul_add, e]
          rw [this]; grind
        rw [this]
        exact d1
theorem val_least {n : Nat} {f : Vc} : ∀ R : List (List Int), ∃ u, Sp (RL R) u ∧ ∀ r ∈ R, dv n f u ∣ dv n f (fv r)
  | [] => ⟨_, .zero, by simp⟩
  | r :: R => by
    obtain ⟨u, hu, hd⟩ := val_least (n := n) (f := f) R
    obtain ⟨x, y, d1, d2⟩ := bez (dv n f (fv r)) (dv n f u)
    have e : dv n f (fun j => x * fv r j + y * u j) = x * dv n f (fv r) + y * dv n f u := by
      have h1 := dv_comb (n := n) (f := f) (u := fv r) (v := fun j => y * u j) (k := x)
      have h2 := dv_comb (n := n) (f := f) (u := u) (v := fun _ => 0) (k := y)
      have z : dv n f (fun _ => 0) = 0 := sm_zero fun i _ => by simp
      rw [z] at h2
      rw [h1]
      simp only [Int.add_zero] at h2
      rw [h2]
    refine ⟨fun j => x * fv r j + y * u j, ((Sp.of ⟨r, .head _, rfl⟩).mul x).plus ((hu.mono fun v ⟨q, hq, e⟩ => ⟨q, .tail _ hq, e⟩).mul y), fun q hq => ?_⟩
    rw [e]
    rcases List.mem_cons.mp hq with rfl | hq
    · exact d1
    · exact Int.dvd_trans d2 (hd q hq)
theorem Grn.val {n : Nat} {f : Vc} {R : List (List Int)} {g : Int} (h : Grn n f R g) : ∃ u, Sp (RL R) u ∧ dv n f u = g := by
  obtain ⟨u, hu, hd⟩ := val_least (n := n) (f := f) R
  have d1 : dv n f u ∣ g := (h.2 _).mpr hd
  have d2 : g ∣ dv n f u := (h.span g).mp (Int.dvd_refl g) u hu
  have := Int.natAbs_eq_of_dvd_dvd d1 d2
  rcases (by omega : dv n f u = g ∨ dv n f u = -g) with e | e
  · exact ⟨u, hu, e⟩
  · refine ⟨fun j => -1 * u j, hu.mul (-1), ?_⟩
    have h2 := dv_comb (n := n) (f := f) (u := u) (v := fun _ => 0) (k := -1)
    have z : dv n f (fun _ => 0) = 0 := sm_zero fun i _ => by simp
    rw [z, e] at h2
    simp only [Int.add_zero] at h2
    rw [h2]; omega
def dueI (m : Nat) (g : Int) : Nat := if g = 0 then 1 else if 0 < m then m / Int.gcd m g else 0
theorem rest_idx {n m : Nat} {f : Vc} {g : Int} {cs : List Nat} {C D : List (List Int)} (eC : EchR n cs C) (hD : Hnf n (fun v => Sp (RL C) v ∧ (m : Int) ∣ dv n f v) D) (hg : Grn n f C g) :
    (∀ r ∈ D, Sp (RL C) (fv r)) ∧ (dueI m g = 0 → D.length < C.length) ∧ (dueI m g ≠ 0 → D.length = C.length ∧ Idx (Sp (RL C)) (Sp (RL D)) (dueI m g)) := by
  obtain ⟨ds, eD⟩ := hD.ech
  have sub : ∀ r ∈ D, Sp (RL C) (fv r) := fun r hr => ((hD.span _).mpr (.of ⟨r, hr, rfl⟩)).1
  have cb := eC.cols_sub eD sub
  obtain ⟨u, hu, eu⟩ := hg.val
  have gd : ∀ v, Sp (RL C) v → g ∣ dv n f v := (hg.span g).mp (Int.dvd_refl g)
  have dk : ∀ (k : Int) (v : Vc), dv n f (fun j => k * v j) = k * dv n f v := fun k v => by
    have h2 := dv_comb (n := n) (f := f) (u := v) (v := fun _ => 0) (k := k)
    have z : dv n f (fun _ => 0) = 0 := sm_zero fun i _ => by simp
    rw [z] at h2
    simp only [Int.add_zero] at h2
    exact h2
  refine ⟨sub, fun h0 => ?_, fun h1 => ?_⟩
  · unfold dueI at h0
    by_cases g0 : g = 0
    · rw [if_pos g0] at h0; omega
    · rw [if_neg g0] at h0
      have m0 : m = 0 := by
        apply Classical.byContradiction
        intro hm
        rw [if_pos (by omega)] at h0
        have hp : 0 < Int.gcd (m : Int) g := Int.gcd_pos_of_ne_zero_left _ (by omega)
        have : Int.gcd (m : Int) g ≤ m := by
          have := Int.gcd_dvd_left (a := (m : Int)) (b := g)
          have := Int.le_of_dvd (by omega) this
          omega
        have := Nat.div_pos this hp
        omega
      subst m0
      refine Nat.lt_of_le_of_ne cb.1 fun el => ?_
      have ed := cb.2 el
      subst ed
      obtain ⟨N, n1, _, _, ht⟩ := Idx.piv eC eD sub
      have := ((hD.span _).mpr (ht u hu)).2
      rw [dk, eu] at this
      have := Int.zero_dvd.mp this
      rcases Int.mul_eq_zero.mp this with h | h <;> omega
  · unfold dueI at h1 ⊢
    by_cases g0 : g = 0
    · rw [if_pos g0]
      have same : ∀ v, Sp (RL C) v ↔ Sp (RL D) v := fun v => by
        rw [← hD.span]
        exact ⟨fun h => ⟨h, by
          have := gd v h
          rw [g0] at this
          rw [Int.zero_dvd.mp this]; exact Int.dvd_zero _⟩, fun h => h.1⟩
      have c2 := eD.cols_sub eC fun r hr => (same _).mp (.of ⟨r, hr, rfl⟩)
      exact ⟨by omega, (Idx.self (Lat.sp (RL C))).congr (fun _ => Iff.rfl) same⟩
    · rw [if_neg g0] at h1 ⊢
      by_cases hm : 0 < m
      · rw [if_pos hm] at h1 ⊢
        have hp : 0 < Int.gcd (m : Int) g := Int.gcd_pos_of_ne_zero_left _ (by omega)
        obtain ⟨m', hm'⟩ : Int.gcd (m : Int) g ∣ m := by
          have := Int.gcd_dvd_left (a := (m : Int)) (b := g)
          exact Int.natCast_dvd_natCast.mp this
        obtain ⟨g', hg'⟩ := Int.gcd_dvd_right (a := (m : Int)) (b := g)
        generalize hG : Int.gcd (m : Int) g = G at *
        have eb : m / G = m' := by rw [hm']; exact Nat.mul_div_cancel_left _ hp
        rw [eb] at h1 ⊢
        have mem : ∀ t : Int, Sp (RL D) (fun j => t * u j) ↔ (m : Int) ∣ t * g := fun t => by
          rw [← hD.span, dk, eu]
          exact ⟨fun h => h.2, fun h => ⟨hu.mul t, h⟩⟩
        have cop : Int.gcd (m' : Int) g' = 1 := by
          have : Int.gcd ((G : Int) * m') ((G : Int) * g') = G * Int.gcd m' g' := by rw [Int.gcd_mul_left]; rfl
          rw [← hg', show (G : Int) * (m' : Int) = (m : Int) by rw [hm']; exact (Int.natCast_mul G m').symm, hG] at this
          exact Nat.eq_of_mul_eq_mul_left hp (by rw [← this, Nat.mul_one])
        have hmz : (m : Int) = (G : Int) * m' := by rw [hm']; exact Int.natCast_mul G m'
        have bu : Sp (RL D) fun j => (m' : Int) * u j := (mem _).mpr ⟨g', by rw [hmz]; (conv => lhs; rw [hg']); grind⟩
        have gen : ∀ v, Sp (RL C) v → ∃ t : Int, Sp (RL D) fun j => v j - t * u j := fun v hv => by
          obtain ⟨t, ht⟩ := gd v hv
          refine ⟨t, (hD.span _).mp ⟨(Lat.sp (RL C)).sub hv (hu.mul t), ?_⟩⟩
          have e := dv_sub (n := n) (f := f) (u := v) (v := u) (a := 1) (b := t)
          simp only [Int.one_mul] at e
          rw [e, ht, eu]
          exact ⟨0, by rw [Int.mul_comm t g]; omega⟩
        refine ⟨?_, Idx.cyc (Lat.sp _) (Lat.sp _) (by omega) hu gen bu fun t ht => ?_⟩
        · have hs : EchR n cs (C.map (scL (m : Int))) := by
            refine ⟨by rw [List.length_map]; exact eC.len, eC.asc, eC.lt, fun i c r h1 h2 => ?_⟩
            rw [List.getElem?_map] at h2
            obtain ⟨q, hq, rfl⟩ := Option.map_eq_some_iff.mp h2
            obtain ⟨a1, a2, a3⟩ := eC.row i c q h1 hq
            refine ⟨by unfold scL; rw [List.length_map]; exact a1, fun j hj => by (rw [fv_scL]; show (m : Int) * fv q j = 0; rw [a2 j hj, Int.mul_zero]), by rw [fv_scL]; exact Int.mul_pos (by omega) a3⟩
          have c2 := eD.cols_sub hs fun r hr => by
            obtain ⟨q, hq, rfl⟩ := List.mem_map.mp hr
            rw [fv_scL]
            exact (hD.span _).mp ⟨(Sp.of ⟨q, hq, rfl⟩).mul _, by rw [dk]; exact Int.dvd_mul_right _ _⟩
          have := c2.1
          rw [List.length_map] at this
          omega
        · obtain ⟨z, hz⟩ := (mem t).mp ht
          have h2 : (m' : Int) ∣ t * g' := ⟨z, Int.eq_of_mul_eq_mul_left (a := (G : Int)) (by omega) (by rw [hmz] at hz; (conv at hz => lhs; rw [hg']); grind)⟩
          have h3 := Int.natAbs_dvd_natAbs.mpr h2
          rw [Int.natAbs_mul, Int.natAbs_natCast] at h3
          have c2 : Nat.Coprime m' g'.natAbs := cop
          exact Int.natAbs_dvd_natAbs.mp (by rw [Int.natAbs_natCast]; exact c2.dvd_of_dvd_mul_right h3)
      · exact absurd (if_neg hm) h1
end Hn

namespace Hn
/-! ### lattices by a frame and divisors: index, meets, joins, saturations -/
theorem Frm.swap {n : Nat} {U F : List (List Int)} (h : Frm n U F) : Frm n F U := ⟨h.fl, h.ul, h.fs, h.us, fun i j hi hj => by
  rw [dv_comm, h.du j i hj hi]
  by_cases e : j = i
  · rw [if_pos e, if_pos e.symm]
  · rw [if_neg e, if_neg (Ne.symm e)]⟩
theorem dv_sum {n m : Nat} {f : Vc} {y : Nat → Int} {T : Nat → Vc} : dv n f (fun j => sm m fun s => y s * T s j) = sm m fun s => y s * dv n f (T s) := by
  unfold dv
  have : sm n (fun i => f i * sm m fun s => y s * T s i) = sm n (fun i => sm m fun s => y s * (f i * T s i)) := sm_congr fun i _ => by
    rw [← sm_mul]
    exact sm_congr fun s _ => by grind
  rw [this, sm_swap]
  exact sm_congr fun s _ => sm_mul _ _ _
theorem Frm.zero {n : Nat} {U F : List (List Int)} (h : Frm n U F) {w : Vc} (h0 : ∀ j, n ≤ j → w j = 0) (hw : ∀ i, i < n → dv n (gt F i) w = 0) (j : Nat) : w j = 0 := by
  refine Classical.byContradiction fun hj => ?_
  have T : Nat → Vc := fun s => if s = n then w else gt U s
  obtain ⟨B, hB⟩ := supB (fun s e => if s = n then w e else gt U s e) (n + 1) n
  obtain ⟨y, ⟨i0, hi0, hy0⟩, _, ye⟩ := siegel (k := n + 1) (t := n) (M := B + 1) (by omega) (by omega) (fun e s => if s = n then w e else gt U s e) fun e s he hs => by have := hB s e hs he; omega
  have rel : ∀ e, e < n → (sm n fun s => y s * gt U s e) + y n * w e = 0 := fun e he => by
    have := ye e he
    rw [show sm (n + 1) (fun i => (if i = n then w e else gt U i e) * y i) = sm n (fun i => (if i = n then w e else gt U i e) * y i) + (if n = n then w e else gt U n e) * y n from rfl, if_pos rfl] at this
    rw [sm_congr (g := fun i => (if i = n then w e else gt U i e) * y i) fun s hs => by rw [if_neg (by omega), Int.mul_comm]]
    rw [Int.mul_comm (y n)]
    exact this
  have z : ∀ i, i < n → y i = 0 := fun i hi => by
    have e1 : dv n (gt F i) (fun e => (sm n fun s => y s * gt U s e) + y n * w e) = 0 := sm_zero fun e he => by
      show gt F i e * ((sm n fun s => y s * gt U s e) + y n * w e) = 0
      rw [rel e he, Int.mul_zero]
    have e2 : dv n (gt F i) (fun e => (sm n fun s => y s * gt U s e) + y n * w e) = (sm n fun s => y s * dv n (gt F i) (gt U s)) + y n * dv n (gt F i) w := by
      rw [← dv_sum]
      have := dv_comb (n := n) (f := gt F i) (u := w) (v := fun e => sm n fun s => y s * gt U s e) (k := y n)
      rw [show (fun e => (sm n fun s => y s * gt U s e) + y n * w e) = fun e => y n * w e + sm n fun s => y s * gt U s e from funext fun e => Int.add_comm _ _, this]
      omega
    rw [e2, hw i hi, sm_one hi (fun s hs hne => by rw [h.du i s hi hs, if_neg (Ne.symm hne), Int.mul_zero]), h.du i i hi hi, if_pos rfl] at e1
    omega
  have hjn : j < n := Classical.byContradiction fun hh => hj (h0 j (by omega))
  have := rel j hjn
  rw [sm_zero fun s hs => by rw [z s hs, Int.zero_mul], Int.zero_add] at this
  have yn : y n = 0 := (Int.mul_eq_zero.mp this).resolve_right hj
  by_cases e : i0 = n
  · exact hy0 (e ▸ yn)
  · exact hy0 (z i0 (by omega))
theorem gt_out {n : Nat} {U : List (List Int)} (hs : ∀ u ∈ U, smallR n u) {i j : Nat} (hj : n ≤ j) : gt U i j = 0 := by
  unfold gt
  by_cases hi : i < U.length
  · rw [List.getD_eq_getElem?_getD, List.getElem?_eq_getElem hi]
    exact fv_out (by have := (hs _ (List.getElem_mem hi)).1; show (U[i]).length ≤ j; omega)
  · rw [List.getD_eq_getElem?_getD, List.getElem?_eq_none (by omega)]
    exact fv_out (by simp)
theorem Frm.full {n : Nat} {U F : List (List Int)} (h : Frm n U F) {x : Vc} (h0 : ∀ j, n ≤ j → x j = 0) (j : Nat) : x j = sm n fun i => dv n (gt F i) x * gt U i j := by
  have hz := h.zero (w := fun j => x j - sm n fun i => dv n (gt F i) x * gt U i j) (fun j hj => by
    show x j - (sm n fun i => dv n (gt F i) x * gt U i j) = 0
    rw [h0 j hj, sm_zero fun i _ => by rw [gt_out h.us hj, Int.mul_zero]]; rfl) (fun i hi => by
    have e := dv_sub (n := n) (f := gt F i) (u := x) (v := fun j => sm n fun i => dv n (gt F i) x * gt U i j) (a := 1) (b := 1)
    simp only [Int.one_mul] at e
    rw [e, dv_sum, sm_one hi (fun s hs hne => by rw [h.du i s hi hs, if_neg (Ne.symm hne), Int.mul_zero]), h.du i i hi hi, if_pos rfl]
    omega) j
  have : x j - (sm n fun i => dv n (gt F i) x * gt U i j) = 0 := hz
  omega
/-- the lattice of the divisors e -/
def FP (n : Nat) (F : List (List Int)) (e : Nat → Int) (v : Vc) : Prop := (∀ j, n ≤ j → v j = 0) ∧ ∀ i, i < n → e i ∣ dv n (gt F i) v
theorem Frm.lat {n : Nat} {U F : List (List Int)} (h : Frm n U F) {ds : List Int} (hd : ds.length = n) (v : Vc) : Sp (RL (timesL ds U)) v ↔ FP n F (fun i => ds.getD i 0) v := by
  rw [lat_iff hd h.ul]
  constructor
  · rintro ⟨t, t1, t2⟩
    refine ⟨fun j hj => ?_, fun i hi => ?_⟩
    · rw [t2 j]; exact sm_zero fun i _ => by rw [gt_out h.us hj, Int.mul_zero]
    · rw [h.coord t2 hi]; exact t1 i hi
  · rintro ⟨h0, h1⟩
    exact ⟨fun i => dv n (gt F i) v, h1, h.full h0⟩
theorem Lat.fp (n : Nat) (F : List (List Int)) (e : Nat → Int) : Lat (FP n F e) := by
  refine ⟨⟨fun _ _ => rfl, fun i _ => ?_⟩, fun k u v hu hv => ⟨fun j hj => ?_, fun i hi => ?_⟩⟩
  · rw [show dv n (gt F i) (fun _ => 0) = 0 from sm_zero fun i _ => by simp]; exact Int.dvd_zero _
  · show k * u j + v j = 0
    rw [hu.1 j hj, hv.1 j hj]; omega
  · rw [dv_comb]
    exact Int.dvd_add (Int.dvd_mul_of_dvd_right (hu.2 i hi)) (hv.2 i hi)

theorem Frm.fpU {n : Nat} {U F : List (List Int)} (h : Frm n U F) {e : Nat → Int} {i : Nat} (hi : i < n) {k : Int} : FP n F e (fun j => k * gt U i j) ↔ e i ∣ k := by
  have dk : ∀ a, a < n → dv n (gt F a) (fun j => k * gt U i j) = if a = i then k else 0 := fun a ha => by
    have h2 := dv_comb (n := n) (f := gt F a) (u := gt U i) (v := fun _ => 0) (k := k)
    have z : dv n (gt F a) (fun _ => 0) = 0 := sm_zero fun i _ => by simp
    rw [z] at h2
    simp only [Int.add_zero] at h2
    rw [h2, h.du a i ha hi]
    by_cases e : a = i
    · rw [if_pos e, if_pos e, Int.mul_one]
    · rw [if_neg e, if_neg e, Int.mul_zero]
  constructor
  · intro hh
    have := hh.2 i hi
    rwa [dk i hi, if_pos rfl] at this
  · intro hd
    refine ⟨fun j hj => by (show k * gt U i j = 0; rw [gt_out h.us hj, Int.mul_zero]), fun a ha => ?_⟩
    rw [dk a ha]
    by_cases e' : a = i
    · rw [if_pos e', e']; exact hd
    · rw [if_neg e']; exact Int.dvd_zero _
theorem Frm.inside {n : Nat} {U F : List (List Int)} (h : Frm n U F) {d e : Nat → Int} : (∀ v, FP n F e v → FP n F d v) ↔ ∀ i, i < n → d i ∣ e i :=
  ⟨fun hh i hi => (h.fpU hi).mp (hh _ ((h.fpU hi).mpr (Int.dvd_refl _))), fun hd v hv => ⟨hv.1, fun i hi => Int.dvd_trans (hd i hi) (hv.2 i hi)⟩⟩
theorem fp_sub {n : Nat} {F C D : List (List Int)} {d e : Nat → Int} (hC : Hnf n (FP n F d) C) (hD : Hnf n (FP n F e) D) : (∀ r ∈ D, Sp (RL C) (fv r)) ↔ ∀ v, FP n F e v → FP n F d v :=
  ⟨fun h v hv => (hC.span v).mpr (((hD.span v).mp hv).trans fun u ⟨r, hr, e⟩ => e ▸ h r hr), fun h r hr => (hC.span _).mp (h _ ((hD.span _).mpr (.of ⟨r, hr, rfl⟩)))⟩
/-- the count of the classes, as the law computes it -/
def cP (ds es : List Int) : Nat → Int
  | 0 => 1
  | k + 1 => cP ds es k * (if 0 < ds.getD k 0 then es.getD k 0 / ds.getD k 0 else 1)
theorem Frm.idx1 {n : Nat} {U F : List (List Int)} (h : Frm n U F) {d e : Nat → Int} {k : Nat} (hk : k < n) {b : Nat} (hb : 1 ≤ b) (hd : 0 < d k) (he : e k = b * d k) (same : ∀ i, i < n → i ≠ k → e i = d i) : Idx (FP n F d) (FP n F e) b := by
  have mulk : ∀ t : Int, (fun j => t * (d k * gt U k j)) = fun j => (t * d k) * gt U k j := fun t => funext fun j => by grind
  refine Idx.cyc (u := fun j => d k * gt U k j) (Lat.fp n F d) (Lat.fp n F e) hb ((h.fpU hk).mpr (Int.dvd_refl _)) (fun v hv => ?_) ?_ fun t ht => ?_
  · obtain ⟨t, ht⟩ := hv.2 k hk
    refine ⟨t, fun j hj => ?_, fun i hi => ?_⟩
    · show v j - t * (d k * gt U k j) = 0
      rw [hv.1 j hj, gt_out h.us hj]; simp
    · have e1 := dv_sub (n := n) (f := gt F i) (u := v) (v := gt U k) (a := 1) (b := t * d k)
      simp only [Int.one_mul] at e1
      rw [show (fun j => v j - t * (d k * gt U k j)) = fun j => v j - t * d k * gt U k j from funext fun j => by grind, e1, h.du i k hi hk]
      by_cases ik : i = k
      · subst ik
        rw [if_pos rfl, ht]
        exact ⟨0, by grind⟩
      · rw [if_neg ik, same i hi ik, Int.mul_zero, Int.sub_zero]
        exact hv.2 i hi
  · rw [mulk]
    exact (h.fpU hk).mpr ⟨1, by rw [he]; omega⟩
  · rw [mulk] at ht
    obtain ⟨z, hz⟩ := (h.fpU hk).mp ht
    rw [he] at hz
    exact ⟨z, Int.eq_of_mul_eq_mul_right (a := d k) (by omega) (by rw [hz]; grind)⟩
theorem Frm.idx {n : Nat} {U F : List (List Int)} (h : Frm n U F) {ds es : List Int} (d0 : ∀ i, i < n → 0 ≤ ds.getD i 0) (e0 : ∀ i, i < n → 0 ≤ es.getD i 0) (dvd : ∀ i, i < n → ds.getD i 0 ∣ es.getD i 0) (pos : ∀ i, i < n → 0 < ds.getD i 0 → 0 < es.getD i 0) :
    ∀ k, k ≤ n → ∃ N : Nat, 1 ≤ N ∧ cP ds es k = N ∧ Idx (FP n F fun i => ds.getD i 0) (FP n F fun i => if i < k then es.getD i 0 else ds.getD i 0) N
  | 0, _ => ⟨1, Nat.le_refl _, rfl, (Idx.self (Lat.fp n F _)).congr (fun _ => Iff.rfl) fun v => by simp⟩
  | k + 1, hk => by
    obtain ⟨N, n1, hc, hi⟩ := Frm.idx h d0 e0 dvd pos k (by omega)
    have sub1 : ∀ v, FP n F (fun i => if i < k then es.getD i 0 else ds.getD i 0) v → FP n F (fun i => ds.getD i 0) v := h.inside.mpr fun i hi => by
      by_cases hik : i < k
      · rw [if_pos hik]; exact dvd i hi
      · rw [if_neg hik]; exact Int.dvd_refl _
    have sub2 : ∀ v, FP n F (fun i => if i < k + 1 then es.getD i 0 else ds.getD i 0) v → FP n F (fun i => if i < k then es.getD i 0 else ds.getD i 0) v := h.inside.mpr fun i hi => by
      by_cases hik : i < k
      · rw [if_pos hik, if_pos (by omega)]; exact Int.dvd_refl _
      · rw [if_neg hik]
        by_cases hik2 : i < k + 1
        · rw [if_pos hik2]; exact dvd i hi
        · rw [if_neg hik2]; exact Int.dvd_refl _
    by_cases hd : 0 < ds.getD k 0
    · obtain ⟨q, hq⟩ := dvd k (by omega)
      have ep := pos k (by omega) hd
      have qp : 0 < q := by
        rw [hq] at ep
        exact Int.pos_of_mul_pos_right ep hd
      obtain ⟨b, hb⟩ : ∃ b : Nat, q = (b : Int) := ⟨q.toNat, by omega⟩
      have i1 := h.idx1 (d := fun i => if i < k then es.getD i 0 else ds.getD i 0) (e := fun i => if i < k + 1 then es.getD i 0 else ds.getD i 0) (k := k) (by omega) (b := b) (by omega) (by (show 0 < if k < k then _ else _); rw [if_neg (by omega)]; exact hd) (by
        show (if k < k + 1 then es.getD k 0 else ds.getD k 0) = b * if k < k then es.getD k 0 else ds.getD k 0
        rw [if_pos (by omega), if_neg (by omega), hq, hb, Int.mul_comm]) fun i hi ne => by
        show (if i < k + 1 then es.getD i 0 else ds.getD i 0) = if i < k then es.getD i 0 else ds.getD i 0
        by_cases hik : i < k
        · rw [if_pos hik, if_pos (by omega)]
        · rw [if_neg hik, if_neg (by omega)]
      refine ⟨N * b, Nat.mul_pos n1 (by omega), ?_, Idx.mul (Lat.fp n F _) (Lat.fp n F _) sub1 sub2 hi i1⟩
      show cP ds es k * (if 0 < ds.getD k 0 then es.getD k 0 / ds.getD k 0 else 1) = _
      rw [if_pos hd, hc, hq, Int.mul_ediv_cancel_left _ (by omega), hb, Int.natCast_mul]
    · have dz : ds.getD k 0 = 0 := by have := d0 k (by omega); omega
      have ez : es.getD k 0 = 0 := by have := dvd k (by omega); rw [dz] at this; exact Int.zero_dvd.mp this
      refine ⟨N, n1, ?_, hi.congr (fun _ => Iff.rfl) fun v => ⟨fun hv => ⟨hv.1, fun i hi' => ?_⟩, sub2 v⟩⟩
      · show cP ds es k * (if 0 < ds.getD k 0 then es.getD k 0 / ds.getD k 0 else 1) = _
        rw [if_neg hd, hc, Int.mul_one]
      · have := hv.2 i hi'
        by_cases hik : i = k
        · subst hik
          show (if i < i + 1 then es.getD i 0 else ds.getD i 0) ∣ _
          rw [if_pos (by omega), ez]
          dsimp only at this
          rwa [if_neg (by omega), dz] at this
        · dsimp only at this ⊢
          by_cases h1 : i < k
          · rw [if_pos (by omega)]; rwa [if_pos h1] at this
          · rw [if_neg (by omega)]; rwa [if_neg h1] at this
theorem cols_times {n : Nat} {cs ds : List Nat} {C D : List (List Int)} (eC : EchR n cs C) (eD : EchR n ds D) {m : Int} (hm : 0 < m) (h : ∀ v, Sp (RL C) v → Sp (RL D) fun j => m * v j) : C.length ≤ D.length := by
  have hs : EchR n cs (C.map (scL m)) := by
    refine ⟨by rw [List.length_map]; exact eC.len, eC.asc, eC.lt, fun i c r h1 h2 => ?_⟩
    rw [List.getElem?_map] at h2
    obtain ⟨q, hq, rfl⟩ := Option.map_eq_some_iff.mp h2
    obtain ⟨a1, a2, a3⟩ := eC.row i c q h1 hq
    refine ⟨by unfold scL; rw [List.length_map]; exact a1, fun j hj => by (rw [fv_scL]; show m * fv q j = 0; rw [a2 j hj, Int.mul_zero]), by rw [fv_scL]; exact Int.mul_pos hm a3⟩
  have c2 := eD.cols_sub hs fun r hr => by
    obtain ⟨q, hq, rfl⟩ := List.mem_map.mp hr
    rw [fv_scL]
    exact h _ (.of ⟨q, hq, rfl⟩)
  have := c2.1
  rwa [List.length_map] at this
theorem cP_zero {ds es : List Int} : ∀ {k i : Nat}, i < k → 0 < ds.getD i 0 → es.getD i 0 = 0 → cP ds es k = 0
  | k + 1, i, hi, h1, h2 => by
    show cP ds es k * (if 0 < ds.getD k 0 then es.getD k 0 / ds.getD k 0 else 1) = 0
    by_cases e : i = k
    · subst e
      rw [if_pos h1, h2]; simp
    · rw [cP_zero (by omega) h1 h2, Int.zero_mul]
theorem Frm.count {n : Nat} {U F C D : List (List Int)} (h : Frm n U F) {ds es : List Int} {L : Int} (hL : 0 < L) (d0 : ∀ i, i < n → 0 ≤ ds.getD i 0) (e0 : ∀ i, i < n → okM L (es.getD i 0)) (dvd : ∀ i, i < n → ds.getD i 0 ∣ es.getD i 0)
    (hC : Hnf n (FP n F fun i => ds.getD i 0) C) (hD : Hnf n (FP n F fun i => es.getD i 0) D) {N : Nat} (hN : Cnt C D N) : cP ds es n = N := by
  obtain ⟨cs, eC⟩ := hC.ech
  obtain ⟨cd, eD⟩ := hD.ech
  have sub := (fp_sub hC hD).mpr (h.inside.mpr dvd)
  have cb := eC.cols_sub eD sub
  by_cases pos : ∀ i, i < n → 0 < ds.getD i 0 → 0 < es.getD i 0
  · obtain ⟨K, k1, hk, hi⟩ := h.idx d0 (fun i hi => (e0 i hi).1) dvd pos n (Nat.le_refl _)
    have hl : C.length ≤ D.length := cols_times eC eD hL fun v hv => (hD.span _).mp (by
      have hv' := (hC.span v).mpr hv
      refine ⟨fun j hj => by (show L * v j = 0; rw [hv'.1 j hj, Int.mul_zero]), fun i hi => ?_⟩
      have h2 := dv_comb (n := n) (f := gt F i) (u := v) (v := fun _ => 0) (k := L)
      have z : dv n (gt F i) (fun _ => 0) = 0 := sm_zero fun i _ => by simp
      rw [z] at h2
      simp only [Int.add_zero] at h2
      show es.getD i 0 ∣ _
      rw [h2]
      rcases (e0 i hi).2 with e | e
      · have : ds.getD i 0 = 0 := by
          apply Classical.byContradiction
          intro hne
          have := pos i hi (by have := d0 i hi; omega)
          omega
        have hz := hv'.2 i hi
        dsimp only at hz
        rw [this] at hz
        rw [Int.zero_dvd.mp hz, Int.mul_zero]; exact Int.dvd_zero _
      · exact Int.dvd_trans e (Int.dvd_mul_right _ _))
    have el : D.length = C.length := by omega
    have hi2 : Idx (Sp (RL C)) (Sp (RL D)) K := hi.congr (fun v => hC.span v) fun v => by
      rw [← hD.span]
      constructor
      · exact fun hv => ⟨hv.1, fun i hi => by have := hv.2 i hi; dsimp only at this; rwa [if_pos hi] at this⟩
      · exact fun hv => ⟨hv.1, fun i hi => by have := hv.2 i hi; (show (if i < n then es.getD i 0 else ds.getD i 0) ∣ _); rwa [if_pos hi]⟩
    rw [hk]
    have := (hN.2 el).2.uniq (Lat.sp _) hi2
    omega
  · obtain ⟨i, hi⟩ := Classical.not_forall.mp pos
    have hi1 : i < n := Classical.byContradiction fun hh => hi fun a => absurd a hh
    have hi2 : 0 < ds.getD i 0 := Classical.byContradiction fun hh => hi fun _ a => absurd a hh
    have hi3 : es.getD i 0 = 0 := by
      have := (e0 i hi1).1
      apply Classical.byContradiction
      intro hh
      exact hi fun _ _ => by omega
    have lt : D.length < C.length := by
      refine Nat.lt_of_le_of_ne cb.1 fun el => ?_
      have ed := cb.2 el
      subst ed
      obtain ⟨K, k1, _, _, ht⟩ := Idx.piv eC eD sub
      have := (hD.span _).mpr (ht _ ((hC.span _).mp ((h.fpU (e := fun i => ds.getD i 0) hi1).mpr (Int.dvd_refl (ds.getD i 0)))))
      rw [show (fun j => (K : Int) * (ds.getD i 0 * gt U i j)) = fun j => (K * ds.getD i 0) * gt U i j from funext fun j => by grind] at this
      have := (h.fpU hi1).mp this
      rw [hi3] at this
      have := Int.zero_dvd.mp this
      rcases Int.mul_eq_zero.mp this with h | h <;> omega
    rw [cP_zero hi1 hi2 hi3, hN.1 lt]; rfl
end Hn

namespace Hn
/-! ### by a frame: meets, joins, what is around -/
def lcmI (a b : Int) : Int := (a * b) / (max 1 (Int.gcd a b : Int))
theorem lcm_iff {a b : Int} (ha : 0 ≤ a) (hb : 0 ≤ b) (x : Int) : (a ∣ x ∧ b ∣ x) ↔ lcmI a b ∣ x := by
  unfold lcmI
  by_cases h0 : Int.gcd a b = 0
  · obtain ⟨rfl, rfl⟩ := Int.gcd_eq_zero_iff.mp h0
    simp
  · have hp : 0 < Int.gcd a b := by omega
    rw [show max 1 ((Int.gcd a b : Nat) : Int) = (Int.gcd a b : Int) by omega]
    obtain ⟨p, hp1⟩ := Int.gcd_dvd_left (a := a) (b := b)
    obtain ⟨q, hq1⟩ := Int.gcd_dvd_right (a := a) (b := b)
    have cop : Int.gcd p q = 1 := by
      have : Int.gcd ((Int.gcd a b : Int) * p) ((Int.gcd a b : Int) * q) = Int.gcd a b * Int.gcd p q := by rw [Int.gcd_mul_left]; rfl
      rw [← hp1, ← hq1] at this
      exact Nat.eq_of_mul_eq_mul_left hp (by rw [← this, Nat.mul_one])
    generalize hg : Int.gcd a b = g at *
    have e : a * b / (g : Int) = g * p * q := by
      rw [hp1, hq1, show (g : Int) * p * (g * q) = g * (g * p * q) by grind, Int.mul_ediv_cancel_left _ (by omega)]
    rw [e]
    constructor
    · rintro ⟨⟨s, hs⟩, ⟨t, ht⟩⟩
      have h1 : p * s = q * t := by
        have : (g : Int) * (p * s) = g * (q * t) := by rw [← Int.mul_assoc, ← hp1, ← Int.mul_assoc, ← hq1, ← hs, ← ht]
        exact Int.eq_of_mul_eq_mul_left (by omega) this
      have h2 : q ∣ s := by
        have h3 : q.natAbs ∣ (p * s).natAbs := Int.natAbs_dvd_natAbs.mpr ⟨t, h1⟩
        rw [Int.natAbs_mul] at h3
        have c2 : Nat.Coprime q.natAbs p.natAbs := Nat.Coprime.symm cop
        exact Int.natAbs_dvd_natAbs.mp (c2.dvd_of_dvd_mul_left h3)
      obtain ⟨r, hr⟩ := h2
      exact ⟨r, by rw [hs, hp1, hr]; grind⟩
    · rintro ⟨r, hr⟩
      exact ⟨⟨q * r, by rw [hr]; (conv => rhs; rw [hp1]); grind⟩, ⟨p * r, by rw [hr]; (conv => rhs; rw [hq1]); grind⟩⟩
theorem gcd_comb (a b : Int) : ∃ x y : Int, x * a + y * b = (Int.gcd a b : Int) := by
  obtain ⟨x, y, d1, d2⟩ := bez a b
  have h1 : (x * a + y * b) ∣ (Int.gcd a b : Int) := Int.dvd_coe_gcd d1 d2
  have h2 : (Int.gcd a b : Int) ∣ x * a + y * b := Int.dvd_add (Int.dvd_mul_of_dvd_right (Int.gcd_dvd_left ..)) (Int.dvd_mul_of_dvd_right (Int.gcd_dvd_right ..))
  have := Int.natAbs_eq_of_dvd_dvd h1 h2
  rcases (by omega : x * a + y * b = (Int.gcd a b : Int) ∨ x * a + y * b = -(Int.gcd a b : Int)) with e | e
  · exact ⟨x, y, e⟩
  · exact ⟨-x, -y, by rw [Int.neg_mul, Int.neg_mul]; omega⟩
theorem fp_congr {n : Nat} {F : List (List Int)} {d e : Nat → Int} (h : ∀ i x, i < n → (d i ∣ x ↔ e i ∣ x)) (v : Vc) : FP n F d v ↔ FP n F e v :=
  ⟨fun a => ⟨a.1, fun i hi => (h i _ hi).mp (a.2 i hi)⟩, fun a => ⟨a.1, fun i hi => (h i _ hi).mpr (a.2 i hi)⟩⟩
theorem fp_meet {n : Nat} {F : List (List Int)} {d e : Nat → Int} (d0 : ∀ i, i < n → 0 ≤ d i) (e0 : ∀ i, i < n → 0 ≤ e i) (v : Vc) : (FP n F d v ∧ FP n F e v) ↔ FP n F (fun i => lcmI (d i) (e i)) v :=
  ⟨fun ⟨a, b⟩ => ⟨a.1, fun i hi => (lcm_iff (d0 i hi) (e0 i hi) _).mp ⟨a.2 i hi, b.2 i hi⟩⟩, fun a => ⟨⟨a.1, fun i hi => ((lcm_iff (d0 i hi) (e0 i hi) _).mpr (a.2 i hi)).1⟩, a.1, fun i hi => ((lcm_iff (d0 i hi) (e0 i hi) _).mpr (a.2 i hi)).2⟩⟩
theorem Frm.join {n : Nat} {U F C D : List (List Int)} (h : Frm n U F) {d e : Nat → Int} (hC : Hnf n (FP n F d) C) (hD : Hnf n (FP n F e) D) (v : Vc) : Sp (RL (C ++ D)) v ↔ FP n F (fun i => (Int.gcd (d i) (e i) : Int)) v := by
  have l := Lat.fp n F (fun i => (Int.gcd (d i) (e i) : Int))
  constructor
  · intro hv
    induction hv with
    | zero => exact l.z
    | @add u w k hu _ ih =>
      refine l.c k u w ?_ ih
      obtain ⟨r, hr, rfl⟩ := hu
      rcases List.mem_append.mp hr with hr | hr
      · have := (hC.span _).mpr (.of ⟨r, hr, rfl⟩)
        exact ⟨this.1, fun i hi => Int.dvd_trans (Int.gcd_dvd_left ..) (this.2 i hi)⟩
      · have := (hD.span _).mpr (.of ⟨r, hr, rfl⟩)
        exact ⟨this.1, fun i hi => Int.dvd_trans (Int.gcd_dvd_right ..) (this.2 i hi)⟩
  · intro hv
    have hg : ∀ i, i < n → Sp (RL (C ++ D)) (fun j => dv n (gt F i) v * gt U i j) := fun i hi => by
      obtain ⟨z, hz⟩ := hv.2 i hi
      obtain ⟨x, y, exy⟩ := gcd_comb (d i) (e i)
      have h1 : Sp (RL (C ++ D)) (fun j => d i * gt U i j) := ((hC.span _).mp ((h.fpU hi).mpr (Int.dvd_refl _))).mono fun u ⟨r, hr, e⟩ => ⟨r, List.mem_append.mpr (.inl hr), e⟩
      have h2 : Sp (RL (C ++ D)) (fun j => e i * gt U i j) := ((hD.span _).mp ((h.fpU hi).mpr (Int.dvd_refl _))).mono fun u ⟨r, hr, e⟩ => ⟨r, List.mem_append.mpr (.inr hr), e⟩
      refine ((h1.mul (z * x)).plus (h2.mul (z * y))).cast fun j => ?_
      dsimp only at hz
      rw [hz, ← exy]; grind
    have := (Lat.sp (RL (C ++ D))).sum (T := fun i j => dv n (gt F i) v * gt U i j) (fun _ => 1) (m := n) hg
    exact this.cast fun j => by
      rw [h.full hv.1 j]
      exact sm_congr fun i _ => Int.one_mul _
/-- what vanishes on the lattice, by the other half of the frame -/
theorem Frm.van {n : Nat} {U F C : List (List Int)} (h : Frm n U F) {d : Nat → Int} (hC : Hnf n (FP n F d) C) (x : Vc) : VanP n C x ↔ FP n U (fun i => if d i = 0 then 1 else 0) x := by
  have key : VanP n C x ↔ (∀ j, n ≤ j → x j = 0) ∧ ∀ v, FP n F d v → dv n v x = 0 := by
    constructor
    · rintro ⟨a, b⟩
      refine ⟨a, fun v hv => ?_⟩
      have hs := (hC.span v).mp hv
      clear hv
      induction hs with
      | zero => exact sm_zero fun i _ => by simp
      | @add u w k hu _ ih =>
        obtain ⟨r, hr, rfl⟩ := hu
        rw [dv_addl, ih, b r hr]; simp
    · rintro ⟨a, b⟩
      exact ⟨a, fun r hr => b _ ((hC.span _).mpr (.of ⟨r, hr, rfl⟩))⟩
  rw [key]
  constructor
  · rintro ⟨a, b⟩
    refine ⟨a, fun i hi => ?_⟩
    show (if d i = 0 then (1 : Int) else 0) ∣ _
    by_cases e : d i = 0
    · rw [if_pos e]; exact Int.one_dvd _
    · rw [if_neg e]
      have := b _ ((h.fpU hi).mpr (Int.dvd_refl (d i)))
      have h2 := dv_addl (n := n) (f := x) (u := gt U i) (v := fun _ => 0) (k := d i)
      have z : dv n (fun _ => 0) x = 0 := sm_zero fun i _ => by simp
      rw [z] at h2
      simp only [Int.add_zero] at h2
      rw [h2] at this
      rw [(Int.mul_eq_zero.mp this).resolve_left e]; exact Int.dvd_refl _
  · rintro ⟨a, b⟩
    refine ⟨a, fun v hv => ?_⟩
    have e1 : dv n v x = dv n (fun j => sm n fun i => dv n (gt F i) v * gt U i j) x := by
      congr 1
      exact funext fun j => h.full hv.1 j
    rw [e1, dv_comm, dv_sum]
    refine sm_zero fun i hi => ?_
    have hb := b i hi
    dsimp only at hb
    by_cases e : d i = 0
    · have := hv.2 i hi
      rw [e] at this
      rw [Int.zero_dvd.mp this, Int.zero_mul]
    · rw [if_neg e] at hb
      rw [dv_comm (f := x), Int.zero_dvd.mp hb, Int.mul_zero]
theorem Frm.sat {n : Nat} {U F C : List (List Int)} (h : Frm n U F) {d : Nat → Int} (hC : Hnf n (FP n F d) C) (v : Vc) : SatP n C v ↔ FP n F (fun i => if d i = 0 then 0 else 1) v := by
  constructor
  · rintro ⟨a, b⟩
    refine ⟨a, fun i hi => ?_⟩
    show (if d i = 0 then (0 : Int) else 1) ∣ _
    by_cases e : d i = 0
    · rw [if_pos e]
      have hx : VanP n C (gt F i) := (h.van hC _).mpr ⟨fun j hj => gt_out h.fs hj, fun k hk => by
        show (if d k = 0 then (1 : Int) else 0) ∣ _
        by_cases e2 : d k = 0
        · rw [if_pos e2]; exact Int.one_dvd _
        · rw [if_neg e2, dv_comm, h.du i k hi hk, if_neg (fun e3 : i = k => e2 (by rw [← e3]; exact e))]; exact Int.dvd_refl _⟩
      rw [b _ hx]; exact Int.dvd_refl _
    · rw [if_neg e]; exact Int.one_dvd _
  · rintro ⟨a, b⟩
    refine ⟨a, fun x hx => ?_⟩
    have hx' := (h.van hC x).mp hx
    have e1 : dv n x v = dv n x (fun j => sm n fun i => dv n (gt F i) v * gt U i j) := by
      congr 1
      exact funext fun j => h.full a j
    rw [e1, dv_sum]
    refine sm_zero fun i hi => ?_
    have hb := b i hi
    have hc := hx'.2 i hi
    dsimp only at hb hc
    by_cases e : d i = 0
    · rw [if_pos e] at hb
      rw [Int.zero_dvd.mp hb, Int.zero_mul]
    · rw [if_neg e] at hc
      rw [dv_comm (f := x), Int.zero_dvd.mp hc, Int.mul_zero]
/-- the vectors of the frame with a divisor that is not 0 -/
def thereL : List Int → List (List Int) → List (List Int)
  | d :: ds, u :: us => if 0 < d then u :: thereL ds us else thereL ds us
  | _, _ => []
theorem there_snoc {d : Int} {u : List Int} : ∀ {ds : List Int} {us : List (List Int)}, ds.length = us.length → thereL (ds ++ [d]) (us ++ [u]) = thereL ds us ++ (if 0 < d then [u] else [])
  | [], [], _ => by simp [thereL]
  | [], _ :: _, h => by simp at h
  | _ :: _, [], h => by simp at h
  | c :: ds, v :: us, h => by
    have ih := there_snoc (d := d) (u := u) (ds := ds) (us := us) (by simpa using h)
    show (if 0 < c then v :: thereL (ds ++ [d]) (us ++ [u]) else thereL (ds ++ [d]) (us ++ [u])) = (if 0 < c then v :: thereL ds us else thereL ds us) ++ _
    rw [ih]
    by_cases hc : 0 < c
    · rw [if_pos hc, if_pos hc]; rfl
    · rw [if_neg hc, if_neg hc]
theorem there_times {n : Nat} : ∀ {ds : List Int} {us : List (List Int)}, thereL ds us = timesL (ds.map fun d => if 0 < d then 1 else 0) us
  | [], us => by cases us <;> rfl
  | d :: ds, [] => rfl
  | d :: ds, u :: us => by
    have ih := there_times (n := n) (ds := ds) (us := us)
    show (if 0 < d then u :: thereL ds us else thereL ds us) = if (if 0 < d then (1 : Int) else 0) = 0 then timesL (ds.map fun d => if 0 < d then 1 else 0) us else (u.map fun e => (if 0 < d then (1 : Int) else 0) * e) :: timesL (ds.map fun d => if 0 < d then 1 else 0) us
    rw [ih]
    by_cases h : 0 < d
    · rw [if_pos h, if_pos h, if_neg (by decide)]
      congr 1
      rw [List.map_congr_left (g := id) fun e _ => Int.one_mul e, List.map_id]
    · rw [if_neg h, if_neg h, if_pos rfl]
theorem there_len {ds : List Int} : ∀ {us : List (List Int)}, (thereL ds us).length ≤ us.length := by
  induction ds with
  | nil => intro us; cases us <;> simp [thereL]
  | cons d ds ih =>
    intro us
    cases us with
    | nil => simp [thereL]
    | cons u us =>
      have := ih (us := us)
      show (if 0 < d then u :: thereL ds us else thereL ds us).length ≤ _
      split <;> simp <;> omega
theorem there_mem {ds : List Int} {r : List Int} : ∀ {us : List (List Int)}, r ∈ thereL ds us → r ∈ us := by
  induction ds with
  | nil => intro us h; cases us <;> simp [thereL] at h
  | cons d ds ih =>
    intro us h
    cases us with
    | nil => simp [thereL] at h
    | cons u us =>
      have h : r ∈ (if 0 < d then u :: thereL ds us else thereL ds us) := h
      split at h
      · rcases List.mem_cons.mp h with h | h
        · exact h ▸ .head _
        · exact .tail _ (ih h)
      · exact .tail _ (ih h)
theorem Frm.there {n : Nat} {U F : List (List Int)} (h : Frm n U F) {ds : List Int} (hd : ds.length = n) (d0 : ∀ i, i < n → 0 ≤ ds.getD i 0) (v : Vc) : Sp (RL (thereL ds U)) v ↔ FP n F (fun i => if ds.getD i 0 = 0 then 0 else 1) v := by
  rw [there_times (n := n), h.lat (by rw [List.length_map]; exact hd)]
  refine fp_congr (fun i x hi => ?_) v
  have e : (ds.map fun d => if 0 < d then (1 : Int) else 0).getD i 0 = if ds.getD i 0 = 0 then 0 else 1 := by
    have hi' : i < ds.length := by omega
    have hz := d0 i hi
    rw [List.getD_eq_getElem?_getD, List.getD_eq_getElem?_getD, List.getElem?_eq_getElem hi'] at *
    rw [List.getElem?_map, List.getElem?_eq_getElem hi']
    show (if 0 < ds[i] then (1 : Int) else 0) = if ds[i] = 0 then 0 else 1
    have hz : 0 ≤ ds[i] := hz
    by_cases e : ds[i] = 0
    · rw [if_pos e, if_neg (by omega)]
    · rw [if_neg e, if_pos (by omega)]
  rw [e]
end Hn

set_option maxHeartbeats 4000000
namespace Hg
open PySem PySem.Spec PyProof.Rows L2
/-! ### what the laws of Knowledge have of their own -/
def sp_k_gcd (K : PySem.W.Frag) : Sp := fun vs H Q _ => ∃ (k : Bool) (a : Addr) (ns : List Int), vs = [.ref a] ∧ SqK K k H a (ns.map V.int) ∧ ns.length ≤ 1000 ∧ ∀ H', Ex H H' → Q (.int (gfold ns)) H'
def sp_k_plus (K : PySem.W.Frag) : Sp := fun vs H Q _ => ∃ (a b : Addr) (q : Int) (xs ys : List Int), vs = [.ref a, .int q, .ref b] ∧ H a = some (.tup (iV xs)) ∧ H b = some (.tup (iV ys)) ∧ xs.length = ys.length ∧ xs.length ≤ 1000 ∧ bg q ∧ (∀ y ∈ ys, bg y) ∧
  ∀ (H' : Hp) (p : Addr), Ex H H' → H p = none → H' p = some (.tup (iV (Hn.plusL q ys xs))) → Q (.ref p) H'
def sp_k_divides (_ : PySem.W.Frag) : Sp := fun vs H Q _ => ∃ a b : Int, vs = [.int a, .int b] ∧ Q (.bl (decide (a ∣ b))) H
def sp_k_modulus (_ : PySem.W.Frag) : Sp := fun vs H Q _ => ∃ (s q : Addr) (B : Nat) (G : Hp), vs = [.ref s] ∧ Ov s q B G H ∧ B < 900000 ∧ ∀ (m : Nat) (H' : Hp), m ≤ 1000000 → Ov s q (B + 4) G H' → Q (.int (m : Nat)) H'
def sp_k_form (_ : PySem.W.Frag) : Sp := fun vs H Q _ => ∃ (s q : Addr) (B n : Nat) (G : Hp), vs = [.ref s, .int (n : Nat)] ∧ n ≤ 12 ∧ Ov s q B G H ∧ B < 900000 ∧
  ∀ (p : Addr) (f : List Int) (G' H' : Hp), Ex G G' → G p = none → Ov s q (B + 20) G' H' → G' p = some (.tup (iV f)) → f.length = n → Hn.bnd 99 (Hn.fv f) → Q (.ref p) H'
def sp_k_multiple (_ : PySem.W.Frag) : Sp := fun vs H Q _ => ∃ a b : Int, vs = [.int a, .int b] ∧ 0 ≤ a ∧ 0 ≤ b ∧ a.natAbs < 2 ^ 8000 ∧ bg b ∧ ∀ H', Ex H H' → Q (.int (Hn.lcmI a b)) H'
theorem lcm_div {a b : Int} (ha : a ≠ 0) : (a.fdiv ((Int.gcd a b : Nat) : Int)) * b = Hn.lcmI a b := by
  have hg : 0 < Int.gcd a b := Int.gcd_pos_of_ne_zero_left _ ha
  unfold Hn.lcmI
  have e : max 1 ((Int.gcd a b : Nat) : Int) = ((Int.gcd a b : Nat) : Int) := by omega
  rw [e, Int.fdiv_eq_ediv_of_nonneg _ (by omega)]
  exact (Int.mul_ediv_assoc' b (Int.gcd_dvd_left (a := a) (b := b))).symm
end Hg

set_option maxHeartbeats 4000000
namespace Hg
open PySem PySem.Spec PyProof.Rows L2
def sp_k_uni (_ : PySem.W.Frag) : Sp := fun vs H Q _ => ∃ (s q : Addr) (B n mo : Nat) (G : Hp), vs = [.ref s, .int (n : Nat), .int (mo : Nat)] ∧ 1 ≤ n ∧ n ≤ 12 ∧ mo ≤ 99 ∧ Ov s q B G H ∧ B < 700000 ∧
  ∀ (p va fa : Addr) (as fs : List Addr) (U F : List (List Int)) (G' H' : Hp), Ex G G' → Ov s q (B + 120) G' H' → G' p = some (.lst [.ref va, .ref fa]) → va ≠ fa → G' va = some (.lst (as.map V.ref)) → RowsIn G' as U → G' fa = some (.lst (fs.map V.ref)) → RowsIn G' fs F → Hn.Frm n U F → Q (.ref p) H'
/-- the lattice law's list, weak: what is told, not that the rows are just what it tells -/
def sp_k_lattice (_ : PySem.W.Frag) : Sp := fun vs H Q _ => ∃ (s q : Addr) (B n : Nat) (G : Hp), vs = [.ref s, .int (n : Nat)] ∧ 1 ≤ n ∧ n ≤ 5 ∧ Ov s q B G H ∧ B < 600000 ∧
  ∀ (p ba ta : Addr) (as : List Addr) (T : List (List Int × Nat)) (G' H' : Hp), Ex G G' → Ov s q (B + 400) G' H' → G' p = some (.lst [.ref ba, .ref ta]) → G' ta = some (.lst (as.map V.ref)) → PairsIn G' as T → T.length ≤ 10 → (∀ p ∈ T, okP n p ∧ p.2 ≤ 1000000) → Q (.ref p) H'
def sp_k_told (_ : PySem.W.Frag) : Sp := fun vs H Q _ => ∃ (s q : Addr) (B n : Nat) (G : Hp), vs = [.ref s, .int (n : Nat)] ∧ 1 ≤ n ∧ n ≤ 5 ∧ Ov s q B G H ∧ B < 500000 ∧
  ∀ (ta : Addr) (as : List Addr) (T : List (List Int × Nat)) (G' H' : Hp), Ex G G' → Ov s q (B + 500) G' H' → G' ta = some (.lst (as.map V.ref)) → PairsIn G' as T → T.length ≤ 10 → (∀ p ∈ T, okP n p ∧ p.2 ≤ 1000000) → Q (.ref ta) H'
end Hg
namespace Hg
open PySem PySem.Spec PyProof.Rows L2
abbrev dPair (p : List Int × Nat) : PyData := .tuple [.tuple (p.1.map PyData.int), .int (p.2 : Nat)]
theorem dp_pairs {K : PySem.W.Frag} {H : Hp} : ∀ (as : List Addr) (T : List (List Int × Nat)), PairsIn H as T → DpAll K H (as.map V.ref) (T.map dPair)
  | [], [], _ => .nil
  | [], _ :: _, h => by have := h.1; simp at this
  | _ :: _, [], h => by have := h.1; simp at this
  | a :: as, p :: T, h => by
    obtain ⟨fa, h1, h2⟩ := h.2 0 a p rfl rfl
    refine .cons (.tup (SqT.of h1) (.cons (dp_t (SqT.of h2)) (.cons (.int _) .nil))) (dp_pairs as T ⟨by have := h.1; simpa using this, fun i b q h3 h4 => h.2 (i + 1) b q h3 h4⟩)
theorem pairs_lay : ∀ T : List (List Int × Nat), PyData.canLayAll0 (T.map dPair) = true
  | [] => rfl
  | p :: T => by simp [PyData.canLayAll0, PyData.canLay0, lay_ints, pairs_lay T]
theorem pairs_depth : ∀ T : List (List Int × Nat), PyData.depthAll (T.map dPair) ≤ 10
  | [] => by simp [PyData.depthAll]
  | p :: T => by
    have h1 := pairs_depth T
    have h2 := depth_ints p.1
    simp only [List.map_cons, PyData.depthAll, PyData.depth, dPair]
    omega
theorem shaped_pairs (T : List (List Int × Nat)) : SeqAt.shaped (.list (T.map dPair)) = true := by
  have := pairs_depth T
  simp [SeqAt.shaped, PyData.canLay0, PyData.depth, pairs_lay]
  omega
theorem eqv_pairs (T : List (List Int × Nat)) : PyData.eqv (.list (T.map dPair)) (.list []) = decide (T = []) := by
  rw [PyData.eqv]
  cases T <;> simp [PyData.eqvAll]
theorem ne_pairs {K : PySem.W.Frag} {H : Hp} {p q : Addr} {as : List Addr} {T : List (List Int × Nat)} {Q : VK} (hp : H p = some (.lst (as.map V.ref))) (ha : PairsIn H as T) (hq : H q = some (.lst [])) (k : Q (.bl (!decide (T = []))) H) : rNeA K (.ref p) (.ref q) H Q :=
  .inr ⟨_, _, .lst (SqL.of hp) (dp_pairs as T ha), .lst (SqL.of hq) .nil, shaped_pairs _, shaped_pairs [], by rw [eqv_pairs]; exact k⟩
theorem PairsIn.erase {H : Hp} {as : List Addr} {T : List (List Int × Nat)} (h : PairsIn H as T) (k : Nat) : PairsIn H (as.eraseIdx k) (T.eraseIdx k) := by
  refine ⟨by rw [List.length_eraseIdx, List.length_eraseIdx, h.1], fun i a p h1 h2 => ?_⟩
  rw [List.getElem?_eraseIdx] at h1 h2
  split at h1
  · rename_i c; rw [if_pos c] at h2; exact h.2 _ _ _ h1 h2
  · rename_i c; rw [if_neg c] at h2; exact h.2 _ _ _ h1 h2
theorem seqN {n j : Nat} (h : j < n) : seqIndex? (j : Int) n = some j := (ixN_seq (Hg.ixN_nat h)).1
end Hg
namespace Hg
open PySem PySem.Spec PyProof.Rows L2
theorem pick_filter {zs : List Int} {p : Int → Bool} : ((List.range zs.length).filter (fun i => p (zs.getD i 0))).map (fun i => zs.getD i 0) = zs.filter p := by
  have e : zs = (List.range zs.length).map (fun i => zs.getD i 0) := by
    apply List.ext_getElem?
    intro i
    rw [List.getElem?_map]
    by_cases h : i < zs.length
    · rw [List.getElem?_range h, List.getElem?_eq_getElem h]
      simp [List.getD_eq_getElem?_getD, h]
    · rw [List.getElem?_eq_none (by omega), List.getElem?_eq_none (by simpa using h)]; rfl
  have h2 : zs.filter p = ((List.range zs.length).map (fun i => zs.getD i 0)).filter p := by rw [← e]
  rw [h2, List.filter_map]
  rfl
theorem picked_ints {zs : List Int} {p : Int → Bool} : picked (fun i => p (zs.getD i 0)) (fun i => V.int (zs.getD i 0)) (iV zs).length = iV (zs.filter p) := by
  unfold picked
  rw [← pick_filter (zs := zs) (p := p), List.length_map]
  show _ = List.map V.int (List.map _ _)
  rw [List.map_map]
  rfl
end Hg
theorem Hg.er_map {α β : Type} (f : α → β) : ∀ (l : List α) (i : Nat), (l.map f).eraseIdx i = (l.eraseIdx i).map f
  | [], i => rfl
  | a :: l, 0 => rfl
  | a :: l, i+1 => congrArg (f a :: ·) (Hg.er_map f l i)

set_option maxHeartbeats 4000000
namespace Hn
theorem Grn.zero {n : Nat} {f : Vc} {R : List (List Int)} {g : Int} (h : Grn n f R g) (z : ∀ v, dv n f v = 0) : g = 0 :=
  Int.zero_dvd.mp ((h.2 0).mpr fun r _ => by rw [z]; exact Int.dvd_refl 0)
theorem Grn.all {n : Nat} {f : Vc} {R : List (List Int)} {g : Int} (h : Grn n f R g) {v : Vc} (hv : Sp (RL R) v) : g ∣ dv n f v :=
  dvd_span (R := RL R) (fun u ⟨r, hr, e⟩ => by rw [e]; exact (h.2 g).mp (Int.dvd_refl g) r hr) hv
theorem Grn.mul {n : Nat} {f f' : Vc} {R : List (List Int)} {g g' c : Int} (a : Grn n f R g) (b : Grn n f' R g') (e : ∀ v, dv n f' v = c * dv n f v) : g' = (c.natAbs : Int) * g := by
  refine same_of_dvd b.1 (Int.mul_nonneg (Int.natCast_nonneg _) a.1) fun d => ⟨fun h => ?_, fun h => (b.2 d).mpr fun r hr => ?_⟩
  · obtain ⟨u, hu, hg⟩ := a.val
    have h1 : d ∣ c * g := by rw [← hg, ← e]; exact Int.dvd_trans h (b.all hu)
    rcases Int.natAbs_eq c with h2 | h2
    · rw [← h2]; exact h1
    · have : (c.natAbs : Int) * g = -(c * g) := by
        have h3 : c * g = -(c.natAbs : Int) * g := congrArg (· * g) h2
        rw [h3, Int.neg_mul, Int.neg_neg]
      rw [this]; exact Int.dvd_neg.mpr h1
  · rw [e]
    obtain ⟨k, hk⟩ := (a.2 g).mp (Int.dvd_refl g) r hr
    rw [hk, ← Int.mul_assoc]
    refine Int.dvd_mul_of_dvd_left ?_
    rcases Int.natAbs_eq c with h2 | h2
    · rw [h2]; exact h
    · have : c * g = -((c.natAbs : Int) * g) := by
        have h3 : c * g = -(c.natAbs : Int) * g := congrArg (· * g) h2
        rw [h3, Int.neg_mul]
      rw [this]; exact Int.dvd_neg.mpr h
theorem Grn.sum {n : Nat} {f h k : Vc} {R : List (List Int)} {g g2 g3 s d : Int} (a : Grn n f R g) (b : Grn n h R g2) (c : Grn n k R g3) (e : ∀ v, dv n k v = s * dv n h v + dv n f v) (h1 : d ∣ g) (h2 : d ∣ g2) : d ∣ g3 :=
  (c.2 d).mpr fun r hr => by rw [e]; exact Int.dvd_add (Int.dvd_mul_of_dvd_right ((b.2 d).mp h2 r hr)) ((a.2 d).mp h1 r hr)
theorem Grn.abs {n A B : Nat} {f : Vc} {R : List (List Int)} {g : Int} (h : Grn n f R g) (hf : bnd A f) (hR : ∀ r ∈ R, bnd B (fv r)) : g.natAbs ≤ n * (A * B) := by
  by_cases z : ∀ r ∈ R, dv n f (fv r) = 0
  · have : g = 0 := Int.zero_dvd.mp ((h.2 0).mpr fun r hr => by rw [z r hr]; exact Int.dvd_refl 0)
    rw [this]; simp
  · obtain ⟨r, hr⟩ := Classical.not_forall.mp z
    obtain ⟨hr, hne⟩ := Classical.not_imp.mp hr
    have h1 := (h.2 g).mp (Int.dvd_refl g) r hr
    have h2 : g.natAbs ≤ (dv n f (fv r)).natAbs := Nat.le_of_dvd (by omega) (Int.natAbs_dvd_natAbs.mpr h1)
    refine Nat.le_trans h2 (sm_abs (B := A * B) fun i _ => ?_)
    rw [Int.natAbs_mul]
    exact Nat.mul_le_mul (hf i) (hR r hr i)
theorem lcmI_nonneg {a b : Int} (ha : 0 ≤ a) (hb : 0 ≤ b) : 0 ≤ lcmI a b := by
  unfold lcmI
  exact Int.ediv_nonneg (Int.mul_nonneg ha hb) (by omega)
theorem Grn.mem {n m : Nat} {S : List (List Int × Nat)} {f : List Int} {R : List (List Int)} {g : Int} (hB : Hnf n (LatS n S) R) (h : Grn n (fv f) R g) (hm : (f, m) ∈ S) : (m : Int) ∣ g :=
  (h.2 m).mpr fun r hr => ((hB.span (fv r)).mpr (.of ⟨r, hr, rfl⟩)).2 (f, m) hm
theorem Grn.less {n m : Nat} {S : List (List Int × Nat)} {f : List Int} {h : Vc} {R R2 : List (List Int)} {g g' : Int} (hB : Hnf n (LatS n S) R) (hC : Hnf n (LatS n (S ++ [(f, m)])) R2) (a : Grn n h R g) (b : Grn n h R2 g') : g ∣ g' :=
  (b.2 g).mpr fun r hr => a.all ((hB.span (fv r)).mp (LatS.app.mp ((hC.span (fv r)).mpr (.of ⟨r, hr, rfl⟩))).1)
theorem Grn.lcm {n m : Nat} {S : List (List Int × Nat)} {f : List Int} {R R2 : List (List Int)} {g g' : Int} (hB : Hnf n (LatS n S) R) (hC : Hnf n (LatS n (S ++ [(f, m)])) R2) (a : Grn n (fv f) R g) (b : Grn n (fv f) R2 g') : g' = lcmI g m := by
  have m0 : (0 : Int) ≤ (m : Int) := Int.natCast_nonneg _
  have li := lcm_iff a.1 m0
  have hl := (li (lcmI g m)).mpr (Int.dvd_refl _)
  refine same_of_dvd b.1 (lcmI_nonneg a.1 m0) fun d => ⟨fun h => ?_, fun h => (b.2 d).mpr fun r hr => ?_⟩
  · obtain ⟨u, hu, hg⟩ := a.val
    obtain ⟨k, hk⟩ := hl.1
    have hv : Sp (RL R) (fun j => k * u j) := Sp.mul k hu
    have ev : dv n (fv f) (fun j => k * u j) = lcmI g m := by
      have e1 : dv n (fv f) (fun j => k * u j) = k * dv n (fv f) u := by
        unfold dv
        rw [← sm_mul]
        exact sm_congr fun i _ => by grind
      rw [e1, hg, hk, Int.mul_comm]
    have hw : LatS n (S ++ [(f, m)]) (fun j => k * u j) := by
      have h0 := (hB.span _).mpr hv
      rw [LatS.app, LatS.one]
      exact ⟨h0, h0.1, by rw [ev]; exact hl.2⟩
    rw [← ev]
    exact Int.dvd_trans h (b.all ((hC.span _).mp hw))
  · have hw := LatS.app.mp ((hC.span (fv r)).mpr (.of ⟨r, hr, rfl⟩))
    exact Int.dvd_trans h ((li _).mp ⟨a.all ((hB.span _).mp hw.1), (LatS.one.mp hw.2).2⟩)
end Hn
namespace Hg
open PySem PySem.Spec PyProof.Rows L2
theorem KnAt.beside {s q C p : Addr} {B n : Nat} {G H : Hp} {S : List (List Int × Nat)} (O : Ov s q B G H) (h : KnAt C H p n S) : KnAt C (beside s q H) p n S := by
  obtain ⟨dx, o, st, h1, h2⟩ := h
  refine ⟨dx, o, st, ?_, h2.mono fun a xs z => O.tup z⟩
  obtain ⟨ne, m, k, l, ms, e1, e2, e3⟩ := O.str
  rw [beside_of (fun z => by rw [z, e1] at h1; cases h1) (fun z => by rw [z, e2] at h1; cases h1)]
  exact h1
theorem kb5 {n : Nat} (n1 : 1 ≤ n) (n5 : n ≤ 5) : KB n 99 (2 ^ 4153) (2 ^ 4162) := by
  refine ⟨n1, by omega, Nat.lt_of_le_of_lt (Hn.log_le (e := 7) (by decide)) (by decide), sm8_2 (by decide), ?_, ?_, ?_, ?_, rm_lat n5⟩
  · exact Nat.le_trans (by decide : 99 ≤ 2 ^ 7) (Nat.pow_le_pow_right (by decide) (by decide))
  · have : n * (99 * 2 ^ 4153) ≤ 5 * (99 * 2 ^ 4153) := Nat.mul_le_mul_right _ n5
    exact Nat.le_trans this (by decide +kernel)
  · decide +kernel
  · exact Nat.le_trans (by decide : 1000000 ≤ 2 ^ 20) (Nat.pow_le_pow_right (by decide) (by decide))
theorem ks5 {n : Nat} {T : List (List Int × Nat)} (n1 : 1 ≤ n) (n5 : n ≤ 5) (hl : T.length ≤ 20) (h : ∀ p ∈ T, okP n p ∧ p.2 ≤ 1000000) : KS n 99 (2 ^ 4153) T :=
  ⟨fun p hp => ⟨(h p hp).1.1, (h p hp).1.2.1, (h p hp).2⟩, by omega, fun i R hR => Hn.LatS.bnd400 hR n1 n5 (by rw [List.length_take]; omega) fun p hp => (h p (List.mem_of_mem_take hp)).1.2⟩
end Hg

set_option maxHeartbeats 4000000
namespace Hn
/-- what a lattice of pairs is: multiples of (step, carried) and of (0, free) -/
def prsp (C : List (List Int)) : Int × Int × Int := C.foldl (fun s r => if fv r 0 ≠ 0 then (fv r 0, fv r 1, s.2.2) else (s.1, s.2.1, fv r 1)) (0, 0, 0)
structure Prsp (V : Vc → Prop) (a b c : Int) : Prop where
  a0 : 0 ≤ a
  ab : a = 0 → b = 0
  iff : ∀ v : Vc, V v ↔ (∀ j, 2 ≤ j → v j = 0) ∧ ∃ x y : Int, v 0 = x * a ∧ v 1 = x * b + y * c
theorem sp_two {V : Vc → Prop} {R : List (List Int)} (hV : ∀ v, V v ↔ Sp (RL R) v) {r s : List Int} (hr : r.length = 2) (hs : s.length = 2) (hR : ∀ v, Sp (RL R) v ↔ ∃ x y : Int, ∀ j, v j = x * fv r j + y * fv s j) (s0 : fv s 0 = 0) (r0 : 0 ≤ fv r 0) (rr : fv r 0 = 0 → fv r 1 = 0) : Prsp V (fv r 0) (fv r 1) (fv s 1) := by
  refine ⟨r0, rr, fun v => ?_⟩
  rw [hV, hR]
  constructor
  · rintro ⟨x, y, h⟩
    refine ⟨fun j hj => ?_, x, y, ?_, h 1⟩
    · rw [h j, fv_out (by omega), fv_out (by omega)]; simp
    · rw [h 0, s0]; simp
  · rintro ⟨hz, x, y, h1, h2⟩
    refine ⟨x, y, fun j => ?_⟩
    match j with
    | 0 => rw [h1, s0]; simp
    | 1 => exact h2
    | j + 2 => rw [hz _ (by omega), fv_out (by omega), fv_out (by omega)]; simp
theorem sp_nil {v : Vc} : Sp (RL []) v ↔ ∀ j, v j = 0 := by
  constructor
  · intro h
    induction h with
    | zero => intro j; rfl
    | add k hu _ ih => obtain ⟨r, hr, _⟩ := hu; cases hr
  · intro h
    exact Sp.zero.cast fun j => (h j).symm
theorem sp_one {r : List Int} {v : Vc} : Sp (RL [r]) v ↔ ∃ x : Int, ∀ j, v j = x * fv r j := by
  constructor
  · intro h
    induction h with
    | zero => exact ⟨0, fun j => by simp⟩
    | add k hu _ ih =>
      obtain ⟨q, hq, rfl⟩ := hu
      obtain ⟨x, hx⟩ := ih
      rw [List.mem_singleton.mp hq]
      exact ⟨k + x, fun j => by show k * fv r j + _ = _; rw [hx j, Int.add_mul]⟩
  · rintro ⟨x, hx⟩
    exact (Sp.mul x (.of ⟨r, List.mem_singleton.mpr rfl, rfl⟩)).cast fun j => (hx j).symm
theorem sp_pair {r s : List Int} {v : Vc} : Sp (RL [r, s]) v ↔ ∃ x y : Int, ∀ j, v j = x * fv r j + y * fv s j := by
  constructor
  · intro h
    induction h with
    | zero => exact ⟨0, 0, fun j => by simp⟩
    | add k hu _ ih =>
      obtain ⟨q, hq, rfl⟩ := hu
      obtain ⟨x, y, hx⟩ := ih
      rcases List.mem_cons.mp hq with h | h
      · exact ⟨k + x, y, fun j => by show k * fv q j + _ = _; rw [hx j, h]; grind⟩
      · rw [List.mem_singleton.mp h]
        exact ⟨x, k + y, fun j => by show k * fv s j + _ = _; rw [hx j]; grind⟩
  · rintro ⟨x, y, hx⟩
    exact (Sp.plus (Sp.mul x (.of ⟨r, by simp, rfl⟩)) (Sp.mul y (.of ⟨s, by simp, rfl⟩))).cast fun j => (hx j).symm
/-- the grain of a second value behind a residue of the first -/
theorem Prsp.gcd {V : Vc → Prop} {a b c : Int} (P : Prsp V a b c) (m : Nat) (d : Int) : (d ∣ b * (if a = 0 then 1 else ((m : Int) / (Int.gcd a m : Int))) ∧ d ∣ c) ↔ ∀ v, V v → (m : Int) ∣ v 0 → d ∣ v 1 := by
  by_cases h : a = 0
  · have hb := P.ab h
    rw [if_pos h, hb]
    constructor
    · rintro ⟨_, h2⟩ v hv _
      obtain ⟨_, x, y, _, e2⟩ := (P.iff v).mp hv
      rw [e2, hb]
      simpa using Int.dvd_mul_of_dvd_right h2
    · intro hv
      refine ⟨by simp, ?_⟩
      have := hv (fun j => if j = 1 then c else 0) ((P.iff _).mpr ⟨fun j hj => by rw [if_neg (by omega)], 0, 1, by simp, by simp⟩) (by simp)
      simpa using this
  · rw [if_neg h]
    have g0 : 0 < Int.gcd a m := Int.gcd_pos_of_ne_zero_left _ h
    have gne : ((Int.gcd a m : Nat) : Int) ≠ 0 := by omega
    obtain ⟨a', ha'⟩ := Int.gcd_dvd_left (a := a) (b := (m : Int))
    obtain ⟨m', hm'⟩ := Int.gcd_dvd_right (a := a) (b := (m : Int))
    have hq : (m : Int) / (Int.gcd a m : Int) = m' := by
      conv => lhs; lhs; rw [hm']
      exact Int.mul_ediv_cancel_left _ gne
    rw [hq]
    have cop : Int.gcd a' m' = 1 := by
      have h1 : Int.gcd a m = Int.gcd ((Int.gcd a m : Int) * a') ((Int.gcd a m : Int) * m') := by rw [← ha', ← hm']
      rw [Int.gcd_mul_left, Int.natAbs_natCast] at h1
      exact Nat.eq_of_mul_eq_mul_left g0 (by omega)
    have key : ∀ x : Int, (m : Int) ∣ x * a ↔ m' ∣ x := fun x => by
      constructor
      · intro hx
        have h2 : (Int.gcd a m : Int) * m' ∣ (Int.gcd a m : Int) * (x * a') := by
          rw [← hm']
          have : (Int.gcd a m : Int) * (x * a') = x * a := by rw [Int.mul_left_comm, ← ha']
          rw [this]; exact hx
        have h3 : m' ∣ x * a' := Int.dvd_of_mul_dvd_mul_left gne h2
        have h4 := Int.natAbs_dvd_natAbs.mpr h3
        rw [Int.natAbs_mul] at h4
        exact Int.natAbs_dvd_natAbs.mp (Nat.Coprime.dvd_of_dvd_mul_right (by show Nat.gcd m'.natAbs a'.natAbs = 1; rw [Nat.gcd_comm]; exact cop) h4)
      · rintro ⟨k, rfl⟩
        refine ⟨k * a', ?_⟩
        have e1 : m' * k * a = m' * k * ((Int.gcd a m : Int) * a') := by rw [← ha']
        have e2 : (m : Int) * (k * a') = ((Int.gcd a m : Int) * m') * (k * a') := by rw [← hm']
        rw [e1, e2]; grind
    constructor
    · rintro ⟨h1, h2⟩ v hv hm
      obtain ⟨_, x, y, e1, e2⟩ := (P.iff v).mp hv
      rw [e1, key] at hm
      obtain ⟨k, rfl⟩ := hm
      rw [e2]
      refine Int.dvd_add ?_ (Int.dvd_mul_of_dvd_right h2)
      have : m' * k * b = k * (b * m') := by grind
      rw [this]; exact Int.dvd_mul_of_dvd_right h1
    · intro hv
      refine ⟨?_, ?_⟩
      · have := hv (fun j => if j = 0 then m' * a else if j = 1 then m' * b else 0) ((P.iff _).mpr ⟨fun j hj => by rw [if_neg (by omega), if_neg (by omega)], m', 0, by simp, by simp⟩) (by simpa using (key m').mpr (Int.dvd_refl _))
        rw [Int.mul_comm]
        simpa using this
      · have := hv (fun j => if j = 1 then c else 0) ((P.iff _).mpr ⟨fun j hj => by rw [if_neg (by omega)], 0, 1, by simp, by simp⟩) (by simp)
        simpa using this
end Hn
namespace Hn
theorem Hnf.prsp {V : Vc → Prop} {C : List (List Int)} (h : Hnf 2 V C) : Prsp V (prsp C).1 (prsp C).2.1 (prsp C).2.2 := by
  obtain ⟨cs, ec⟩ := h.ech
  have hV := h.span
  have e0 : ∀ {l : List Int}, fv ([0, 0] : List Int) 0 = 0 ∧ fv ([0, 0] : List Int) 1 = 0 := fun {_} => ⟨rfl, rfl⟩
  have z2 : ∀ j, fv ([0, 0] : List Int) j = 0 := fun j => by
    match j with
    | 0 => rfl
    | 1 => rfl
    | j + 2 => exact fv_out (by simp)
  match C, cs, ec with
  | [], _, _ =>
    refine sp_two (r := [0, 0]) (s := [0, 0]) hV rfl rfl (fun v => ?_) rfl (Int.le_refl _) (fun _ => rfl)
    rw [sp_nil]
    exact ⟨fun h => ⟨0, 0, fun j => by rw [h j]; simp⟩, fun ⟨x, y, h⟩ j => by rw [h j, z2]; simp⟩
  | [r], [c], ec =>
    obtain ⟨rl, rz, rp⟩ := ec.row 0 c r rfl rfl
    have hc := ec.lt c (by simp)
    by_cases h0 : c = 0
    · subst h0
      have hp : Hn.prsp [r] = (fv r 0, fv r 1, 0) := by simp [Hn.prsp, show fv r 0 ≠ 0 by omega]
      rw [hp]
      refine sp_two (r := r) (s := [0, 0]) hV rl rfl (fun v => ?_) rfl (by omega) (fun e => by omega)
      rw [sp_one]
      exact ⟨fun ⟨x, h⟩ => ⟨x, 0, fun j => by rw [h j]; simp⟩, fun ⟨x, y, h⟩ => ⟨x, fun j => by rw [h j, z2]; simp⟩⟩
    · have h1 : c = 1 := by omega
      subst h1
      have r00 := rz 0 (by omega)
      have hp : Hn.prsp [r] = (0, 0, fv r 1) := by simp [Hn.prsp, r00]
      rw [hp]
      refine sp_two (r := [0, 0]) (s := r) hV rfl rl (fun v => ?_) r00 (Int.le_refl _) (fun _ => rfl)
      rw [sp_one]
      exact ⟨fun ⟨x, h⟩ => ⟨0, x, fun j => by rw [h j]; simp⟩, fun ⟨x, y, h⟩ => ⟨y, fun j => by rw [h j, z2]; simp⟩⟩
  | [r, s], [c, d], ec =>
    obtain ⟨rl, rz, rp⟩ := ec.row 0 c r rfl rfl
    obtain ⟨sl, sz, sp⟩ := ec.row 1 d s rfl rfl
    have hd := ec.lt d (by simp)
    have hcd : c < d := by have := ec.asc; simpa using this
    have h0 : c = 0 := by omega
    have h1 : d = 1 := by omega
    subst h0; subst h1
    have s00 := sz 0 (by omega)
    have hp : Hn.prsp [r, s] = (fv r 0, fv r 1, fv s 1) := by simp [Hn.prsp, show fv r 0 ≠ 0 by omega, s00]
    rw [hp]
    exact sp_two (r := r) (s := s) hV rl sl (fun v => sp_pair) s00 (by omega) (fun e => by omega)
  | [_], [], ec => have := ec.len; simp at this
  | [_], _ :: _ :: _, ec => have := ec.len; simp at this
  | [_, _], [], ec => have := ec.len; simp at this
  | [_, _], [_], ec => have := ec.len; simp at this
  | [_, _], _ :: _ :: _ :: _, ec => have := ec.len; simp at this
  | _ :: _ :: _ :: _, cs, ec => have := h.le; simp at this
end Hn
namespace Hn
theorem prsp_bnd {X : Nat} {C : List (List Int)} (h : ∀ r ∈ C, bnd X (fv r)) : (prsp C).1.natAbs ≤ X ∧ (prsp C).2.1.natAbs ≤ X := by
  have go : ∀ (C : List (List Int)) (s : Int × Int × Int), (∀ r ∈ C, bnd X (fv r)) → s.1.natAbs ≤ X → s.2.1.natAbs ≤ X →
      (C.foldl (fun s r => if fv r 0 ≠ 0 then (fv r 0, fv r 1, s.2.2) else (s.1, s.2.1, fv r 1)) s).1.natAbs ≤ X ∧ (C.foldl (fun s r => if fv r 0 ≠ 0 then (fv r 0, fv r 1, s.2.2) else (s.1, s.2.1, fv r 1)) s).2.1.natAbs ≤ X := by
    intro C
    induction C with
    | nil => intro s _ h1 h2; exact ⟨h1, h2⟩
    | cons r C ih =>
      intro s hC h1 h2
      rw [List.foldl_cons]
      refine ih _ (fun q hq => hC q (List.mem_cons_of_mem _ hq)) ?_ ?_
      · split
        · exact hC r (by simp) 0
        · exact h1
      · split
        · exact hC r (by simp) 1
        · exact h2
  exact go C (0, 0, 0) h (by simp) (by simp)
end Hn

namespace Hn
/-! ### kernels by pivot columns: small vectors that span a sublattice of known index -/
def IndC (E : List (List Int)) (p : Nat) (c : Nat → Nat) : Prop := ∀ x : Nat → Int, (∀ f ∈ E, sm p (fun i => x i * fv f (c i)) = 0) → ∀ i, i < p → x i = 0
def setC (c : Nat → Nat) (p j : Nat) : Nat → Nat := fun i => if i = p then j else c i
theorem setC_lt {c : Nat → Nat} {p j i : Nat} (h : i < p) : setC c p j i = c i := if_neg (by omega)
theorem setC_at {c : Nat → Nat} {p j : Nat} : setC c p j p = j := if_pos rfl
theorem sm_setC {c : Nat → Nat} {p j : Nat} {g : Nat → Nat → Int} : sm (p + 1) (fun i => g i (setC c p j i)) = sm p (fun i => g i (c i)) + g p j := by
  show sm p (fun i => g i (setC c p j i)) + g p (setC c p j p) = _
  rw [setC_at]
  congr 1
  exact sm_congr fun i hi => by rw [setC_lt hi]
theorem col_step {A : Nat} (hA : 1 ≤ A) {E : List (List Int)} (hE : ∀ f ∈ E, bnd A (fv f)) {p : Nat} {c : Nat → Nat} (hI : IndC E p c) (j : Nat) :
    IndC E (p + 1) (setC c p j) ∨ ∃ x : Nat → Int, x p ≠ 0 ∧ (∀ i, i < p + 1 → (x i).natAbs ≤ (2 * (p + 1) * A) ^ (p + 1)) ∧ ∀ f ∈ E, sm (p + 1) (fun i => x i * fv f (setC c p j i)) = 0 := by
  by_cases h : IndC E (p + 1) (setC c p j)
  · exact .inl h
  refine .inr ?_
  obtain ⟨x0, h⟩ := Classical.not_forall.mp h
  obtain ⟨x0v, h⟩ := Classical.not_imp.mp h
  obtain ⟨i0, h⟩ := Classical.not_forall.mp h
  obtain ⟨hi0, x0n⟩ := Classical.not_imp.mp h
  have hR : ∀ u, (∃ f ∈ E, u = fv f) → ∀ i, i < p + 1 → (u (setC c p j i)).natAbs ≤ A := fun u ⟨f, hf, e⟩ i _ => by rw [e]; exact hE f hf _
  rcases dich (k := p + 1) hA (fun u => ∃ f ∈ E, u = fv f) (setC c p j) hR with ⟨x, ⟨i1, hi1, hx1⟩, xb, xv⟩ | ⟨us, ru, ind⟩
  · refine ⟨x, fun hp => ?_, xb, fun f hf => xv _ ⟨f, hf, rfl⟩⟩
    have z : ∀ i, i < p → x i = 0 := hI x fun f hf => by
      have := xv _ ⟨f, hf, rfl⟩
      rw [sm_setC (g := fun i k => x i * fv f k), hp, Int.zero_mul, Int.add_zero] at this
      exact this
    by_cases e : i1 = p
    · rw [e] at hx1; exact hx1 hp
    · exact hx1 (z i1 (by omega))
  · exfalso
    obtain ⟨y, ⟨s0, hs0, hy0⟩, _, ye⟩ := siegel (k := p + 1) (t := p) (M := A) (by omega) hA (fun e s => us s (setC c p j (if e = i0 then p else e))) fun e s he hs => hR _ (ru s hs) _ (by split <;> omega)
    have zz : ∀ i, i < p + 1 → i ≠ i0 → sm (p + 1) (fun s => y s * us s (setC c p j i)) = 0 := fun i hi hne => by
      by_cases hp : i = p
      · have := ye i0 (by omega)
        rw [if_pos rfl] at this
        rw [hp, ← this]
        exact sm_congr fun s _ => Int.mul_comm _ _
      · have := ye i (by omega)
        rw [if_neg hne] at this
        rw [← this]
        exact sm_congr fun s _ => Int.mul_comm _ _
    have sw : sm (p + 1) (fun i => x0 i * sm (p + 1) (fun s => y s * us s (setC c p j i))) = 0 := by
      have e1 : sm (p + 1) (fun i => x0 i * sm (p + 1) (fun s => y s * us s (setC c p j i))) = sm (p + 1) (fun i => sm (p + 1) fun s => y s * (x0 i * us s (setC c p j i))) := by
        refine sm_congr fun i _ => ?_
        rw [← sm_mul]
        exact sm_congr fun s _ => by grind
      rw [e1, sm_swap]
      refine sm_zero fun s hs => ?_
      rw [sm_mul]
      obtain ⟨f, hf, e⟩ := ru s hs
      rw [e, x0v f hf, Int.mul_zero]
    have one : sm (p + 1) (fun i => x0 i * sm (p + 1) (fun s => y s * us s (setC c p j i))) = x0 i0 * sm (p + 1) (fun s => y s * us s (setC c p j i0)) := sm_one hi0 fun i hi hne => by rw [zz i hi hne, Int.mul_zero]
    rw [one] at sw
    have z0 := (Int.mul_eq_zero.mp sw).resolve_left x0n
    exact hy0 (ind y (fun i hi => by
      by_cases e : i = i0
      · rw [e]; exact z0
      · exact zz i hi e) s0 hs0)

/-- a sum over the columns that an ascending list names -/
theorem sm_cols {g : Nat → Int} : ∀ (n p : Nat) (c : Nat → Nat), (∀ i i', i < i' → i' < p → c i < c i') → (∀ i, i < p → c i < n) → (∀ k, k < n → g k ≠ 0 → ∃ i, i < p ∧ c i = k) → sm n g = sm p fun i => g (c i)
  | 0, 0, _, _, _, _ => rfl
  | 0, p + 1, c, _, h2, _ => absurd (h2 0 (by omega)) (by omega)
  | n + 1, 0, c, _, _, h3 => sm_zero fun k hk => Classical.byContradiction fun h => by obtain ⟨i, hi, _⟩ := h3 k hk h; omega
  | n + 1, p + 1, c, h1, h2, h3 => by
    by_cases hp : c p = n
    · show sm n g + g n = sm p (fun i => g (c i)) + g (c p)
      rw [hp]
      congr 1
      refine sm_cols n p c (fun i i' a b => h1 i i' a (by omega)) (fun i hi => by have := h1 i p hi (by omega); omega) fun k hk hg => ?_
      obtain ⟨i, hi, e⟩ := h3 k (by omega) hg
      refine ⟨i, ?_, e⟩
      by_cases e2 : i = p
      · rw [e2, hp] at e; omega
      · omega
    · have lt : ∀ i, i < p + 1 → c i < n := fun i hi => by
        have a := h2 p (by omega)
        by_cases e2 : i = p
        · rw [e2]; omega
        · have := h1 i p (by omega) (by omega); omega
      have gn : g n = 0 := Classical.byContradiction fun h => by
        obtain ⟨i, hi, e⟩ := h3 n (by omega) h
        have := lt i hi; omega
      show sm n g + g n = _
      rw [gn, Int.add_zero]
      exact sm_cols n (p + 1) c h1 lt fun k hk hg => h3 k (by omega) hg
/-- what a list of pivot columns and small vectors beside them tells -/
structure ColW (n m A : Nat) (E : List (List Int)) (p : Nat) (c : Nat → Nat) (w : Nat → Vc) : Prop where
  pm : p ≤ m
  up : ∀ i i', i < i' → i' < p → c i < c i'
  lt : ∀ i, i < p → c i < m
  ind : IndC E p c
  ker : ∀ j, j < m → Ker n E (w j) ∧ bnd (n * (2 * n * A) ^ n) (w j)
  at_ : ∀ j, j < m → (∃ i, i < p ∧ c i = j) ∨ (w j j ≠ 0 ∧ ∀ k, w j k ≠ 0 → k = j ∨ ∃ i, i < p ∧ c i = k)
theorem ker_zero {n : Nat} {E : List (List Int)} : Ker n E fun _ => 0 := ⟨fun _ _ => rfl, fun f _ => by unfold dv; exact sm_zero fun i _ => by simp⟩
theorem ker_cols {n A : Nat} (hA : 1 ≤ A) {E : List (List Int)} (hE : ∀ f ∈ E, bnd A (fv f)) : ∀ m : Nat, m ≤ n → ∃ (p : Nat) (c : Nat → Nat) (w : Nat → Vc), ColW n m A E p c w
  | 0, _ => ⟨0, fun i => i, fun _ _ => 0, Nat.le_refl _, fun i i' _ h => by omega, fun i h => by omega, fun x _ i h => by omega, fun j h => by omega, fun j h => by omega⟩
  | m + 1, hm => by
    obtain ⟨p, c, w, h⟩ := ker_cols hA hE m (Nat.le_of_succ_le hm)
    have pm := h.pm
    rcases col_step hA hE h.ind m with hI | ⟨x, xp, xb, xv⟩
    · refine ⟨p + 1, setC c p m, fun j => if j = m then fun _ => 0 else w j, by omega, fun i i' a b => ?_, fun i hi => ?_, hI, fun j hj => ?_, fun j hj => ?_⟩
      · by_cases e : i' = p
        · rw [e, setC_at, setC_lt (by omega)]; exact h.lt i (by omega)
        · rw [setC_lt (by omega), setC_lt (by omega)]; exact h.up i i' a (by omega)
      · by_cases e : i = p
        · rw [e, setC_at]; omega
        · rw [setC_lt (by omega)]; have := h.lt i (by omega); omega
      · show Ker n E (if j = m then fun _ => 0 else w j) ∧ bnd _ (if j = m then fun _ => 0 else w j)
        split
        · exact ⟨ker_zero, fun j => by simp⟩
        · exact h.ker j (by omega)
      · by_cases e : j = m
        · exact .inl ⟨p, by omega, by rw [setC_at, e]⟩
        · show _ ∨ ((if j = m then fun _ => 0 else w j : Vc) j ≠ 0 ∧ ∀ k, (if j = m then fun _ => 0 else w j : Vc) k ≠ 0 → _)
          rw [if_neg e]
          rcases h.at_ j (by omega) with ⟨i, hi, e1⟩ | ⟨h1, h2⟩
          · exact .inl ⟨i, by omega, by rw [setC_lt hi]; exact e1⟩
          · refine .inr ⟨h1, fun k hk => ?_⟩
            rcases h2 k hk with e1 | ⟨i, hi, e1⟩
            · exact .inl e1
            · exact .inr ⟨i, by omega, by rw [setC_lt hi]; exact e1⟩
    · have inj : ∀ k, sm (p + 1) (fun i => x i * (if setC c p m i = k then 1 else 0)) ≠ 0 → k = m ∨ ∃ i, i < p ∧ c i = k := fun k hk => Classical.byContradiction fun hh => hk (sm_zero fun i hi => by
        by_cases e : i = p
        · rw [e, setC_at, if_neg fun e2 => hh (.inl e2.symm)]; simp
        · rw [setC_lt (by omega), if_neg fun e2 => hh (.inr ⟨i, by omega, e2⟩)]; simp)
      have cl : ∀ i, i < p + 1 → setC c p m i < n := fun i hi => by
        by_cases e : i = p
        · rw [e, setC_at]; omega
        · rw [setC_lt (by omega)]; have := h.lt i (by omega); omega
      refine ⟨p, c, fun j => if j = m then fun k => sm (p + 1) (fun i => x i * (if setC c p m i = k then 1 else 0)) else w j, by omega, h.up, fun i hi => by have := h.lt i hi; omega, h.ind, fun j hj => ?_, fun j hj => ?_⟩
      · show Ker n E (if j = m then fun k => sm (p + 1) (fun i => x i * (if setC c p m i = k then 1 else 0)) else w j) ∧ bnd _ (if j = m then fun k => sm (p + 1) (fun i => x i * (if setC c p m i = k then 1 else 0)) else w j)
        split
        · refine ⟨⟨fun k hk => sm_zero fun i hi => ?_, fun f hf => ?_⟩, fun k => ?_⟩
          · have := cl i hi
            rw [if_neg (by omega)]; simp
          · unfold dv
            have e1 : sm n (fun k => fv f k * sm (p + 1) (fun i => x i * (if setC c p m i = k then 1 else 0))) = sm n fun k => sm (p + 1) fun i => fv f k * (x i * (if setC c p m i = k then 1 else 0)) := sm_congr fun k _ => by rw [← sm_mul]
            rw [e1, sm_swap]
            refine Eq.trans (sm_congr fun i hi => ?_) (xv f hf)
            rw [sm_one (cl i hi) fun k _ hne => by rw [if_neg (Ne.symm hne), Int.mul_zero, Int.mul_zero], if_pos rfl]
            grind
          · refine Nat.le_trans (sm_abs (B := (2 * n * A) ^ n) fun i hi => ?_) (Nat.mul_le_mul_right _ (by omega))
            have b : (x i * (if setC c p m i = k then 1 else 0)).natAbs ≤ (x i).natAbs := by split <;> simp
            refine Nat.le_trans b (Nat.le_trans (xb i hi) (Nat.le_trans (Nat.pow_le_pow_left (Nat.mul_le_mul_right A (by omega)) _) (Nat.pow_le_pow_right (Nat.mul_pos (by omega) hA) (by omega))))
        · exact h.ker j (by omega)
      · by_cases e : j = m
        · subst e
          refine .inr ?_
          show (if j = j then fun k => sm (p + 1) (fun i => x i * (if setC c p j i = k then 1 else 0)) else w j : Vc) j ≠ 0 ∧ ∀ k, (if j = j then fun k => sm (p + 1) (fun i => x i * (if setC c p j i = k then 1 else 0)) else w j : Vc) k ≠ 0 → _
          rw [if_pos rfl]
          refine ⟨?_, inj⟩
          rw [sm_one (j := p) (by omega) fun i hi hne => by
            rw [setC_lt (by omega), if_neg (by have := h.lt i (by omega); omega)]; simp]
          rw [setC_at, if_pos rfl]
          simpa using xp
        · show _ ∨ ((if j = m then fun k => sm (p + 1) (fun i => x i * (if setC c p m i = k then 1 else 0)) else w j : Vc) j ≠ 0 ∧ ∀ k, (if j = m then fun k => sm (p + 1) (fun i => x i * (if setC c p m i = k then 1 else 0)) else w j : Vc) k ≠ 0 → _)
          rw [if_neg e]
          exact h.at_ j (by omega)
theorem ColW.gen {n A : Nat} {E : List (List Int)} {p : Nat} {c : Nat → Nat} {w : Nat → Vc} (h : ColW n n A E p c w) (hn : 1 ≤ n) (hA : 1 ≤ A) : ∃ d, d ≤ (n * (2 * n * A) ^ n) ^ n ∧ KE n (Ker n E) ((List.range n).map w) (n * (2 * n * A) ^ n) d := by
  have W1 : 1 ≤ n * (2 * n * A) ^ n := Nat.mul_pos hn (Nat.pow_pos (Nat.mul_pos (by omega) hA))
  have mem : ∀ j, j < n → w j ∈ (List.range n).map w := fun j hj => List.mem_map.mpr ⟨j, List.mem_range.mpr hj, rfl⟩
  have go : ∀ m, m ≤ n → ∃ d, 1 ≤ d ∧ d ≤ (n * (2 * n * A) ^ n) ^ m ∧ ∀ v, Ker n E v → ∃ u, Sp (fun u => u ∈ (List.range n).map w) u ∧ Ker n E (fun j => (d : Int) * v j - u j) ∧ ∀ j, j < m → (∃ i, i < p ∧ c i = j) ∨ (d : Int) * v j - u j = 0 := by
    intro m
    induction m with
    | zero => exact fun _ => ⟨1, Nat.le_refl _, Nat.le_refl _, fun v hv => ⟨_, .zero, ⟨fun j hj => by dsimp only; rw [hv.1 j hj]; omega, fun f hf => by
        rw [show (fun j => ((1 : Nat) : Int) * v j - 0) = v from funext fun j => by omega]; exact hv.2 f hf⟩, fun j hj => by omega⟩⟩
    | succ m ih =>
      intro hm
      obtain ⟨d, d1, dB, hd⟩ := ih (by omega)
      rcases h.at_ m (by omega) with hp | ⟨h1, h2⟩
      · refine ⟨d, d1, Nat.le_trans dB (Nat.pow_le_pow_right W1 (by omega)), fun v hv => ?_⟩
        obtain ⟨u, a1, a2, a3⟩ := hd v hv
        refine ⟨u, a1, a2, fun j hj => ?_⟩
        by_cases e : j = m
        · rw [e]; exact .inl hp
        · exact a3 j (by omega)
      · obtain ⟨kw, bw⟩ := h.ker m (by omega)
        obtain ⟨s, hs⟩ : ∃ s : Int, ((w m m).natAbs : Int) = s * w m m := by
          rcases Int.natAbs_eq (w m m) with h | h
          · exact ⟨1, by omega⟩
          · exact ⟨-1, by omega⟩
        refine ⟨(w m m).natAbs * d, Nat.mul_pos (by omega) d1, ?_, fun v hv => ?_⟩
        · rw [Nat.pow_succ, Nat.mul_comm]
          exact Nat.mul_le_mul dB (bw m)
        · obtain ⟨u, a1, a2, a3⟩ := hd v hv
          have eq : ∀ j, (((w m m).natAbs * d : Nat) : Int) * v j - (((w m m).natAbs : Int) * u j + (s * ((d : Int) * v m - u m)) * w m j) = ((w m m).natAbs : Int) * ((d : Int) * v j - u j) - (s * ((d : Int) * v m - u m)) * w m j := fun j => by rw [Int.natCast_mul]; grind
          refine ⟨fun j => ((w m m).natAbs : Int) * u j + (s * ((d : Int) * v m - u m)) * w m j, Sp.comb _ _ a1 (.of (mem m (by omega))), ?_, fun j hj => ?_⟩
          · rw [show (fun j => (((w m m).natAbs * d : Nat) : Int) * v j - (((w m m).natAbs : Int) * u j + (s * ((d : Int) * v m - u m)) * w m j)) = _ from funext eq]
            exact Ker.cl _ _ _ _ a2 kw
          · rw [eq j]
            by_cases e : j = m
            · subst e
              refine .inr ?_
              rw [hs]; grind
            · by_cases hpj : ∃ i, i < p ∧ c i = j
              · exact .inl hpj
              · refine .inr ?_
                rw [(a3 j (by omega)).resolve_left hpj]
                have z : w m j = 0 := Classical.byContradiction fun hz => by
                  rcases h2 j hz with e2 | e2
                  · exact e e2
                  · exact hpj e2
                rw [z]; simp
  obtain ⟨d, d1, dB, hd⟩ := go n (Nat.le_refl _)
  refine ⟨d, dB, fun u hu => ?_, d1, fun v hv => ?_, fun u hu => ?_⟩
  · obtain ⟨j, hj, rfl⟩ := List.mem_map.mp hu
    exact (h.ker j (List.mem_range.mp hj)).1
  · obtain ⟨u, a1, a2, a3⟩ := hd v hv
    refine a1.cast fun j => ?_
    have sup : ∀ k, k < n → (d : Int) * v k - u k ≠ 0 → ∃ i, i < p ∧ c i = k := fun k hk hne => (a3 k hk).resolve_right hne
    have z := h.ind (fun i => (d : Int) * v (c i) - u (c i)) fun f hf => by
      have := a2.2 f hf
      unfold dv at this
      rw [sm_cols n p c h.up h.lt fun k hk hne => sup k hk fun e => hne (by dsimp only; rw [e]; simp)] at this
      rw [← this]
      exact sm_congr fun i _ => Int.mul_comm _ _
    have all : (d : Int) * v j - u j = 0 := Classical.byContradiction fun hne => by
      by_cases hj : j < n
      · obtain ⟨i, hi, e⟩ := sup j hj hne
        have : (d : Int) * v (c i) - u (c i) = 0 := z i hi
        rw [e] at this
        exact hne this
      · exact hne (a2.1 j (by omega))
    omega
  · obtain ⟨j, hj, rfl⟩ := List.mem_map.mp hu
    exact (h.ker j (List.mem_range.mp hj)).2
/-- numbers of the lattice of some forms -/
theorem LatS.bndW {n N W y e : Nat} {S : List (List Int × Nat)} {C : List (List Int)} (hC : Hnf n (LatS n S) C) (hn : 1 ≤ n) (hN : n ≤ N) (hS : ∀ p ∈ S, bnd 99 (fv p.1)) (he : prS S ≤ 2 ^ e) (hW : N * (2 * N * 99) ^ N ≤ 2 ^ W) (hy : 2 * N * 2 ^ W ≤ 2 ^ y) : ∀ r ∈ C, bnd (2 ^ (W * N + e + hE N y)) (fv r) := by
  obtain ⟨p, c, w, h⟩ := ker_cols (n := n) (A := 99) (by decide) (E := exS S) (fun f hf => by
    obtain ⟨p, hp, rfl⟩ := List.mem_map.mp hf
    exact hS p (List.mem_filter.mp hp).1) n (Nat.le_refl _)
  obtain ⟨d, hd, k⟩ := h.gen hn (by decide)
  have hX : 1 ≤ 2 * n * 99 := Nat.mul_pos (by omega) (by decide)
  have w1 : n * (2 * n * 99) ^ n ≤ 2 ^ W := Nat.le_trans (Nat.mul_le_mul hN (Nat.le_trans (Nat.pow_le_pow_left (Nat.mul_le_mul_right 99 (by omega)) n) (Nat.pow_le_pow_right (Nat.le_trans hX (Nat.mul_le_mul_right 99 (by omega))) hN))) hW
  have pk := hC.pinchK k (prS_pos S) (Nat.mul_pos hn (Nat.pow_pos hX)) (fun v hv => ⟨hv.1, fun f hf => by
    obtain ⟨p, hp, rfl⟩ := List.mem_map.mp hf
    obtain ⟨p1, p2⟩ := List.mem_filter.mp hp
    have := hv.2 p p1
    rw [show p.2 = 0 by simpa using p2] at this
    exact Int.zero_dvd.mp this⟩) (fun u hu => ⟨fun j hj => by show (prS S : Int) * u j = 0; rw [hu.1 j hj]; omega, fun p hp => by
      have e : dv n (fv p.1) (fun j => (prS S : Int) * u j) = prS S * dv n (fv p.1) u := by
        have := dv_sub (n := n) (f := fv p.1) (u := u) (v := u) (a := prS S) (b := 0)
        simp only [Int.zero_mul, Int.sub_zero] at this
        exact this
      rw [e]
      by_cases z : p.2 = 0
      · rw [hu.2 p.1 (List.mem_map.mpr ⟨p, List.mem_filter.mpr ⟨hp, by simp [z]⟩, rfl⟩)]
        simp
      · exact Int.dvd_mul_of_dvd_left (Int.natCast_dvd_natCast.mpr (prS_dvd hp z))⟩)
  have hD : d ≤ 2 ^ (W * N) := by
    refine Nat.le_trans hd (Nat.le_trans (Nat.pow_le_pow_left w1 n) ?_)
    rw [← Nat.pow_mul]
    exact Nat.pow_le_pow_right (by decide) (Nat.mul_le_mul_left _ hN)
  have hp : pinB (d * prS S) n (n * (2 * n * 99) ^ n) ≤ 2 ^ ((W * N + e) + hE n y) := pinB_le (Nat.le_trans (Nat.mul_le_mul (by omega) w1) hy) (by rw [Nat.pow_add]; exact Nat.mul_le_mul hD he)
  intro r hr j
  exact Nat.le_trans (pk r hr j) (Nat.le_trans hp (Nat.pow_le_pow_right (by decide) (Nat.add_le_add_left (hE_mono hN (Nat.le_refl _)) _)))
theorem LatS.bnd12 {n : Nat} {S : List (List Int × Nat)} {C : List (List Int)} (hC : Hnf n (LatS n S) C) (hn : 1 ≤ n) (h12 : n ≤ 12) (hl : S.length ≤ 20) (hS : ∀ p ∈ S, bnd 99 (fv p.1) ∧ p.2 ≤ 2 ^ 20) : ∀ r ∈ C, bnd (2 ^ 5681) (fv r) := by
  have h := LatS.bndW (N := 12) (W := 139) (y := 144) (e := 400) hC hn h12 (fun p hp => (hS p hp).1) (Nat.le_trans (prS_le (x := 20) fun p hp => (hS p hp).2) (Nat.pow_le_pow_right (by decide) (by omega))) (by decide +kernel) (by decide +kernel)
  intro r hr j
  exact Nat.le_trans (h r hr j) (Nat.pow_le_pow_right (by decide) (by decide))
theorem LatS.bnd5 {n : Nat} {S : List (List Int × Nat)} {C : List (List Int)} (hC : Hnf n (LatS n S) C) (hn : 1 ≤ n) (h12 : n ≤ 5) (hl : S.length ≤ 20) (hS : ∀ p ∈ S, bnd 99 (fv p.1) ∧ p.2 ≤ 2 ^ 20) : ∀ r ∈ C, bnd (2 ^ 1310) (fv r) := by
  have h := LatS.bndW (N := 5) (W := 53) (y := 57) (e := 400) hC hn h12 (fun p hp => (hS p hp).1) (Nat.le_trans (prS_le (x := 20) fun p hp => (hS p hp).2) (Nat.pow_le_pow_right (by decide) (by omega))) (by decide +kernel) (by decide +kernel)
  intro r hr j
  exact Nat.le_trans (h r hr j) (Nat.pow_le_pow_right (by decide) (by decide))
end Hn

namespace Hn
/-! ### numbers that a lattice's values are -/
theorem ideal_gen {I : Int → Prop} (h0 : I 0) (hc : ∀ a b x y, I x → I y → I (a * x + b * y)) : ∃ g, 0 ≤ g ∧ I g ∧ ∀ x, I x → g ∣ x := by
  have go : ∀ (N : Nat) (x : Int), I x → 0 < x → x.natAbs ≤ N → ∃ g, 0 ≤ g ∧ I g ∧ ∀ x, I x → g ∣ x := by
    intro N
    induction N with
    | zero => intro x _ h1 h2; omega
    | succ N ih =>
      intro x hx h1 h2
      by_cases hall : ∀ y, I y → x ∣ y
      · exact ⟨x, by omega, hx, hall⟩
      · obtain ⟨y, hy⟩ := Classical.not_forall.mp hall
        obtain ⟨hy, hd⟩ := Classical.not_imp.mp hy
        have r0 : 0 ≤ y % x := Int.emod_nonneg _ (by omega)
        have r1 : y % x < x := Int.emod_lt_of_pos _ h1
        have rne : y % x ≠ 0 := fun e => hd (Int.dvd_of_emod_eq_zero e)
        refine ih (y % x) ?_ (by omega) (by omega)
        have := hc 1 (-(y / x)) y x hy hx
        have e : y % x = 1 * y + -(y / x) * x := by
          have := Int.emod_add_ediv_mul y x
          grind
        rw [e]; exact this
  by_cases hz : ∀ x, I x → x = 0
  · exact ⟨0, Int.le_refl _, h0, fun x hx => by rw [hz x hx]; exact Int.dvd_refl _⟩
  · obtain ⟨x, hx⟩ := Classical.not_forall.mp hz
    obtain ⟨hx, hne⟩ := Classical.not_imp.mp hx
    have hp : I (x.natAbs : Int) := by
      rcases Int.natAbs_eq x with h | h
      · rw [← h]; exact hx
      · have := hc (-1) 0 x 0 hx h0
        have e : (x.natAbs : Int) = -1 * x + 0 * 0 := by omega
        rw [e]; exact this
    exact go _ _ hp (by omega) (Nat.le_refl _)
theorem ideal_dvd {I : Int → Prop} (h0 : I 0) (hc : ∀ a b x y, I x → I y → I (a * x + b * y)) {g : Int} (g0 : 0 ≤ g) (hg : ∀ d, d ∣ g ↔ ∀ x, I x → d ∣ x) (m : Int) : g ∣ m ↔ I m := by
  obtain ⟨e, e0, e1, e2⟩ := ideal_gen h0 hc
  have a : e ∣ g := (hg e).mpr e2
  have b : g ∣ e := (hg g).mp (Int.dvd_refl _) e e1
  have : g = e := Int.dvd_antisymm g0 e0 b a
  subst this
  refine ⟨fun ⟨k, hk⟩ => ?_, fun h => e2 m h⟩
  have := hc k 0 g g e1 e1
  rw [hk]
  have e3 : g * k = k * g + 0 * g := by grind
  rw [e3]; exact this
theorem LatS.comb {n : Nat} {S : List (List Int × Nat)} {u v : Vc} (a b : Int) (hu : LatS n S u) (hv : LatS n S v) : LatS n S fun j => a * u j + b * v j := by
  refine ⟨fun j hj => by dsimp only; rw [hu.1 j hj, hv.1 j hj]; omega, fun p hp => ?_⟩
  have e : dv n (fv p.1) (fun j => a * u j + b * v j) = a * dv n (fv p.1) u + b * dv n (fv p.1) v := by
    have := dv_sub (n := n) (f := fv p.1) (u := u) (v := v) (a := a) (b := -b)
    rw [show (fun j => a * u j + b * v j) = fun j => a * u j - -b * v j from funext fun j => by grind, this]
    grind
  rw [e]
  exact Int.dvd_add (Int.dvd_mul_of_dvd_right (hu.2 p hp)) (Int.dvd_mul_of_dvd_right (hv.2 p hp))
theorem dv_lc {n : Nat} {f u v : Vc} (a b : Int) : dv n f (fun j => a * u j + b * v j) = a * dv n f u + b * dv n f v := by
  have := dv_sub (n := n) (f := f) (u := u) (v := v) (a := a) (b := -b)
  rw [show (fun j => a * u j + b * v j) = fun j => a * u j - -b * v j from funext fun j => by grind, this]
  grind
theorem LatS.zero {n : Nat} {S : List (List Int × Nat)} : LatS n S fun _ => 0 := ⟨fun _ _ => rfl, fun p _ => by
  have : dv n (fv p.1) (fun _ => 0) = 0 := by unfold dv; exact sm_zero fun i _ => by simp
  rw [this]; exact Int.dvd_zero _⟩
theorem dv_z {n : Nat} {f : Vc} : dv n f (fun _ => 0) = 0 := by unfold dv; exact sm_zero fun i _ => by simp
/-- a value that a vector of the lattice has -/
def Has (n : Nat) (S : List (List Int × Nat)) (f : List Int) (m : Int) : Prop := ∃ v, LatS n S v ∧ dv n (fv f) v = m
theorem Has.zero {n : Nat} {S : List (List Int × Nat)} {f : List Int} : Has n S f 0 := ⟨_, LatS.zero, dv_z⟩
theorem Has.comb {n : Nat} {S : List (List Int × Nat)} {f : List Int} (a b x y : Int) (hx : Has n S f x) (hy : Has n S f y) : Has n S f (a * x + b * y) := by
  obtain ⟨u, hu, rfl⟩ := hx
  obtain ⟨v, hv, rfl⟩ := hy
  exact ⟨_, hu.comb a b hv, dv_lc a b⟩
theorem has_dvd {n : Nat} {S : List (List Int × Nat)} {f : List Int} {g : Int} (g0 : 0 ≤ g) (hg : ∀ d, d ∣ g ↔ ∀ v, LatS n S v → d ∣ dv n (fv f) v) (m : Int) : g ∣ m ↔ Has n S f m :=
  ideal_dvd (I := Has n S f) Has.zero (fun a b x y hx hy => hx.comb a b x y hy) g0 (fun d => by
    rw [hg d]
    exact ⟨fun h x ⟨v, hv, e⟩ => e ▸ h v hv, fun h v hv => h _ ⟨v, hv, rfl⟩⟩) m
theorem Grn.has {n : Nat} {S : List (List Int × Nat)} {f : List Int} {R : List (List Int)} {g : Int} (hh : Hnf n (LatS n S) R) (hg : Grn n (fv f) R g) (m : Int) : g ∣ m ↔ Has n S f m :=
  has_dvd hg.1 (fun d => by
    rw [hg.span]
    exact ⟨fun h v hv => h v ((hh.span v).mp hv), fun h v hv => h v ((hh.span v).mpr hv)⟩) m
/-- the guard of the secret s with the margin m is kept behind the answer to f by the modulus k -/
def Safe (n : Nat) (S : List (List Int × Nat)) (s : List Int) (m : Int) (f : List Int) (k : Nat) : Prop := Has n (S ++ [(f, k)]) s m
theorem safe_iff {n : Nat} {S : List (List Int × Nat)} {s f : List Int} {m : Int} {k : Nat} : Safe n S s m f k ↔ ∃ v, LatS n S v ∧ (k : Int) ∣ dv n (fv f) v ∧ dv n (fv s) v = m := by
  unfold Safe Has
  constructor
  · rintro ⟨v, hv, e⟩
    have h := LatS.app.mp hv
    exact ⟨v, h.1, (LatS.one.mp h.2).2, e⟩
  · rintro ⟨v, hv, h1, e⟩
    exact ⟨v, LatS.app.mpr ⟨hv, LatS.one.mpr ⟨hv.1, h1⟩⟩, e⟩
theorem Safe.down {n : Nat} {S : List (List Int × Nat)} {s f : List Int} {m : Int} {k l : Nat} (h : Safe n S s m f k) (hd : l ∣ k) : Safe n S s m f l := by
  obtain ⟨v, h1, h2, h3⟩ := safe_iff.mp h
  exact safe_iff.mpr ⟨v, h1, Int.dvd_trans (Int.natCast_dvd_natCast.mpr hd) h2, h3⟩
theorem Safe.has {n : Nat} {S : List (List Int × Nat)} {s f : List Int} {m : Int} {k : Nat} (h : Safe n S s m f k) : Has n S s m := by
  obtain ⟨v, h1, h2, h3⟩ := safe_iff.mp h
  exact ⟨v, h1, h3⟩
theorem Safe.one {n : Nat} {S : List (List Int × Nat)} {s f : List Int} {m : Int} (h : Has n S s m) : Safe n S s m f 1 := by
  obtain ⟨v, h1, h2⟩ := h
  exact safe_iff.mpr ⟨v, h1, Int.one_dvd _, h2⟩
theorem Safe.lcm {n : Nat} {S : List (List Int × Nat)} {s f : List Int} {m : Int} {k l : Nat} (hk : Safe n S s m f k) (hl : Safe n S s m f l) : Safe n S s m f (Nat.lcm k l) := by
  by_cases k0 : k = 0
  · subst k0; rw [Nat.lcm_zero_left]; exact hk
  obtain ⟨u, u1, u2, u3⟩ := safe_iff.mp hk
  obtain ⟨v, v1, v2, v3⟩ := safe_iff.mp hl
  have g0 : 0 < Nat.gcd k l := Nat.gcd_pos_of_pos_left _ (by omega)
  obtain ⟨k', hk'⟩ := Nat.gcd_dvd_left k l
  obtain ⟨l', hl'⟩ := Nat.gcd_dvd_right k l
  have cop : Nat.gcd k' l' = 1 := by
    have e : Nat.gcd k l = Nat.gcd (Nat.gcd k l * k') (Nat.gcd k l * l') := by rw [← hk', ← hl']
    rw [Nat.gcd_mul_left] at e
    exact Nat.eq_of_mul_eq_mul_left g0 (by omega)
  have lc : Nat.lcm k l = Nat.gcd k l * (k' * l') := by
    have e := Nat.gcd_mul_lcm k l
    have e2 : k * l = Nat.gcd k l * (Nat.gcd k l * (k' * l')) := by
      calc k * l = (Nat.gcd k l * k') * (Nat.gcd k l * l') := by rw [← hk', ← hl']
        _ = _ := by grind
    rw [e2] at e
    exact Nat.eq_of_mul_eq_mul_left g0 e
  obtain ⟨x, y, hxy⟩ : ∃ x y : Int, x * k' + y * l' = 1 := by
    obtain ⟨g, g1, ⟨⟨x, y, e⟩, g3⟩⟩ := ideal_gen (I := fun z => ∃ x y : Int, x * k' + y * l' = z) ⟨0, 0, by simp⟩ (fun a b x y ⟨x1, y1, e1⟩ ⟨x2, y2, e2⟩ => ⟨a * x1 + b * x2, a * y1 + b * y2, by rw [← e1, ← e2]; grind⟩)
    have d1 := g3 _ ⟨1, 0, rfl⟩
    have d2 := g3 _ ⟨0, 1, rfl⟩
    rw [Int.one_mul, Int.zero_mul, Int.add_zero] at d1
    rw [Int.zero_mul, Int.zero_add, Int.one_mul] at d2
    obtain ⟨gn, rfl⟩ := Int.eq_ofNat_of_zero_le g1
    have := Nat.dvd_gcd (Int.natCast_dvd_natCast.mp d1) (Int.natCast_dvd_natCast.mp d2)
    rw [cop] at this
    have : gn = 1 := Nat.dvd_one.mp this
    subst this
    exact ⟨x, y, e⟩
  refine safe_iff.mpr ⟨fun j => (y * l') * u j + (x * k') * v j, u1.comb _ _ v1, ?_, ?_⟩
  · rw [dv_lc, lc]
    obtain ⟨a, ha⟩ := u2
    obtain ⟨b, hb⟩ := v2
    rw [ha, hb]
    have ek : (k : Int) = (Nat.gcd k l : Int) * k' := by rw [← Int.natCast_mul, ← hk']
    have el : (l : Int) = (Nat.gcd k l : Int) * l' := by rw [← Int.natCast_mul, ← hl']
    refine ⟨y * a + x * b, ?_⟩
    rw [Int.natCast_mul, Int.natCast_mul]
    generalize (Nat.gcd k l : Int) = g at ek el
    rw [ek, el]
    grind
  · rw [dv_lc, u3, v3]
    have : y * l' * m + x * k' * m = (x * k' + y * l') * m := by grind
    rw [this, hxy]; simp
end Hn

namespace Hn
/-! ### numbers of the lattice of some forms, with any bound of the forms -/
theorem LatS.bndA {n N W y e A : Nat} {S : List (List Int × Nat)} {C : List (List Int)} (hC : Hnf n (LatS n S) C) (hn : 1 ≤ n) (hN : n ≤ N) (hA : 1 ≤ A) (hS : ∀ p ∈ S, bnd A (fv p.1)) (he : prS S ≤ 2 ^ e) (hW : N * (2 * N * A) ^ N ≤ 2 ^ W) (hy : 2 * N * 2 ^ W ≤ 2 ^ y) : ∀ r ∈ C, bnd (2 ^ (W * N + e + hE N y)) (fv r) := by
  obtain ⟨p, c, w, h⟩ := ker_cols (n := n) (A := A) hA (E := exS S) (fun f hf => by
    obtain ⟨p, hp, rfl⟩ := List.mem_map.mp hf
    exact hS p (List.mem_filter.mp hp).1) n (Nat.le_refl _)
  obtain ⟨d, hd, k⟩ := h.gen hn hA
  have hX : 1 ≤ 2 * n * A := Nat.mul_pos (by omega) hA
  have w1 : n * (2 * n * A) ^ n ≤ 2 ^ W := Nat.le_trans (Nat.mul_le_mul hN (Nat.le_trans (Nat.pow_le_pow_left (Nat.mul_le_mul_right A (by omega)) n) (Nat.pow_le_pow_right (Nat.le_trans hX (Nat.mul_le_mul_right A (by omega))) hN))) hW
  have pk := hC.pinchK k (prS_pos S) (Nat.mul_pos hn (Nat.pow_pos hX)) (fun v hv => ⟨hv.1, fun f hf => by
    obtain ⟨p, hp, rfl⟩ := List.mem_map.mp hf
    obtain ⟨p1, p2⟩ := List.mem_filter.mp hp
    have := hv.2 p p1
    rw [show p.2 = 0 by simpa using p2] at this
    exact Int.zero_dvd.mp this⟩) (fun u hu => ⟨fun j hj => by show (prS S : Int) * u j = 0; rw [hu.1 j hj]; omega, fun p hp => by
      have e : dv n (fv p.1) (fun j => (prS S : Int) * u j) = prS S * dv n (fv p.1) u := by
        have := dv_sub (n := n) (f := fv p.1) (u := u) (v := u) (a := prS S) (b := 0)
        simp only [Int.zero_mul, Int.sub_zero] at this
        exact this
      rw [e]
      by_cases z : p.2 = 0
      · rw [hu.2 p.1 (List.mem_map.mpr ⟨p, List.mem_filter.mpr ⟨hp, by simp [z]⟩, rfl⟩)]
        simp
      · exact Int.dvd_mul_of_dvd_left (Int.natCast_dvd_natCast.mpr (prS_dvd hp z))⟩)
  have hD : d ≤ 2 ^ (W * N) := by
    refine Nat.le_trans hd (Nat.le_trans (Nat.pow_le_pow_left w1 n) ?_)
    rw [← Nat.pow_mul]
    exact Nat.pow_le_pow_right (by decide) (Nat.mul_le_mul_left _ hN)
  have hp : pinB (d * prS S) n (n * (2 * n * A) ^ n) ≤ 2 ^ ((W * N + e) + hE n y) := pinB_le (Nat.le_trans (Nat.mul_le_mul (by omega) w1) hy) (by rw [Nat.pow_add]; exact Nat.mul_le_mul hD he)
  intro r hr j
  exact Nat.le_trans (pk r hr j) (Nat.le_trans hp (Nat.pow_le_pow_right (by decide) (Nat.add_le_add_left (hE_mono hN (Nat.le_refl _)) _)))
/-- forms of up to 11 cells, small, or of 12 -/
theorem LatS.bnd40 {n : Nat} {S : List (List Int × Nat)} {C : List (List Int)} (hC : Hnf n (LatS n S) C) (hn : 1 ≤ n) (hl : S.length ≤ 15) (h2 : ∀ p ∈ S, p.2 ≤ 2 ^ 20) (hS : (n ≤ 12 ∧ ∀ p ∈ S, bnd 99 (fv p.1)) ∨ (n ≤ 11 ∧ ∀ p ∈ S, bnd 891 (fv p.1))) : ∀ r ∈ C, bnd (2 ^ 5901) (fv r) := by
  have he : prS S ≤ 2 ^ 300 := Nat.le_trans (prS_le (x := 20) h2) (Nat.pow_le_pow_right (by decide) (by omega))
  rcases hS with ⟨h12, hS⟩ | ⟨h11, hS⟩
  · have h := LatS.bndA (N := 12) (W := 139) (y := 144) (e := 300) hC hn h12 (by decide) hS he (by decide +kernel) (by decide +kernel)
    intro r hr j
    exact Nat.le_trans (h r hr j) (Nat.pow_le_pow_right (by decide) (by decide))
  · have h := LatS.bndA (N := 11) (W := 161) (y := 166) (e := 300) hC hn h11 (by decide) hS he (by decide +kernel) (by decide +kernel)
    intro r hr j
    exact Nat.le_trans (h r hr j) (Nat.pow_le_pow_right (by decide) (by decide))
/-! ### forms written for other cells -/
def pullV (n n' : Nat) (R : List (List Int)) (v : Vc) : Vc := fun k => if k < n then dv n' (gt R k) v else 0
def pullL (n' : Nat) (R : List (List Int)) (f : List Int) : List Int := (List.range n').map fun j => sm f.length fun k => fv f k * gt R k j
theorem pull_len {n' : Nat} {R : List (List Int)} {f : List Int} : (pullL n' R f).length = n' := by simp [pullL]
theorem pull_at {n' : Nat} {R : List (List Int)} {f : List Int} {j : Nat} (hj : j < n') : fv (pullL n' R f) j = sm f.length fun k => fv f k * gt R k j := fv_at (by unfold pullL; rw [List.getElem?_map, List.getElem?_range hj]; rfl)
theorem pull_dv {n n' : Nat} {R : List (List Int)} {f : List Int} (hf : f.length = n) (v : Vc) : dv n' (fv (pullL n' R f)) v = dv n (fv f) (pullV n n' R v) := by
  unfold dv
  have e1 : sm n' (fun j => fv (pullL n' R f) j * v j) = sm n' fun j => sm n fun k => fv f k * (gt R k j * v j) := sm_congr fun j hj => by
    rw [pull_at hj, hf, ← sm_mulr]
    exact sm_congr fun k _ => Int.mul_assoc _ _ _
  rw [e1, sm_swap]
  refine sm_congr fun k hk => ?_
  rw [sm_mul]
  congr 1
  unfold pullV
  rw [if_pos hk]; rfl
/-- vectors that the rows tell apart -/
structure RInv (n n' c : Nat) (R : List (List Int)) : Prop where
  len : R.length = n
  row : ∀ r ∈ R, r.length = n' ∧ ∀ x ∈ r, x.natAbs ≤ 9
  col : ∀ (g : Nat → Int) (A : Nat), (∀ k, k < n → (g k).natAbs ≤ A) → ∀ j, j < n' → (sm n fun k => g k * gt R k j).natAbs ≤ c * A
  num : n' ≤ 12 ∧ (c ≤ 1 ∨ (c ≤ 99 ∧ n' ≤ 11))
  inv : ∃ W : Nat → Vc, (∀ i, i < n → ∀ j, n' ≤ j → W i j = 0) ∧ ∀ i k, i < n → k < n → dv n' (gt R k) (W i) = if k = i then 1 else 0
theorem dv_sumW {n' : Nat} {f : Vc} {W : Nat → Vc} {z : Nat → Int} : ∀ n, dv n' f (fun j => sm n fun i => z i * W i j) = sm n fun i => z i * dv n' f (W i)
  | 0 => by unfold dv; exact sm_zero fun i _ => by simp [sm]
  | n + 1 => by
    have e : (fun j => sm (n + 1) fun i => z i * W i j) = fun j => z n * W n j + (sm n fun i => z i * W i j) := funext fun j => Int.add_comm _ _
    rw [e, dv_comb, dv_sumW n]
    exact Int.add_comm _ _
theorem RInv.surj {n n' c : Nat} {R : List (List Int)} (h : RInv n n' c R) {v : Vc} (hv : ∀ j, n ≤ j → v j = 0) : ∃ v' : Vc, (∀ j, n' ≤ j → v' j = 0) ∧ pullV n n' R v' = v := by
  obtain ⟨W, w1, w2⟩ := h.inv
  refine ⟨fun j => sm n fun i => v i * W i j, fun j hj => sm_zero fun i hi => by rw [w1 i hi j hj]; simp, funext fun k => ?_⟩
  unfold pullV
  by_cases hk : k < n
  · rw [if_pos hk, dv_sumW, sm_one hk fun i hi hne => by rw [w2 i k hi hk, if_neg (Ne.symm hne)]; simp, w2 k k hk hk, if_pos rfl]
    simp
  · rw [if_neg hk, hv k (by omega)]
def pullS (n' : Nat) (R : List (List Int)) (S : List (List Int × Nat)) : List (List Int × Nat) := S.map fun p => (pullL n' R p.1, p.2)
theorem pull_lat {n n' : Nat} {R : List (List Int)} {S : List (List Int × Nat)} (hS : ∀ p ∈ S, p.1.length = n) {v : Vc} : LatS n' (pullS n' R S) v ↔ (∀ j, n' ≤ j → v j = 0) ∧ LatS n S (pullV n n' R v) := by
  unfold LatS pullS
  constructor
  · rintro ⟨h1, h2⟩
    refine ⟨h1, fun j hj => if_neg (by omega), fun p hp => ?_⟩
    rw [← pull_dv (hS p hp)]
    exact h2 _ (List.mem_map.mpr ⟨p, hp, rfl⟩)
  · rintro ⟨h1, _, h2⟩
    refine ⟨h1, fun q hq => ?_⟩
    obtain ⟨p, hp, rfl⟩ := List.mem_map.mp hq
    show (p.2 : Int) ∣ _
    rw [pull_dv (hS p hp)]
    exact h2 p hp
theorem pull_has {n n' c : Nat} {R : List (List Int)} (hR : RInv n n' c R) {S : List (List Int × Nat)} (hS : ∀ p ∈ S, p.1.length = n) {f : List Int} (hf : f.length = n) {m : Int} : Has n' (pullS n' R S) (pullL n' R f) m ↔ Has n S f m := by
  constructor
  · rintro ⟨v, hv, e⟩
    obtain ⟨_, h2⟩ := (pull_lat hS).mp hv
    exact ⟨_, h2, by rw [← pull_dv hf]; exact e⟩
  · rintro ⟨v, hv, e⟩
    obtain ⟨v', h1, h2⟩ := hR.surj hv.1
    refine ⟨v', (pull_lat hS).mpr ⟨h1, by rw [h2]; exact hv⟩, ?_⟩
    rw [pull_dv hf, h2]; exact e
theorem pull_safe {n n' c : Nat} {R : List (List Int)} (hR : RInv n n' c R) {S : List (List Int × Nat)} (hS : ∀ p ∈ S, p.1.length = n) {s f : List Int} (hs : s.length = n) (hf : f.length = n) {m : Int} {k : Nat} : Safe n' (pullS n' R S) (pullL n' R s) m (pullL n' R f) k ↔ Safe n S s m f k := by
  unfold Safe
  have e : pullS n' R S ++ [(pullL n' R f, k)] = pullS n' R (S ++ [(f, k)]) := by unfold pullS; rw [List.map_append]; rfl
  rw [e]
  exact pull_has hR (fun p hp => by
    rcases List.mem_append.mp hp with hp | hp
    · exact hS p hp
    · rw [List.mem_singleton.mp hp]; exact hf) hs
theorem pull_bnd {n n' c A : Nat} {R : List (List Int)} (hR : RInv n n' c R) {f : List Int} (hf : f.length = n) (fb : bnd A (fv f)) : bnd (c * A) (fv (pullL n' R f)) := fun j => by
  by_cases hj : j < n'
  · rw [pull_at hj, hf]
    exact hR.col _ A (fun k _ => fb k) j hj
  · rw [fv_out (by rw [pull_len]; omega)]; simp
/-- a column with one entry, a unit or its negative, or none -/
theorem col_one {n : Nat} {R : List (List Int)} {j k0 : Nat} (h1 : ∀ k, k < n → k ≠ k0 → gt R k j = 0) (h2 : (gt R k0 j).natAbs ≤ 1) {g : Nat → Int} {A : Nat} (hg : ∀ k, k < n → (g k).natAbs ≤ A) : (sm n fun k => g k * gt R k j).natAbs ≤ 1 * A := by
  by_cases hk : k0 < n
  · rw [sm_one hk fun k h hne => by rw [h1 k h hne]; simp, Int.natAbs_mul, Nat.mul_comm]
    exact Nat.mul_le_mul h2 (hg k0 hk)
  · rw [sm_zero fun k h => by rw [h1 k h (by omega)]; simp]
    simp
theorem dv_unit {n' i : Nat} {f : Vc} (hi : i < n') : dv n' f (fun j => if j = i then 1 else 0) = f i := by
  unfold dv
  rw [sm_one hi fun j _ hne => by show f j * (if j = i then 1 else 0) = 0; rw [if_neg hne]; simp]
  show f i * (if i = i then 1 else 0) = f i
  rw [if_pos rfl]; simp
/-- a zero cell put in -/
theorem RInv.put {n at_ : Nat} {R : List (List Int)} (hn : n ≤ 11) (ha : at_ < n) (hl : R.length = n) (hr : ∀ r ∈ R, r.length = n + 1 ∧ ∀ x ∈ r, x.natAbs ≤ 9) (h : ∀ k, k < n → ∀ j, j < n + 1 → gt R k j = if j < at_ then (if j = k then 1 else 0) else if j = at_ then 0 else (if j = k + 1 then 1 else 0)) : RInv n (n + 1) 1 R := by
  refine ⟨hl, hr, fun g A hg j hj => ?_, ⟨by omega, .inl (Nat.le_refl _)⟩, fun i j => if j = (if i < at_ then i else i + 1) then 1 else 0, fun i hi j hj => ?_, fun i k hi hk => ?_⟩
  · refine col_one (k0 := if j < at_ then j else j - 1) (fun k hk hne => ?_) ?_ hg
    · rw [h k hk j hj]
      split at hne <;> split <;> (try split) <;> (try split) <;> first | rfl | omega
    · by_cases hk : (if j < at_ then j else j - 1) < n
      · rw [h _ hk j hj]; split <;> split <;> (try split) <;> decide
      · unfold gt; rw [List.getD_eq_getElem?_getD, List.getElem?_eq_none (by omega)]; simp [fv]
  · show (if _ then _ else _) = _
    rw [if_neg]; split <;> omega
  · show dv (n + 1) (gt R k) (fun j => if j = (if i < at_ then i else i + 1) then 1 else 0) = _
    by_cases hi' : i < at_
    · rw [if_pos hi', dv_unit (by omega), h k hk i (by omega), if_pos hi']
      by_cases e : k = i
      · rw [if_pos e, if_pos e.symm]
      · rw [if_neg e, if_neg (Ne.symm e)]
    · rw [if_neg hi', dv_unit (by omega), h k hk (i + 1) (by omega), if_neg (by omega), if_neg (by omega)]
      by_cases e : k = i
      · rw [if_pos e, if_pos (by omega)]
      · rw [if_neg e, if_neg (by omega)]
/-- a cell in two copies -/
theorem RInv.twice {n at_ : Nat} {R : List (List Int)} (hn : n ≤ 11) (ha : at_ < n) (hl : R.length = n) (hr : ∀ r ∈ R, r.length = n + 1 ∧ ∀ x ∈ r, x.natAbs ≤ 9) (h : ∀ k, k < n → ∀ j, j < n + 1 → gt R k j = if j < at_ + 1 then (if j = k then 1 else 0) else (if j = k + 1 then 1 else 0)) : RInv n (n + 1) 1 R := by
  refine ⟨hl, hr, fun g A hg j hj => ?_, ⟨by omega, .inl (Nat.le_refl _)⟩, fun i j => if j = (if i < at_ then i else i + 1) then 1 else 0, fun i hi j hj => ?_, fun i k hi hk => ?_⟩
  · refine col_one (k0 := if j < at_ + 1 then j else j - 1) (fun k hk hne => ?_) ?_ hg
    · rw [h k hk j hj]
      split at hne <;> split <;> (try split) <;> first | rfl | omega
    · by_cases hk : (if j < at_ + 1 then j else j - 1) < n
      · rw [h _ hk j hj]; split <;> split <;> decide
      · unfold gt; rw [List.getD_eq_getElem?_getD, List.getElem?_eq_none (by omega)]; simp [fv]
  · show (if _ then _ else _) = _
    rw [if_neg]; split <;> omega
  · show dv (n + 1) (gt R k) (fun j => if j = (if i < at_ then i else i + 1) then 1 else 0) = _
    by_cases hi' : i < at_
    · rw [if_pos hi', dv_unit (by omega), h k hk i (by omega), if_pos (by omega)]
      by_cases e : k = i
      · rw [if_pos e, if_pos e.symm]
      · rw [if_neg e, if_neg (Ne.symm e)]
    · rw [if_neg hi', dv_unit (by omega), h k hk (i + 1) (by omega), if_neg (by omega)]
      by_cases e : k = i
      · rw [if_pos e, if_pos (by omega)]
      · rw [if_neg e, if_neg (by omega)]
/-- the cells in another order, with signs -/
theorem RInv.perm {n : Nat} {R : List (List Int)} {pi : Nat → Nat} {sg : Nat → Int} (hn : n ≤ 11) (hl : R.length = n) (hr : ∀ r ∈ R, r.length = n ∧ ∀ x ∈ r, x.natAbs ≤ 9) (hp : ∀ k, k < n → pi k < n) (hi : ∀ k l, k < n → l < n → pi k = pi l → k = l) (hs : ∀ k, k < n → sg k = 1 ∨ sg k = -1) (h : ∀ k, k < n → ∀ j, j < n → gt R k j = if j = pi k then sg k else 0) : RInv n n 1 R := by
  have sq : ∀ k, k < n → sg k * sg k = 1 := fun k hk => by rcases hs k hk with e | e <;> rw [e] <;> rfl
  refine ⟨hl, hr, fun g A hg j hj => ?_, ⟨by omega, .inl (Nat.le_refl _)⟩, fun i j => if j = pi i then sg i else 0, fun i hi' j hj => ?_, fun i k hi' hk => ?_⟩
  · by_cases ex : ∃ k0, k0 < n ∧ pi k0 = j
    · obtain ⟨k0, h0, e0⟩ := ex
      refine col_one (k0 := k0) (fun k hk hne => ?_) ?_ hg
      · rw [h k hk j hj, if_neg fun e => hne (hi k k0 hk h0 (by rw [← e, e0]))]
      · rw [h k0 h0 j hj]
        split
        · rcases hs k0 h0 with e | e <;> rw [e] <;> decide
        · decide
    · rw [sm_zero fun k hk => by rw [h k hk j hj, if_neg fun e => ex ⟨k, hk, e.symm⟩]; simp]
      simp
  · have := hp i hi'
    show (if _ then _ else _) = _
    rw [if_neg (by omega)]
  · have e : (fun j => if j = pi i then sg i else 0) = fun j => sg i * (if j = pi i then 1 else 0) + 0 := funext fun j => by split <;> simp
    show dv n (gt R k) (fun j => if j = pi i then sg i else 0) = _
    rw [e]
    have e2 := dv_comb (n := n) (f := gt R k) (u := fun j => if j = pi i then 1 else 0) (v := fun _ => 0) (k := sg i)
    rw [e2, dv_unit (hp i hi'), dv_z, h k hk _ (hp i hi')]
    by_cases c : k = i
    · subst c
      rw [if_pos rfl, if_pos rfl, sq k hk]; rfl
    · rw [if_neg c, if_neg fun e => c (hi k i hk hi' e.symm)]; simp
/-- the rows of a unimodular matrix -/
theorem RInv.frm {n : Nat} {U F : List (List Int)} (h : Frm n U F) (hn : n ≤ 11) (u9 : ∀ u ∈ U, ∀ x ∈ u, x.natAbs ≤ 9) : RInv n n 99 U := by
  refine ⟨h.ul, fun r hr => ⟨(h.us r hr).1, u9 r hr⟩, fun g A hg j hj => ?_, ⟨by omega, .inr ⟨Nat.le_refl _, by omega⟩⟩, fun i => gt F i, fun i hi j hj => ?_, fun i k hi hk => ?_⟩
  · refine Nat.le_trans (sm_abs (B := 9 * A) fun k hk => ?_) ?_
    · rw [Int.natAbs_mul, Nat.mul_comm]
      refine Nat.mul_le_mul ?_ (hg k hk)
      have hk' : U[k]? = some (U[k]'(by rw [h.ul]; exact hk)) := List.getElem?_eq_getElem (by rw [h.ul]; exact hk)
      rw [gt_at hk']
      exact u9 _ (List.mem_of_getElem? hk') _ (List.mem_of_getElem? (fv_get (by rw [(h.us _ (List.mem_of_getElem? hk')).1]; exact hj)))
    · rw [← Nat.mul_assoc]
      exact Nat.mul_le_mul_right A (by omega)
  · have hi' : F[i]? = some (F[i]'(by rw [h.fl]; exact hi)) := List.getElem?_eq_getElem (by rw [h.fl]; exact hi)
    show gt F i j = 0
    rw [gt_at hi', fv_out (by rw [(h.fs _ (List.mem_of_getElem? hi')).1]; exact hj)]
  · rw [dv_comm, h.du i k hi hk]
    by_cases c : k = i
    · rw [if_pos c, if_pos c.symm]
    · rw [if_neg c, if_neg (Ne.symm c)]
end Hn

namespace Hn
/-! ### kernels: numbers, rank, and what a vector is behind some columns -/
theorem van_ex {n M : Nat} (hM : 1 ≤ M) {S : List (List Int)} (h : ∀ r ∈ S, r.length = n ∧ bnd M (fv r)) : ∃ C, Hnf n (VanP n S) C ∧ ∀ r ∈ C, r.length = n ∧ bnd (hB (S.length + n) M) (fv r) := by
  have cl : (Hg.colsL n S).length = n := by simp [Hg.colsL]
  have catc : ∀ i, i < n → (Hg.colsL n S).getD i [] = S.map fun r => fv r i := fun i hi => by
    rw [List.getD_eq_getElem?_getD, Hg.colsL, List.getElem?_map, List.getElem?_range hi]; rfl
  have ml : ∀ t ∈ Hg.colsL n S, t.length = S.length := fun t ht => by
    obtain ⟨i, _, rfl⟩ := List.mem_map.mp ht
    exact List.length_map _
  obtain ⟨st, b⟩ := BR.rows (N := S.length + n) hM (preR n [] (Hg.colsL n S)) fun q hq => by
    rw [preR, List.map_nil, List.nil_append] at hq
    obtain ⟨i, hi, rfl⟩ := List.mem_map.mp hq
    have hi := List.mem_range.mp hi
    have tl : ((Hg.colsL n S).getD i []).length = S.length := by rw [catc i hi]; exact List.length_map _
    refine ⟨by simp only [mrkL, List.length_append, List.length_map, List.length_range, tl], fun j => ?_⟩
    rw [fv_mrk tl hi]
    split
    · rw [catc i hi]
      by_cases hj : j < S.length
      · rw [fv_at (x := fv S[j] i) (by rw [List.getElem?_map, List.getElem?_eq_getElem hj]; rfl)]
        exact (h _ (List.getElem_mem hj)).2 i
      · rw [fv_out (by rw [List.length_map]; omega)]; simp
    · split
      · exact hM
      · simp
  obtain ⟨C, hC, hb⟩ := b.form (L := S.length) (n := n) hM rfl
  refine ⟨C, hC.congr fun v => ?_, hb⟩
  have := pre_iff (m := S.length) (s := n) (R := []) (Mt := Hg.colsL n S) cl (fun r hr => by cases hr) ml v
  exact this.trans ⟨fun h => ⟨h.1, (vanish_iff v h.1).mp h.2⟩, fun h => ⟨h.1, (vanish_iff v h.1).mpr h.2⟩⟩
theorem van_bnd {n M : Nat} (hM : 1 ≤ M) {S C : List (List Int)} (h : ∀ r ∈ S, r.length = n ∧ bnd M (fv r)) (hC : Hnf n (VanP n S) C) : ∀ r ∈ C, bnd (hB (S.length + n) M) (fv r) := by
  obtain ⟨C', h', hb⟩ := van_ex hM h
  rw [hC.uniq h']
  exact fun r hr => (hb r hr).2
/-! ### columns that are left -/
def cpl (n : Nat) (ds : List Nat) : List Nat := (List.range n).filter fun c => !ds.contains c
theorem cpl_mem {n : Nat} {ds : List Nat} {c : Nat} : c ∈ cpl n ds ↔ c < n ∧ c ∉ ds := by
  simp [cpl]
theorem cpl_asc {n : Nat} {ds : List Nat} : (cpl n ds).Pairwise (· < ·) := List.Pairwise.filter _ List.pairwise_lt_range
theorem flt_len {p : Nat → Bool} : ∀ l : List Nat, (l.filter p).length + (l.filter fun c => !p c).length = l.length
  | [] => rfl
  | x :: l => by
    have := flt_len (p := p) l
    simp only [List.filter_cons]
    cases p x <;> simp <;> omega
theorem cpl_len {n : Nat} {ds : List Nat} (h : ds.Pairwise (· < ·)) (hl : ∀ c ∈ ds, c < n) : (cpl n ds).length + ds.length = n := by
  have e : (List.range n).filter (fun c => ds.contains c) = ds := by
    have a : ((List.range n).filter fun c => ds.contains c).Pairwise (· < ·) := List.Pairwise.filter _ List.pairwise_lt_range
    have s1 := sub_sorted a h fun d hd => List.mem_filter.mpr ⟨List.mem_range.mpr (hl d hd), by simpa using hd⟩
    have s2 := sub_sorted h a fun d hd => by simpa using (List.mem_filter.mp hd).2
    exact (s2.2 (by omega))
  have := flt_len (p := fun c => ds.contains c) (List.range n)
  rw [e, List.length_range] at this
  unfold cpl
  omega
/-- the numbers of a vector in some columns -/
def prjV (cs : List Nat) (v : Vc) : Vc := fun i => if i < cs.length then v (cs.getD i 0) else 0
theorem prjV_at {cs : List Nat} {v : Vc} {i c : Nat} (h : cs[i]? = some c) : prjV cs v i = v c := by
  have hl := (List.getElem?_eq_some_iff.mp h).1
  rw [prjV, if_pos hl, List.getD_eq_getElem?_getD, h]; rfl
theorem prjV_out {cs : List Nat} {v : Vc} {i : Nat} (h : cs.length ≤ i) : prjV cs v i = 0 := if_neg (by omega)
theorem prj_row {cs : List Nat} {r : List Int} : fv (prjL cs r) = prjV cs (fv r) := funext fun i => by
  by_cases h : i < cs.length
  · rw [prjL_at (List.getElem?_eq_getElem h), prjV_at (List.getElem?_eq_getElem h)]
  · rw [prjV_out (by omega), fv_out (by simp [prjL]; omega)]
theorem prj_comb {cs : List Nat} {k : Int} {u v : Vc} : prjV cs (fun j => k * u j + v j) = fun i => k * prjV cs u i + prjV cs v i := funext fun i => by
  unfold prjV
  split
  · rfl
  · omega
theorem prj_sp {cs : List Nat} {R : List (List Int)} {v : Vc} (h : Sp (RL R) v) : Sp (RL (R.map (prjL cs))) (prjV cs v) := by
  induction h with
  | zero => exact Sp.zero.cast fun i => by unfold prjV; split <;> rfl
  | @add u w k hu _ ih =>
    obtain ⟨r, hr, rfl⟩ := hu
    rw [prj_comb]
    refine Sp.add k ⟨_, List.mem_map.mpr ⟨r, hr, rfl⟩, ?_⟩ ih
    rw [prj_row]
theorem prj_back {cs : List Nat} {R : List (List Int)} {p : Vc} (h : Sp (RL (R.map (prjL cs))) p) : ∃ v, Sp (RL R) v ∧ prjV cs v = p := by
  induction h with
  | zero => exact ⟨_, .zero, funext fun i => by unfold prjV; split <;> rfl⟩
  | @add u w k hu _ ih =>
    obtain ⟨q, hq, rfl⟩ := hu
    obtain ⟨r, hr, rfl⟩ := List.mem_map.mp hq
    obtain ⟨v, hv, e⟩ := ih
    exact ⟨_, .add k ⟨r, hr, rfl⟩ hv, by rw [prj_comb, prj_row, e]⟩
theorem dv_prjV {n : Nat} {cs : List Nat} (asc : cs.Pairwise (· < ·)) (lt : ∀ c ∈ cs, c < n) {f g v : Vc} (hf : ∀ i c, cs[i]? = some c → f c = g i) (h0 : ∀ c, c < n → c ∉ cs → f c = 0) : dv n f v = dv cs.length g (prjV cs v) := by
  unfold dv
  have at_ : ∀ i, i < cs.length → cs[i]? = some (cs.getD i 0) := fun i hi => by rw [List.getD_eq_getElem?_getD, List.getElem?_eq_getElem hi]; rfl
  rw [sm_cols n cs.length (fun i => cs.getD i 0) (fun i i' h1 h2 => by
    have := List.pairwise_iff_getElem.mp asc i i' (by omega) h2 h1
    simpa [List.getD_eq_getElem?_getD, List.getElem?_eq_getElem h2, List.getElem?_eq_getElem (show i < cs.length by omega)] using this)
    (fun i hi => lt _ (List.mem_of_getElem? (at_ i hi))) (fun k hk hne => ?_)]
  · exact sm_congr fun i hi => by rw [hf i _ (at_ i hi), prjV_at (at_ i hi)]
  · by_cases hc : k ∈ cs
    · obtain ⟨i, hi⟩ := List.mem_iff_getElem?.mp hc
      refine ⟨i, (List.getElem?_eq_some_iff.mp hi).1, ?_⟩
      rw [List.getD_eq_getElem?_getD, hi]; rfl
    · rw [h0 k hk hc, Int.zero_mul] at hne
      exact absurd rfl hne
/-- a vector at which an echelon's forms vanish is known by the other columns -/
theorem pin_cols {n : Nat} {ds : List Nat} {E : List (List Int)} (e : EchR n ds E) {w : Vc} (hE : ∀ r ∈ E, dv n (fv r) w = 0) (h0 : ∀ j, n ≤ j → w j = 0) (hc : ∀ c ∈ cpl n ds, w c = 0) (j : Nat) : w j = 0 := by
  have key : ∀ t i d, ds[i]? = some d → E.length ≤ i + t → w d = 0 := by
    intro t
    induction t with
    | zero =>
      intro i d hi ht
      have := (List.getElem?_eq_some_iff.mp hi).1
      rw [e.len] at this
      omega
    | succ t ih =>
      intro i d hi ht
      have il := (List.getElem?_eq_some_iff.mp hi).1
      have hr : E[i]? = some (E[i]'(by rw [← e.len]; exact il)) := List.getElem?_eq_getElem _
      obtain ⟨r1, r2, r3⟩ := e.row i d _ hi hr
      have hv := hE _ (List.mem_of_getElem? hr)
      generalize E[i]'(by rw [← e.len]; exact il) = r at r1 r2 r3 hv
      have dl := e.lt d (List.mem_of_getElem? hi)
      unfold dv at hv
      rw [sm_one dl fun k hk hne => ?_] at hv
      · exact (Int.mul_eq_zero.mp hv).resolve_left (by omega)
      · rcases Nat.lt_or_gt_of_ne hne with h | h
        · rw [r2 k h, Int.zero_mul]
        · by_cases hk2 : k ∈ ds
          · obtain ⟨i', hi'⟩ := List.mem_iff_getElem?.mp hk2
            have il' := (List.getElem?_eq_some_iff.mp hi').1
            have : i < i' := by
              refine Classical.byContradiction fun hn => ?_
              rcases Nat.lt_or_eq_of_le (Nat.le_of_not_lt hn) with h1 | h1
              · have p := List.pairwise_iff_getElem.mp e.asc i' i il' il h1
                rw [(List.getElem?_eq_some_iff.mp hi).2, (List.getElem?_eq_some_iff.mp hi').2] at p
                omega
              · subst h1
                rw [hi] at hi'
                cases hi'
                omega
            rw [ih i' k hi' (by omega), Int.mul_zero]
          · rw [hc k (cpl_mem.mpr ⟨hk, hk2⟩), Int.mul_zero]
  by_cases hj : j < n
  · by_cases hd : j ∈ ds
    · obtain ⟨i, hi⟩ := List.mem_iff_getElem?.mp hd
      exact key E.length i j hi (by omega)
    · exact hc j (cpl_mem.mpr ⟨hj, hd⟩)
  · exact h0 j (by omega)
/-- a form that vanishes on the lattice, with one column that is no pivot -/
theorem van_col {n M : Nat} {cs : List Nat} {R : List (List Int)} (e : EchR n cs R) (hM : 1 ≤ M) (hR : ∀ r ∈ R, bnd M (fv r)) {j : Nat} (hj : j < n) (hn : j ∉ cs) : ∃ F, VanP n R F ∧ F j ≠ 0 ∧ ∀ j', j' ∉ cs → j' ≠ j → F j' = 0 := by
  have g : GensM ((1 : Nat) : Int) R.length (gt R) (RL R) := ⟨fun s hs => .of ⟨_, List.mem_of_getElem? (List.getElem?_eq_getElem hs), gt_at (List.getElem?_eq_getElem hs)⟩, fun u hu => by
    obtain ⟨z, hz⟩ := RL_coef (.of hu)
    exact ⟨z, fun j => by rw [← hz]; simp⟩⟩
  obtain ⟨x, d, d0, _, _, hf⟩ := form_boundM (n := R.length + 1) (M := M) (by omega) hM e.tri g (fun u ⟨r, hr, e⟩ => e ▸ hR r hr) (by omega) j
  have cm : ∀ i, i < R.length → cs.getD i 0 ∈ cs := fun i hi => by
    have : i < cs.length := by rw [e.len]; exact hi
    rw [List.getD_eq_getElem?_getD, List.getElem?_eq_getElem this]
    exact List.getElem_mem this
  have cl : ∀ i, i < R.length → cs.getD i 0 < n := fun i hi => e.lt _ (cm i hi)
  have dvF : ∀ v : Vc, dv n (fun k => (sm R.length fun i => if k = cs.getD i 0 then x i else 0) + if k = j then d else 0) v = (sm R.length fun i => x i * v (cs.getD i 0)) + d * v j := fun v => by
    unfold dv
    have e1 : sm n (fun k => ((sm R.length fun i => if k = cs.getD i 0 then x i else 0) + if k = j then d else 0) * v k) = sm n (fun k => sm R.length fun i => (if k = cs.getD i 0 then x i else 0) * v k) + sm n (fun k => (if k = j then d else 0) * v k) := by
      rw [← sm_add]
      exact sm_congr fun k _ => by rw [Int.add_mul, ← sm_mulr]
    rw [e1, sm_swap, sm_one hj (fun i _ hne => by rw [if_neg hne, Int.zero_mul]), if_pos rfl]
    congr 1
    exact sm_congr fun i hi => by
      rw [sm_one (cl i hi) (fun k _ hne => by rw [if_neg hne, Int.zero_mul]), if_pos rfl]
  refine ⟨fun k => (sm R.length fun i => if k = cs.getD i 0 then x i else 0) + if k = j then d else 0, ⟨fun k hk => ?_, fun r hr => ?_⟩, ?_, fun j' h1 h2 => ?_⟩
  · show (sm R.length fun i => if k = cs.getD i 0 then x i else 0) + (if k = j then d else 0) = 0
    rw [if_neg (by omega), sm_zero fun i hi => if_neg (by have := cl i hi; omega)]; rfl
  · rw [dv_comm, dvF]
    exact hf _ (.of ⟨r, hr, rfl⟩)
  · show (sm R.length fun i => if j = cs.getD i 0 then x i else 0) + (if j = j then d else 0) ≠ 0
    rw [if_pos rfl, sm_zero fun i hi => if_neg (by intro h; exact hn (by rw [h]; exact cm i hi))]
    omega
  · show (sm R.length fun i => if j' = cs.getD i 0 then x i else 0) + (if j' = j then d else 0) = 0
    rw [if_neg h2, sm_zero fun i hi => if_neg (by intro h; exact h1 (by rw [h]; exact cm i hi))]; rfl
/-- rank and kernel -/
theorem van_rank1 {n M : Nat} {cs : List Nat} {R E : List (List Int)} (e : EchR n cs R) (hM : 1 ≤ M) (hR : ∀ r ∈ R, bnd M (fv r)) (hE : Hnf n (VanP n R) E) : n ≤ E.length + R.length := by
  have cl := cpl_len e.asc e.lt
  have at_ : ∀ s, s < (cpl n cs).length → (cpl n cs)[s]? = some ((cpl n cs).getD s 0) := fun s hs => by rw [List.getD_eq_getElem?_getD, List.getElem?_eq_getElem hs]; rfl
  have ex : ∀ s, ∃ F, s < (cpl n cs).length → VanP n R F ∧ F ((cpl n cs).getD s 0) ≠ 0 ∧ ∀ j', j' ∉ cs → j' ≠ (cpl n cs).getD s 0 → F j' = 0 := fun s => by
    by_cases hs : s < (cpl n cs).length
    · obtain ⟨h1, h2⟩ := cpl_mem.mp (List.mem_of_getElem? (at_ s hs))
      obtain ⟨F, hF⟩ := van_col e hM hR h1 h2
      exact ⟨F, fun _ => hF⟩
    · exact ⟨fun _ => 0, fun h => absurd h hs⟩
  have hF := fun s => Classical.choose_spec (ex s)
  generalize (fun s => Classical.choose (ex s)) = F at hF
  have hr := rank_le (m := (cpl n cs).length) (k := E.length) (T := fun s => Classical.choose (ex s)) (c := fun s => (cpl n cs).getD s 0) ⟨fun s i hs hi => ?_, fun s hs => (hF s hs).2.1⟩ (Gv := gt E) fun s hs => RL_coef ((hE.span _).mp (hF s hs).1)
  · rw [e.len] at cl
    omega
  · have hi' : i < (cpl n cs).length := by omega
    refine (hF s hs).2.2 _ (cpl_mem.mp (List.mem_of_getElem? (at_ i hi'))).2 fun h => ?_
    have := List.pairwise_iff_getElem.mp (cpl_asc (n := n) (ds := cs)) i s hi' hs hi
    have a := at_ i hi'
    have b := at_ s hs
    rw [List.getElem?_eq_getElem hi'] at a
    rw [List.getElem?_eq_getElem hs] at b
    rw [Option.some.inj a, Option.some.inj b] at this
    omega
/-- columns that tell the vectors of the lattice apart keep its rank -/
theorem prj_rank {n M : Nat} {cs qs : List Nat} {R P : List (List Int)} (e : EchR n cs R) (hM : 1 ≤ M) (hR : ∀ r ∈ R, bnd M (fv r)) (inj : ∀ v, Sp (RL R) v → (∀ c ∈ qs, v c = 0) → ∀ j, v j = 0) (hP : Hnf qs.length (Sp (RL (R.map (prjL qs)))) P) : P.length = R.length := by
  have h1 : P.length ≤ R.length := (hP.few (G := R.map (prjL qs)) (k := R.length) (M := M) (fun v => Iff.rfl) (by rw [List.length_map]; exact Nat.le_refl _) hM fun r hr => by
    obtain ⟨q, hq, rfl⟩ := List.mem_map.mp hr
    exact prjL_bnd (hR q hq)).1
  have ex : ∀ l, ∃ g, l < P.length → Sp (RL R) g ∧ prjV qs g = gt P l := fun l => by
    by_cases hl : l < P.length
    · obtain ⟨v, hv, e⟩ := prj_back ((hP.span _).mpr (.of ⟨_, List.getElem_mem hl, rfl⟩))
      exact ⟨v, fun _ => ⟨hv, by rw [e, gt_at (List.getElem?_eq_getElem hl)]⟩⟩
    · exact ⟨fun _ => 0, fun h => absurd h hl⟩
  have hg := fun l => Classical.choose_spec (ex l)
  generalize (fun s => Classical.choose (ex s)) = F at hg
  have h2 := rank_le e.tri (k := P.length) (Gv := fun l => Classical.choose (ex l)) fun s hs => by
    have hrs : R[s]? = some R[s] := List.getElem?_eq_getElem hs
    have hin : Sp (RL R) (fv R[s]) := .of ⟨_, List.getElem_mem hs, rfl⟩
    obtain ⟨z, hz⟩ := RL_coef ((hP.span _).mp (prj_sp (cs := qs) hin))
    refine ⟨z, fun j => ?_⟩
    have hw : Sp (RL R) (fun j => sm P.length fun l => z l * Classical.choose (ex l) j) := Sp.sumz z fun l hl => .inr (hg l hl).1
    have hd := inj _ (hin.sub hw) (fun c hc => ?_) j
    · rw [gt_at hrs]; omega
    · obtain ⟨i, hi⟩ := List.mem_iff_getElem?.mp hc
      have a := hz i
      rw [prjV_at hi] at a
      have b : sm P.length (fun l => z l * Classical.choose (ex l) c) = sm P.length fun l => z l * gt P l i := sm_congr fun l hl => by
        have := congrFun (hg l hl).2 i
        rw [prjV_at hi] at this
        rw [this]
      omega
  omega
theorem van_rank {n M : Nat} {cs ds : List Nat} {R E : List (List Int)} (e : EchR n cs R) (hM : 1 ≤ M) (hR : ∀ r ∈ R, bnd M (fv r)) (hE : Hnf n (VanP n R) E) (eE : EchR n ds E) : E.length + R.length = n ∧ (cpl n ds).length = R.length := by
  have h1 := van_rank1 e hM hR hE
  have rl : ∀ r ∈ R, r.length = n := fun r hr => by
    obtain ⟨i, hi⟩ := List.mem_iff_getElem?.mp hr
    have : i < cs.length := by rw [e.len]; exact (List.getElem?_eq_some_iff.mp hi).1
    exact (e.row i _ r (List.getElem?_eq_getElem this) hi).1
  obtain ⟨P, hP, _⟩ := hnf_ex (n := (cpl n ds).length) hM (R := R.map (prjL (cpl n ds))) fun r hr => by
    obtain ⟨q, hq, rfl⟩ := List.mem_map.mp hr
    exact ⟨by simp [prjL], prjL_bnd (hR q hq)⟩
  have h2 := prj_rank (qs := cpl n ds) e hM hR (fun v hv hc => pin_cols eE (fun r hr => ?_) (fun j hj => ?_) hc) hP
  · have h3 := hP.le
    have h4 := cpl_len eE.asc eE.lt
    have h5 := eE.len
    omega
  · have hvr := (hE.span _).mpr (.of ⟨r, hr, rfl⟩)
    have key : ∀ x, Sp (RL R) x → dv n (fv r) x = 0 := fun x hs => by
      induction hs with
      | zero => exact sm_zero fun i _ => by simp
      | @add u w k hu _ ih =>
        obtain ⟨q, hq, rfl⟩ := hu
        rw [dv_comb, ih, dv_comm, hvr.2 q hq]; simp
    exact key v hv
  · exact hv.at0 fun u ⟨r, hr, e⟩ => by rw [e]; exact fv_out (by rw [rl r hr]; exact hj)
end Hn

set_option maxHeartbeats 4000000
namespace Hn
/-! ### the dual of a lattice of any rank -/
theorem Hnf.red {n : Nat} {V : Vc → Prop} {B : List (List Int)} {cs : List Nat} (hB : Hnf n V B) (e : EchR n cs B) : ∀ (i j c : Nat) (r r' : List Int), i < j → cs[j]? = some c → B[i]? = some r → B[j]? = some r' → 0 ≤ fv r c ∧ fv r c < fv r' c := by
  intro i j c r r' hij hc hr hr'
  obtain ⟨tl, et, rd, _, rfl⟩ := hB
  have at_ : ∀ (k : Nat) (x : List Int), (tl.filterMap id)[k]? = some x → ∃ (d : Nat), cs[k]? = some d ∧ tl[d]? = some (some x) := fun k x hk => by
    have kl := (List.getElem?_eq_some_iff.mp hk).1
    have hd : cs[k]? = some (cs[k]'(by rw [e.len]; exact kl)) := List.getElem?_eq_getElem _
    obtain ⟨x1, x2, x3⟩ := e.row k _ x hd hk
    obtain ⟨y, hy, ey⟩ := List.mem_filterMap.mp (List.mem_of_getElem? hk)
    change y = some x at ey
    subst ey
    obtain ⟨d, hdt⟩ := List.mem_iff_getElem?.mp hy
    have p1 := et.piv _ _ hdt
    have p2 := fun j h => et.lo _ _ j hdt h
    refine ⟨_, hd, ?_⟩
    have : cs[k]'(by rw [e.len]; exact kl) = d := by
      rcases Nat.lt_trichotomy (cs[k]'(by rw [e.len]; exact kl)) d with h | h | h
      · have := p2 _ h; omega
      · exact h
      · have := x2 _ h; omega
    rw [this]; exact hdt
  obtain ⟨d, h1, h2⟩ := at_ i r hr
  obtain ⟨d', h3, h4⟩ := at_ j r' hr'
  rw [hc] at h3
  cases h3
  have il := (List.getElem?_eq_some_iff.mp h1).1
  have jl := (List.getElem?_eq_some_iff.mp hc).1
  have p := List.pairwise_iff_getElem.mp e.asc i j il jl hij
  rw [(List.getElem?_eq_some_iff.mp h1).2, (List.getElem?_eq_some_iff.mp hc).2] at p
  exact rd d r c r' h2 p h4
/-- rows put into columns -/
structure Sprd (n : Nat) (cs : List Nat) (D D' : List (List Int)) : Prop where
  len : D'.length = D.length
  row : ∀ (i : Nat) (d d' : List Int), D[i]? = some d → D'[i]? = some d' → d'.length = n ∧ (∀ s c, cs[s]? = some c → fv d' c = fv d s) ∧ ∀ j, j ∉ cs → fv d' j = 0
theorem Sprd.get {n : Nat} {cs : List Nat} {D D' : List (List Int)} (h : Sprd n cs D D') {d' : List Int} (hd : d' ∈ D') : ∃ d ∈ D, d'.length = n ∧ (∀ s c, cs[s]? = some c → fv d' c = fv d s) ∧ ∀ j, j ∉ cs → fv d' j = 0 := by
  obtain ⟨i, hi⟩ := List.mem_iff_getElem?.mp hd
  have il := (List.getElem?_eq_some_iff.mp hi).1
  have hD : D[i]? = some (D[i]'(by rw [← h.len]; exact il)) := List.getElem?_eq_getElem _
  exact ⟨_, List.mem_of_getElem? hD, h.row i _ _ hD hi⟩
theorem Sprd.got {n : Nat} {cs : List Nat} {D D' : List (List Int)} (h : Sprd n cs D D') {d : List Int} (hd : d ∈ D) : ∃ d' ∈ D', d'.length = n ∧ (∀ s c, cs[s]? = some c → fv d' c = fv d s) ∧ ∀ j, j ∉ cs → fv d' j = 0 := by
  obtain ⟨i, hi⟩ := List.mem_iff_getElem?.mp hd
  have il := (List.getElem?_eq_some_iff.mp hi).1
  have hD : D'[i]? = some (D'[i]'(by rw [h.len]; exact il)) := List.getElem?_eq_getElem _
  exact ⟨_, List.mem_of_getElem? hD, h.row i _ _ hi hD⟩
theorem Sprd.sp {n : Nat} {cs : List Nat} {D D' : List (List Int)} (h : Sprd n cs D D') {w : Vc} (hw : Sp (RL D) w) : ∃ w', Sp (RL D') w' ∧ (∀ s c, cs[s]? = some c → w' c = w s) ∧ ∀ j, j ∉ cs → w' j = 0 := by
  induction hw with
  | zero => exact ⟨_, .zero, fun _ _ _ => rfl, fun _ _ => rfl⟩
  | @add u v k hu _ ih =>
    obtain ⟨d, hd, rfl⟩ := hu
    obtain ⟨d', hd', _, a, b⟩ := h.got hd
    obtain ⟨w', hw', c, e⟩ := ih
    exact ⟨_, .add k ⟨d', hd', rfl⟩ hw', fun s x hs => by show k * fv d' x + w' x = _; rw [a s x hs, c s x hs], fun j hj => by show k * fv d' j + w' j = 0; rw [b j hj, e j hj]; omega⟩
theorem Sprd.hnf {n : Nat} {cs : List Nat} {D D' : List (List Int)} (h : Sprd n cs D D') (asc : cs.Pairwise (· < ·)) (lt : ∀ c ∈ cs, c < n) {V : Vc → Prop} (hD : Hnf cs.length V D) : Hnf n (Sp (RL D')) D' := by
  obtain ⟨es, e⟩ := hD.ech
  have red := hD.red e
  have el := e.len
  have at_ : ∀ (i c : Nat), (es.map fun k => cs.getD k 0)[i]? = some c → ∃ k, es[i]? = some k ∧ k < cs.length ∧ cs[k]? = some c := fun i c hi => by
    rw [List.getElem?_map] at hi
    obtain ⟨k, hk, rfl⟩ := Option.map_eq_some_iff.mp hi
    have kl := e.lt k (List.mem_of_getElem? hk)
    exact ⟨k, hk, kl, by rw [List.getD_eq_getElem?_getD, List.getElem?_eq_getElem kl]; rfl⟩
  have lt2 : ∀ {k k' c c' : Nat}, cs[k]? = some c → cs[k']? = some c' → k < k' → c < c' := fun {k k' c c'} h1 h2 h3 => by
    have p := List.pairwise_iff_getElem.mp asc k k' (List.getElem?_eq_some_iff.mp h1).1 (List.getElem?_eq_some_iff.mp h2).1 h3
    rw [(List.getElem?_eq_some_iff.mp h1).2, (List.getElem?_eq_some_iff.mp h2).2] at p
    exact p
  have dn : ∀ (i : Nat) (d' : List Int), D'[i]? = some d' → ∃ d, D[i]? = some d := fun i d' hi => by
    have il := (List.getElem?_eq_some_iff.mp hi).1
    exact ⟨_, List.getElem?_eq_getElem (show i < D.length by rw [← h.len]; exact il)⟩
  have E : EchR n (es.map fun k => cs.getD k 0) D' := by
    refine ⟨by rw [List.length_map, h.len, el], List.pairwise_iff_getElem.mpr fun i j hi hj hij => ?_, fun c hc => ?_, fun i c d' hc hr => ?_⟩
    · obtain ⟨k, h1, _, h2⟩ := at_ i _ (List.getElem?_eq_getElem hi)
      obtain ⟨k', h3, _, h4⟩ := at_ j _ (List.getElem?_eq_getElem hj)
      refine lt2 h2 h4 ?_
      have p := List.pairwise_iff_getElem.mp e.asc i j (List.getElem?_eq_some_iff.mp h1).1 (List.getElem?_eq_some_iff.mp h3).1 hij
      rw [(List.getElem?_eq_some_iff.mp h1).2, (List.getElem?_eq_some_iff.mp h3).2] at p
      exact p
    · obtain ⟨i, hi⟩ := List.mem_iff_getElem?.mp hc
      obtain ⟨k, _, _, h2⟩ := at_ i _ hi
      exact lt _ (List.mem_of_getElem? h2)
    · obtain ⟨k, h1, _, h2⟩ := at_ i c hc
      obtain ⟨d, hd⟩ := dn i d' hr
      obtain ⟨a1, a2, a3⟩ := h.row i d d' hd hr
      obtain ⟨b1, b2, b3⟩ := e.row i k d h1 hd
      refine ⟨a1, fun j hj => ?_, by rw [a2 k c h2]; exact b3⟩
      by_cases hm : j ∈ cs
      · obtain ⟨s, hs⟩ := List.mem_iff_getElem?.mp hm
        rw [a2 s j hs]
        refine b2 s (Classical.byContradiction fun hn => ?_)
        rcases Nat.lt_or_eq_of_le (Nat.le_of_not_lt hn) with h5 | h5
        · have := lt2 h2 hs h5; omega
        · subst h5; rw [hs] at h2; cases h2; omega
      · exact a3 j hm
  refine E.hnf fun i j c r r' hij hc hr hr' => ?_
  obtain ⟨k, h1, _, h2⟩ := at_ j c hc
  obtain ⟨d, hd⟩ := dn i r hr
  obtain ⟨d', hd'⟩ := dn j r' hr'
  rw [(h.row i d r hd hr).2.1 k c h2, (h.row j d' r' hd' hr').2.1 k c h2]
  exact red i j k d d' hij h1 hd hd'
end Hn
namespace Hg
open PySem PySem.Spec PyProof.Rows L2
/-- the dual of a lattice: forms that vanish, a scale, and forms that have multiples of it as values -/
structure DualR (n : Nat) (R E : List (List Int)) (scale : Int) (D : List (List Int)) : Prop where
  exact : Hn.Hnf n (Hn.VanP n R) E
  pos : 0 < scale
  lat : ∀ v : Hn.Vc, (∀ j, n ≤ j → v j = 0) → (Hn.Sp (Hn.RL R) v ↔ (∀ e ∈ E, Hn.dv n (Hn.fv e) v = 0) ∧ ∀ d ∈ D, scale ∣ Hn.dv n (Hn.fv d) v)
  com : ∀ c : Int, c ∣ scale → (∀ r ∈ D, ∀ j, c ∣ Hn.fv r j) → c ∣ 1
  lenE : E.length + R.length = n
  lenD : D.length = R.length
  base : Hn.Hnf n (Hn.Sp (Hn.RL D)) D
  col : ∀ ds, Hn.EchR n ds E → ∀ d ∈ D, ∀ c ∈ ds, Hn.fv d c = 0
  all : ∀ (u : Hn.Vc) (q : Int), q ≠ 0 → (∀ j, n ≤ j → u j = 0) → (∀ ds, Hn.EchR n ds E → ∀ c ∈ ds, u c = 0) → (∀ r ∈ R, q ∣ Hn.dv n u (Hn.fv r)) → ∃ w, Hn.Sp (Hn.RL D) w ∧ ∀ j, scale * u j = q * w j
theorem echR_uniq {n : Nat} {ds es : List Nat} {E : List (List Int)} (a : Hn.EchR n ds E) (b : Hn.EchR n es E) : ds = es := by
  refine List.ext_getElem (by rw [a.len, b.len]) fun i h1 h2 => ?_
  have hr : E[i]? = some (E[i]'(by rw [← a.len]; exact h1)) := List.getElem?_eq_getElem _
  obtain ⟨_, x2, x3⟩ := a.row i _ _ (List.getElem?_eq_getElem h1) hr
  obtain ⟨_, y2, y3⟩ := b.row i _ _ (List.getElem?_eq_getElem h2) hr
  rcases Nat.lt_trichotomy ds[i] es[i] with h | h | h
  · have := y2 _ h; omega
  · exact h
  · have := x2 _ h; omega
theorem DualR.of {n M : Nat} {cs ds : List Nat} {R E P D D' : List (List Int)} {scale : Int} {V : Hn.Vc → Prop} (eR : Hn.EchR n cs R) (hM : 1 ≤ M) (hR : ∀ r ∈ R, Hn.bnd M (Hn.fv r)) (hE : Hn.Hnf n (Hn.VanP n R) E) (eE : Hn.EchR n ds E)
    (hP : Hn.Hnf (Hn.cpl n ds).length (Hn.Sp (Hn.RL (R.map (Hn.prjL (Hn.cpl n ds))))) P) (dP : DualOf (Hn.cpl n ds).length P scale D) (hD : Hn.Hnf (Hn.cpl n ds).length V D) (Dl : D.length = (Hn.cpl n ds).length) (sp : Hn.Sprd n (Hn.cpl n ds) D D') : DualR n R E scale D' := by
  have asc := Hn.cpl_asc (n := n) (ds := ds)
  have lt : ∀ c ∈ Hn.cpl n ds, c < n := fun c hc => (Hn.cpl_mem.mp hc).1
  obtain ⟨rk1, rk2⟩ := Hn.van_rank eR hM hR hE eE
  have rl : ∀ r ∈ R, r.length = n := fun r hr => by
    obtain ⟨i, hi⟩ := List.mem_iff_getElem?.mp hr
    have : i < cs.length := by rw [eR.len]; exact (List.getElem?_eq_some_iff.mp hi).1
    exact (eR.row i _ r (List.getElem?_eq_getElem this) hi).1
  have out : ∀ v, Hn.Sp (Hn.RL R) v → ∀ j, n ≤ j → v j = 0 := fun v hv j hj => hv.at0 fun u ⟨r, hr, e⟩ => by rw [e]; exact Hn.fv_out (by rw [rl r hr]; exact hj)
  have van : ∀ v, Hn.Sp (Hn.RL R) v → ∀ e ∈ E, Hn.dv n (Hn.fv e) v = 0 := fun v hv e he => by
    have hvr := (hE.span _).mpr (.of ⟨e, he, rfl⟩)
    induction hv with
    | zero => exact Hn.sm_zero fun i _ => by simp
    | @add u w k hu _ ih =>
      obtain ⟨q, hq, rfl⟩ := hu
      rw [Hn.dv_comb, ih, Hn.dv_comm, hvr.2 q hq]; simp
  have dvd : ∀ d' ∈ D', ∃ d ∈ D, ∀ v, Hn.dv n (Hn.fv d') v = Hn.dv (Hn.cpl n ds).length (Hn.fv d) (Hn.prjV (Hn.cpl n ds) v) := fun d' hd' => by
    obtain ⟨d, hd, _, a, b⟩ := sp.get hd'
    exact ⟨d, hd, fun v => Hn.dv_prjV asc lt a fun c _ hc => b c hc⟩
  have dvd2 : ∀ d ∈ D, ∃ d' ∈ D', ∀ v, Hn.dv n (Hn.fv d') v = Hn.dv (Hn.cpl n ds).length (Hn.fv d) (Hn.prjV (Hn.cpl n ds) v) := fun d hd => by
    obtain ⟨d', hd', _, a, b⟩ := sp.got hd
    exact ⟨d', hd', fun v => Hn.dv_prjV asc lt a fun c _ hc => b c hc⟩
  have po : ∀ v, ∀ j, (Hn.cpl n ds).length ≤ j → Hn.prjV (Hn.cpl n ds) v j = 0 := fun v j hj => Hn.prjV_out hj
  refine ⟨hE, dP.pos, fun v hv => ⟨fun h => ⟨van v h, fun d' hd' => ?_⟩, fun ⟨h1, h2⟩ => ?_⟩, fun c h1 h2 => ?_, rk1, by rw [sp.len, Dl, rk2], sp.hnf asc lt hD, fun es ee d' hd' c hc => ?_, fun u q q0 hu hc hr => ?_⟩
  · obtain ⟨d, hd, e⟩ := dvd d' hd'
    rw [e]
    exact (dP.lat _ (po v)).mp ((hP.span _).mp (Hn.prj_sp h)) d hd
  · have h3 : Hn.Sp (Hn.RL P) (Hn.prjV (Hn.cpl n ds) v) := (dP.lat _ (po v)).mpr fun d hd => by
      obtain ⟨d', hd', e⟩ := dvd2 d hd
      rw [← e]
      exact h2 d' hd'
    obtain ⟨w, hw, ew⟩ := Hn.prj_back ((hP.span _).mpr h3)
    have := Hn.pin_cols eE (w := fun j => v j - w j) (fun r hr => ?_) (fun j hj => ?_) (fun c hc => ?_)
    · exact hw.cast fun j => by have := this j; omega
    · have e1 := h1 r hr
      have e2 := van w hw r hr
      have : Hn.dv n (Hn.fv r) (fun j => v j - w j) = Hn.dv n (Hn.fv r) v - Hn.dv n (Hn.fv r) w := by
        have := Hn.dv_sub (n := n) (f := Hn.fv r) (u := v) (v := w) (a := 1) (b := 1)
        simpa using this
      rw [this, e1, e2]; rfl
    · show v j - w j = 0
      rw [hv j hj, out w hw j hj]; rfl
    · show v c - w c = 0
      obtain ⟨i, hi⟩ := List.mem_iff_getElem?.mp hc
      have := congrFun ew i
      rw [Hn.prjV_at hi, Hn.prjV_at hi] at this
      omega
  · refine dP.com c h1 fun r hr j => ?_
    obtain ⟨d', hd', _, a, b⟩ := sp.got hr
    by_cases hj : j < (Hn.cpl n ds).length
    · rw [← a j _ (List.getElem?_eq_getElem hj)]; exact h2 d' hd' _
    · have : Hn.fv r j = 0 := by
        obtain ⟨i, hi⟩ := List.mem_iff_getElem?.mp hr
        obtain ⟨es, ee⟩ := hD.ech
        have il : i < es.length := by rw [ee.len]; exact (List.getElem?_eq_some_iff.mp hi).1
        exact Hn.fv_out (by rw [(ee.row i _ r (List.getElem?_eq_getElem il) hi).1]; omega)
      rw [this]; exact Int.dvd_zero _
  · obtain ⟨d, hd, _, _, b⟩ := sp.get hd'
    exact b c fun hm => (Hn.cpl_mem.mp hm).2 (echR_uniq ee eE ▸ hc)
  · have u0 := hc ds eE
    have key : ∀ y, Hn.dv n u y = Hn.dv (Hn.cpl n ds).length (Hn.prjV (Hn.cpl n ds) u) (Hn.prjV (Hn.cpl n ds) y) := fun y => Hn.dv_prjV asc lt (fun i c hi => (Hn.prjV_at hi).symm) fun c hcn hm => u0 c (Classical.byContradiction fun hn => hm (Hn.cpl_mem.mpr ⟨hcn, hn⟩))
    obtain ⟨w, hw, ew⟩ := dP.all (Hn.prjV (Hn.cpl n ds) u) q q0 (po u) fun p hp => by
      obtain ⟨y, hy, ey⟩ := Hn.prj_back ((hP.span _).mpr (.of ⟨p, hp, rfl⟩))
      rw [← ey, ← key]
      clear ey
      induction hy with
      | zero => exact ⟨0, by rw [Int.mul_zero]; exact Hn.sm_zero fun i _ => by simp⟩
      | @add a b k ha _ ih =>
        obtain ⟨r, hr', rfl⟩ := ha
        rw [Hn.dv_comb]
        exact Int.dvd_add (Int.dvd_mul_of_dvd_right (hr r hr')) ih
    obtain ⟨w', hw', a, b⟩ := sp.sp hw
    refine ⟨w', hw', fun j => ?_⟩
    by_cases hj : j ∈ Hn.cpl n ds
    · obtain ⟨i, hi⟩ := List.mem_iff_getElem?.mp hj
      rw [a i j hi, ← ew i, Hn.prjV_at hi]
    · rw [b j hj, Int.mul_zero]
      by_cases hjn : j < n
      · rw [u0 j (Classical.byContradiction fun hn => hj (Hn.cpl_mem.mpr ⟨hjn, hn⟩)), Int.mul_zero]
      · rw [hu j (by omega), Int.mul_zero]
end Hg

set_option maxHeartbeats 4000000
namespace Hn
/-! ### a form of few vectors: its numbers as a product of as many of theirs -/
def IndL (W : List (List Int)) : Prop := ∀ y : Nat → Int, (∀ x, sm W.length (fun j => y j * gt W j x) = 0) → ∀ j, j < W.length → y j = 0
theorem gt_app {W : List (List Int)} {v : List Int} {j : Nat} (h : j < W.length) : gt (W ++ [v]) j = gt W j := by
  have a : (W ++ [v])[j]? = some W[j] := by rw [List.getElem?_append_left h]; exact List.getElem?_eq_getElem h
  rw [gt_at a, gt_at (List.getElem?_eq_getElem h)]
theorem gt_last {W : List (List Int)} {v : List Int} : gt (W ++ [v]) W.length = fv v :=
  gt_at (by rw [List.getElem?_append_right (Nat.le_refl _), Nat.sub_self]; rfl)
theorem gt_mem {W : List (List Int)} {j : Nat} (h : j < W.length) : ∃ w ∈ W, gt W j = fv w := ⟨W[j], List.getElem_mem _, gt_at (List.getElem?_eq_getElem h)⟩
theorem ind_part : ∀ V : List (List Int), ∃ W : List (List Int), (∀ w ∈ W, w ∈ V) ∧ W.length ≤ V.length ∧ IndL W ∧ ∀ v, Sp (RL V) v → ∃ d : Int, d ≠ 0 ∧ Sp (RL W) fun j => d * v j
  | [] => ⟨[], by simp, Nat.le_refl _, fun y _ j hj => by simp at hj, fun v hv => ⟨1, by decide, hv.cast fun j => by omega⟩⟩
  | v :: V => by
    obtain ⟨W, h1, h2, h3, h4⟩ := ind_part V
    by_cases h : ∃ d : Int, d ≠ 0 ∧ Sp (RL W) fun j => d * fv v j
    · obtain ⟨d, d0, hd⟩ := h
      refine ⟨W, fun w hw => List.mem_cons_of_mem _ (h1 w hw), by rw [List.length_cons]; omega, h3, fun u hu => ?_⟩
      obtain ⟨k, w, hw, e⟩ := hu.head
      obtain ⟨d', d'0, hd'⟩ := h4 w hw
      refine ⟨d * d', Int.mul_ne_zero d0 d'0, ((hd.mul (k * d')).plus (hd'.mul d)).cast fun j => ?_⟩
      rw [e j]; grind
    · refine ⟨W ++ [v], fun w hw => ?_, by rw [List.length_append, List.length_cons]; show W.length + 1 ≤ V.length + 1; omega, fun y hy => ?_, fun u hu => ?_⟩
      · rcases List.mem_append.mp hw with hw | hw
        · exact List.mem_cons_of_mem _ (h1 w hw)
        · rw [List.mem_singleton.mp hw]; exact .head _
      · have el : (W ++ [v]).length = W.length + 1 := by simp
        rw [el] at hy ⊢
        have hy' : ∀ x, sm W.length (fun j => y j * gt W j x) + y W.length * fv v x = 0 := fun x => by
          have := hy x
          have e : sm (W.length + 1) (fun j => y j * gt (W ++ [v]) j x) = sm W.length (fun j => y j * gt (W ++ [v]) j x) + y W.length * gt (W ++ [v]) W.length x := rfl
          rw [e, gt_last] at this
          rw [← this]
          congr 1
          exact sm_congr fun j hj => by rw [gt_app hj]
        have z : y W.length = 0 := Classical.byContradiction fun hz => h ⟨y W.length, hz, by
          have s := Lat.sum (Lat.sp (RL W)) (T := fun j => gt W j) (fun j => - y j) (m := W.length) fun s hs => by
            obtain ⟨w, hw, e⟩ := gt_mem hs
            exact .of ⟨w, hw, e⟩
          refine Lat.cast s fun x => ?_
          have := hy' x
          have e : sm W.length (fun s => - y s * gt W s x) = (-1) * sm W.length fun s => y s * gt W s x := by
            rw [← sm_mul]
            exact sm_congr fun s _ => by grind
          rw [e]
          omega⟩
        have r := h3 y fun x => by
          have := hy' x
          rw [z, Int.zero_mul, Int.add_zero] at this
          exact this
        intro j hj
        by_cases e : j = W.length
        · rw [e]; exact z
        · exact r j (by omega)
      · obtain ⟨k, w, hw, e⟩ := hu.head
        obtain ⟨d', d'0, hd'⟩ := h4 w hw
        have a1 : Sp (RL (W ++ [v])) fun j => d' * w j := hd'.trans fun u ⟨r, hr, e⟩ => .of ⟨r, List.mem_append_left _ hr, e⟩
        have a2 : Sp (RL (W ++ [v])) (fv v) := .of ⟨v, by simp, rfl⟩
        refine ⟨d', d'0, ((a2.mul (d' * k)).plus a1).cast fun j => ?_⟩
        rw [e j]; grind
theorem pin_zero {n : Nat} {cs : List Nat} {C : List (List Int)} (e : EchR n cs C) {v : Vc} (hv : Sp (RL C) v) (h : ∀ c ∈ cs, v c = 0) (j : Nat) : v j = 0 := by
  rcases e.lead hv with z | ⟨i, c, r, h1, _, _, h4, _⟩
  · exact z j
  · exact absurd (h c (List.mem_of_getElem? h1)) h4
theorem dvd_all {f : Nat → Int} : ∀ r : Nat, (∀ k, k < r → f k ≠ 0) → ∃ D : Int, D ≠ 0 ∧ ∀ k, k < r → f k ∣ D
  | 0, _ => ⟨1, by decide, fun k hk => by omega⟩
  | r + 1, h => by
    obtain ⟨D, d0, hD⟩ := dvd_all r fun k hk => h k (by omega)
    refine ⟨D * f r, Int.mul_ne_zero d0 (h r (by omega)), fun k hk => ?_⟩
    by_cases e : k = r
    · rw [e]; exact Int.dvd_mul_left _ _
    · exact Int.dvd_mul_of_dvd_left (hD k (by omega))
/-- the numbers of the form of few vectors -/
theorem hnf_few {n B : Nat} {V C : List (List Int)} (hB : 1 ≤ B) (hV : ∀ v ∈ V, bnd B (fv v)) (hC : Hnf n (Sp (RL V)) C) : ∀ r ∈ C, bnd (V.length * (V.length * ((2 * V.length * B) ^ (V.length - 1) * B))) (fv r) := by
  obtain ⟨cs, eC⟩ := hC.ech
  have cl := eC.len
  obtain ⟨W, w1, w2, w3, w4⟩ := ind_part V
  have Cv : ∀ r ∈ C, Sp (RL V) (fv r) := fun r hr => (hC.span _).mpr (.of ⟨r, hr, rfl⟩)
  have WC : ∀ u, Sp (RL W) u → Sp (RL C) u := fun u hu => (hC.span _).mp (hu.trans fun x ⟨r, hr, e⟩ => .of ⟨r, w1 r hr, e⟩)
  have cat : ∀ i, i < C.length → cs[i]? = some (cs.getD i 0) := fun i hi => by
    rw [List.getD_eq_getElem?_getD, List.getElem?_eq_getElem (by omega)]; rfl
  have row : ∀ i, i < C.length → gt C i = fv (C.getD i []) ∧ (∀ j, j < cs.getD i 0 → gt C i j = 0) ∧ 0 < gt C i (cs.getD i 0) := fun i hi => by
    have hr : C[i]? = some C[i] := List.getElem?_eq_getElem hi
    have := eC.row i _ _ (cat i hi) hr
    have e : gt C i = fv C[i] := gt_at hr
    exact ⟨rfl, fun j hj => by rw [e]; exact this.2.1 j hj, by rw [e]; exact this.2.2⟩
  -- as many independent vectors as rows
  have rq : C.length ≤ W.length := by
    refine Classical.byContradiction fun hlt => ?_
    have key : ∀ i, ∃ dt : Int × (Nat → Int), i < C.length → dt.1 ≠ 0 ∧ ∀ x, dt.1 * gt C i x = sm W.length fun j => dt.2 j * gt W j x := fun i => by
      by_cases hi : i < C.length
      · obtain ⟨w, hw, e⟩ := gt_mem hi
        obtain ⟨d, d0, hd⟩ := w4 _ (Cv w hw)
        obtain ⟨t, ht⟩ := RL_coef hd
        exact ⟨(d, t), fun _ => ⟨d0, fun x => by rw [e]; exact ht x⟩⟩
      · exact ⟨(0, fun _ => 0), fun h => absurd h hi⟩
    obtain ⟨dt, hdt⟩ := Classical.axiomOfChoice key
    obtain ⟨M, hM⟩ : ∃ M : Nat, 1 ≤ M ∧ ∀ e i, e < W.length → i < C.length → ((dt i).2 e).natAbs ≤ M := by
      have one : ∀ (f : Nat → Nat → Nat) (a b : Nat), ∃ M : Nat, 1 ≤ M ∧ ∀ e i, e < a → i < b → f e i ≤ M := fun f a b => by
        induction a with
        | zero => exact ⟨1, Nat.le_refl _, fun e i he => by omega⟩
        | succ a ih =>
          obtain ⟨M, m1, m2⟩ := ih
          have two : ∃ M : Nat, ∀ i, i < b → f a i ≤ M := by
            induction b with
            | zero => exact ⟨0, fun i hi => by omega⟩
            | succ b ihb =>
              obtain ⟨M', m'⟩ := ihb (fun e i he hi => m2 e i he (by omega))
              refine ⟨max M' (f a b), fun i hi => ?_⟩
              by_cases e : i = b
              · rw [e]; omega
              · have := m' i (by omega); omega
          obtain ⟨M', m'⟩ := two
          refine ⟨max M M', by omega, fun e i he hi => ?_⟩
          by_cases h : e = a
          · rw [h]; have := m' i hi; omega
          · have := m2 e i (by omega) hi; omega
      exact one (fun e i => ((dt i).2 e).natAbs) _ _
    obtain ⟨z, ⟨i0, hi0, z0⟩, _, ze⟩ := siegel (k := C.length) (t := W.length) (by omega) hM.1 (fun e i => (dt i).2 e) hM.2
    have s0 : ∀ x, sm C.length (fun i => (z i * (dt i).1) * gt C i x) = 0 := fun x => by
      have e1 : sm C.length (fun i => (z i * (dt i).1) * gt C i x) = sm C.length fun i => sm W.length fun j => (dt i).2 j * z i * gt W j x := sm_congr fun i hi => by
        rw [Int.mul_assoc, (hdt i hi).2 x, ← sm_mul]
        exact sm_congr fun j _ => by grind
      rw [e1, sm_swap]
      refine sm_zero fun j hj => ?_
      rw [sm_mulr, ze j hj, Int.zero_mul]
    have all0 : ∀ m i, i < C.length → i < m → z i * (dt i).1 = 0 := fun m => by
      induction m with
      | zero => exact fun i _ h => by omega
      | succ m ih =>
        intro i hi him
        by_cases e : i = m
        · subst e
          have := s0 (cs.getD i 0)
          rw [sm_one hi fun k hk hne => ?_] at this
          · exact (Int.mul_eq_zero.mp this).resolve_right (by have := (row i hi).2.2; omega)
          · by_cases hki : k < i
            · rw [ih k hk hki, Int.zero_mul]
            · rw [(row k hk).2.1 _ (asc_lt eC.asc (by omega : i < k) (cat i hi) (cat k hk)), Int.mul_zero]
        · exact ih i hi (by omega)
    have := all0 (i0 + 1) i0 hi0 (by omega)
    exact (Int.mul_eq_zero.mp this).elim z0 (hdt i0 hi0).1
  -- a vector for each pivot
  let X := W.length * ((2 * W.length * B) ^ (C.length - 1) * B)
  have wv : ∀ k, ∃ w : Vc, k < C.length → Sp (RL C) w ∧ (∀ l, l < C.length → l ≠ k → w (cs.getD l 0) = 0) ∧ w (cs.getD k 0) ≠ 0 ∧ gt C k (cs.getD k 0) ∣ w (cs.getD k 0) ∧ bnd X w := fun k => by
    by_cases hk : k < C.length
    · obtain ⟨y, ⟨j0, hj0, y0⟩, yb, ye⟩ := siegel (k := W.length) (t := C.length - 1) (M := B) (by omega) hB (fun e j => gt W j (cs.getD (if e < k then e else e + 1) 0)) fun e j he hj => by
        obtain ⟨w, hw, ew⟩ := gt_mem hj
        rw [ew]
        exact hV w (w1 w hw) _
      have sW : Sp (RL W) fun x => sm W.length fun j => y j * gt W j x := Lat.sum (Lat.sp (RL W)) (T := fun j => gt W j) y fun s hs => by
        obtain ⟨w, hw, e⟩ := gt_mem hs
        exact .of ⟨w, hw, e⟩
      have sC := WC _ sW
      have zl : ∀ l, l < C.length → l ≠ k → (fun x => sm W.length fun j => y j * gt W j x) (cs.getD l 0) = 0 := fun l hl hne => by
        have : ∃ e, e < C.length - 1 ∧ (if e < k then e else e + 1) = l := by
          by_cases h : l < k
          · exact ⟨l, by omega, if_pos h⟩
          · exact ⟨l - 1, by omega, by rw [if_neg (by omega)]; omega⟩
        obtain ⟨e, he, el⟩ := this
        have := ye e he
        rw [el] at this
        show sm W.length (fun j => y j * gt W j (cs.getD l 0)) = 0
        rw [← this]
        exact sm_congr fun j _ => Int.mul_comm _ _
      refine ⟨_, fun _ => ⟨sC, zl, ?_⟩⟩
      have nz : ¬ ∀ x, (fun x => sm W.length fun j => y j * gt W j x) x = 0 := fun h => y0 (w3 y h j0 hj0)
      rcases eC.lead sC with h | ⟨i, c, r, h1, h2, h3, h4, q, h5⟩
      · exact absurd h nz
      · have hi : i < C.length := (List.getElem?_eq_some_iff.mp h2).1
        have ec : c = cs.getD i 0 := by have := cat i hi; rw [h1] at this; exact Option.some.inj this
        have eik : i = k := Classical.byContradiction fun hne => h4 (ec ▸ zl i hi hne)
        subst eik
        subst ec
        refine ⟨h4, ⟨q, by rw [h5, gt_at h2, Int.mul_comm]⟩, fun x => ?_⟩
        refine sm_abs fun j hj => ?_
        rw [Int.natAbs_mul]
        obtain ⟨w, hw, ew⟩ := gt_mem hj
        rw [ew]
        exact Nat.mul_le_mul (yb j hj) (hV w (w1 w hw) x)
    · exact ⟨fun _ => 0, fun h => absurd h hk⟩
  obtain ⟨w, hw⟩ := Classical.axiomOfChoice wv
  intro r hr x
  obtain ⟨i, hi⟩ := List.mem_iff_getElem?.mp hr
  have il := (List.getElem?_eq_some_iff.mp hi).1
  obtain ⟨D, d0, hD⟩ := dvd_all (f := fun k => w k (cs.getD k 0)) C.length fun k hk => (hw k hk).2.2.1
  have hE : ∀ k, ∃ e : Int, k < C.length → e * w k (cs.getD k 0) = D := fun k => by
    by_cases hk : k < C.length
    · obtain ⟨e, he⟩ := hD k hk
      exact ⟨e, fun _ => by rw [he, Int.mul_comm]⟩
    · exact ⟨0, fun h => absurd h hk⟩
  obtain ⟨E, hE⟩ := Classical.axiomOfChoice hE
  have red : ∀ k, k < C.length → (fv r (cs.getD k 0)).natAbs ≤ (w k (cs.getD k 0)).natAbs := fun k hk => by
    have h1 := (hw k hk).2.2.2.1
    have h2 := (hw k hk).2.2.1
    have h3 := Nat.le_of_dvd (by omega) (Int.natAbs_dvd_natAbs.mpr h1)
    refine Nat.le_trans ?_ h3
    have hk' : C[k]? = some C[k] := List.getElem?_eq_getElem hk
    have eg : gt C k = fv C[k] := gt_at hk'
    rcases Nat.lt_trichotomy i k with h | h | h
    · have := hC.red eC i k _ _ _ h (cat k hk) hi hk'
      rw [eg]; omega
    · subst h
      rw [hi] at hk'
      rw [eg]
      cases hk'
      exact Nat.le_refl _
    · have := (row i il).2.1 _ (asc_lt eC.asc h (cat k hk) (cat i il))
      rw [gt_at hi] at this
      rw [this]; simp
  have id : D * fv r x = sm C.length fun k => E k * fv r (cs.getD k 0) * w k x := by
    have s1 : Sp (RL C) fun x => D * fv r x := (Sp.of ⟨r, hr, rfl⟩ : Sp (RL C) (fv r)).mul D
    have s2 : Sp (RL C) fun x => sm C.length fun k => E k * fv r (cs.getD k 0) * w k x := Lat.sum (Lat.sp (RL C)) (T := w) (fun k => E k * fv r (cs.getD k 0)) fun k hk => (hw k hk).1
    have z := pin_zero eC (Lat.sub (Lat.sp (RL C)) s1 s2) (fun c hc => by
      obtain ⟨l, hl⟩ := List.mem_iff_getElem?.mp hc
      have ll : l < C.length := by have := (List.getElem?_eq_some_iff.mp hl).1; omega
      have ec : c = cs.getD l 0 := by have := cat l ll; rw [hl] at this; exact Option.some.inj this
      subst ec
      rw [sm_one ll fun k hk hne => by rw [(hw k hk).2.1 l ll (Ne.symm hne), Int.mul_zero]]
      have := hE l ll
      rw [← this]
      grind) x
    omega
  have ab : D.natAbs * (fv r x).natAbs ≤ C.length * (D.natAbs * X) := by
    rw [← Int.natAbs_mul, id]
    refine sm_abs fun k hk => ?_
    rw [Int.natAbs_mul, Int.natAbs_mul]
    have e1 : (E k).natAbs * (w k (cs.getD k 0)).natAbs = D.natAbs := by rw [← Int.natAbs_mul, hE k hk]
    have e2 := (hw k hk).2.2.2.2 x
    refine Nat.mul_le_mul ?_ e2
    rw [← e1]
    exact Nat.mul_le_mul_left _ (red k hk)
  have dn : 0 < D.natAbs := by omega
  have fin : (fv r x).natAbs ≤ C.length * X := by
    refine Nat.le_of_mul_le_mul_left ?_ dn
    rw [Nat.mul_left_comm]
    exact ab
  refine Nat.le_trans fin ?_
  have Vl : W.length ≤ V.length := w2
  refine Nat.mul_le_mul (by omega) (Nat.mul_le_mul Vl (Nat.mul_le_mul_right _ ?_))
  have q1 : 1 ≤ 2 * V.length * B := Nat.mul_pos (by omega) hB
  exact Nat.le_trans (Nat.pow_le_pow_left (Nat.mul_le_mul_right _ (Nat.mul_le_mul_left _ Vl)) _) (Nat.pow_le_pow_right q1 (by omega))
end Hn

set_option maxHeartbeats 4000000
namespace Hn
/-! ### the law's way to a basis, its numbers apart from the pivots -/
structure BQ (n : Nat) (cs : List Nat) (Z A : Nat) (R : List (List Int)) (i k : Nat) : Prop where
  b : BI n cs Z R i k
  pv : ∀ (j c : Nat) (r : List Int), cs[j]? = some c → R[j]? = some r → (fv r c).natAbs ≤ Z
  raw : ∀ (j c : Nat) (r : List Int), i ≤ j → cs[j]? = some c → R[j]? = some r → ∀ x, x ≠ c → (fv r x).natAbs ≤ A
  low : ∀ (j : Nat) (r : List Int), k ≤ j → R[j]? = some r → ∀ x, (∀ j', cs[j']? = some x → i ≤ j' ∧ j' ≠ j) → (fv r x).natAbs ≤ A * (1 + A) ^ i
  all : ∀ (j : Nat) (r : List Int), R[j]? = some r → ∀ x, (∀ j', cs[j']? = some x → i + 1 ≤ j' ∧ j' ≠ j) → (fv r x).natAbs ≤ A * (1 + A) ^ (i + 1)
theorem BQ.start {n Z A : Nat} {cs : List Nat} {R : List (List Int)} (e : EchR n cs R) (h : ∀ r ∈ R, bnd Z (fv r)) (ha : ∀ (j c : Nat) (r : List Int), cs[j]? = some c → R[j]? = some r → ∀ x, x ≠ c → (fv r x).natAbs ≤ A) : BQ n cs Z A R 0 0 := by
  have el := e.len
  have own : ∀ (j : Nat) (r : List Int), R[j]? = some r → ∀ x, (∀ j', cs[j']? = some x → j' ≠ j) → (fv r x).natAbs ≤ A := fun j r hr x hx => by
    have hj := (List.getElem?_eq_some_iff.mp hr).1
    have hc : cs[j]? = some (cs[j]'(by omega)) := List.getElem?_eq_getElem _
    exact ha j _ r hc hr x fun ex => hx j (ex ▸ hc) rfl
  refine ⟨BI.start e h, fun j c r h1 h2 => h r (List.mem_of_getElem? h2) c, fun j c r _ h1 h2 => ha j c r h1 h2, fun j r _ hr x hx => ?_, fun j r hr x hx => ?_⟩
  · rw [Nat.pow_zero, Nat.mul_one]; exact own j r hr x fun j' h => (hx j' h).2
  · exact Nat.le_trans (own j r hr x fun j' h => (hx j' h).2) (Nat.le_mul_of_pos_right _ (Nat.pow_pos (by omega)))
theorem BQ.next {n Z A : Nat} {cs : List Nat} {R : List (List Int)} {i : Nat} (h : BQ n cs Z A R i i) : BQ n cs Z A R (i + 1) 0 :=
  ⟨h.b.next, h.pv, fun j c r h1 => h.raw j c r (by omega), fun j r _ hr x hx => h.all j r hr x hx,
    fun j r hr x hx => Nat.le_trans (h.all j r hr x fun j' hj => ⟨by have := (hx j' hj).1; omega, (hx j' hj).2⟩) (Nat.mul_le_mul_left _ (Nat.pow_le_pow_right (by omega) (by omega)))⟩
theorem BQ.step {n Z A : Nat} {cs : List Nat} {R : List (List Int)} {i k c : Nat} {rh rl : List Int} (h : BQ n cs Z A R i k) (hk : k < i) (hc : cs[i]? = some c) (hh : R[k]? = some rh) (hl : R[i]? = some rl) : BQ n cs Z A (R.set k (plusL (0 - fv rh c / fv rl c) rl rh)) i (k + 1) := by
  have b := h.b
  obtain ⟨l1, l2, l3⟩ := b.e.row i c rl hc hl
  have kl := (List.getElem?_eq_some_iff.mp hh).1
  have kcl : k < cs.length := by rw [b.e.len]; exact kl
  have hck : cs[k]? = some cs[k] := List.getElem?_eq_getElem kcl
  generalize cs[k] = ck at hck
  obtain ⟨h1, h2, h3⟩ := b.e.row k ck rh hck hh
  have ckc : ck < c := asc_lt b.e.asc hk hck hc
  have hll : rl.length = rh.length := by rw [l1, h1]
  have bs := b.step hk hc hh hl
  generalize hf : (0 - fv rh c / fv rl c) = f at bs ⊢
  have inj : ∀ j', cs[j']? = some c → j' = i := fun j' hj' => by
    rcases Nat.lt_trichotomy j' i with g | g | g
    · have := asc_lt b.e.asc g hj' hc; omega
    · exact g
    · have := asc_lt b.e.asc g hc hj'; omega
  have fb : f.natAbs ≤ A * (1 + A) ^ i := by
    have a := h.low k rh (Nat.le_refl k) hh c fun j' hj' => by have := inj j' hj'; omega
    have := Int.natAbs_ediv_le_natAbs (fv rh c) (fv rl c)
    omega
  have newr : ∀ j, fv (plusL f rl rh) j = f * fv rl j + fv rh j := fv_plus hll
  have newb : ∀ x, (∀ j', cs[j']? = some x → i + 1 ≤ j' ∧ j' ≠ k) → (fv (plusL f rl rh) x).natAbs ≤ A * (1 + A) ^ (i + 1) := fun x hx => by
    have xc : x ≠ c := fun e => by have := (hx i (e ▸ hc)).1; omega
    have a1 := h.raw i c rl (Nat.le_refl i) hc hl x xc
    have a2 := h.low k rh (Nat.le_refl k) hh x fun j' hj' => ⟨by have := (hx j' hj').1; omega, (hx j' hj').2⟩
    rw [newr]
    have a3 : (f * fv rl x).natAbs ≤ A * (1 + A) ^ i * A := by
      rw [Int.natAbs_mul]; exact Nat.mul_le_mul fb a1
    have a4 := Int.natAbs_add_le (f * fv rl x) (fv rh x)
    rw [Nat.pow_succ, ← Nat.mul_assoc, Nat.mul_add, Nat.mul_one]
    omega
  have at_ : ∀ (j : Nat) (r : List Int), (R.set k (plusL f rl rh))[j]? = some r → (j = k ∧ r = plusL f rl rh) ∨ (j ≠ k ∧ R[j]? = some r) := fun j r h => by
    rw [List.getElem?_set] at h
    by_cases e : k = j
    · rw [if_pos e, if_pos kl] at h; cases h; exact .inl ⟨e.symm, rfl⟩
    · rw [if_neg e] at h; exact .inr ⟨Ne.symm e, h⟩
  refine ⟨bs, fun j c' r g1 g2 => ?_, fun j c' r g0 g1 g2 => ?_, fun j r g1 g2 => ?_, fun j r g2 => ?_⟩
  · rcases at_ j r g2 with ⟨rfl, rfl⟩ | ⟨_, g⟩
    · rw [hck] at g1
      cases g1
      rw [newr, l2 _ ckc, Int.mul_zero, Int.zero_add]
      exact h.pv _ _ _ hck hh
    · exact h.pv j c' r g1 g
  · rcases at_ j r g2 with ⟨rfl, rfl⟩ | ⟨_, g⟩
    · omega
    · exact h.raw j c' r g0 g1 g
  · rcases at_ j r g2 with ⟨rfl, rfl⟩ | ⟨_, g⟩
    · omega
    · exact h.low j r (by omega) g
  · rcases at_ j r g2 with ⟨rfl, rfl⟩ | ⟨_, g⟩
    · exact newb
    · exact h.all j r g
theorem BQ.fin {n Z A : Nat} {cs : List Nat} {R : List (List Int)} (h : BQ n cs Z A R R.length 0) : ∀ r ∈ R, ∀ x, (x ∈ cs → (fv r x).natAbs ≤ Z) ∧ (x ∉ cs → (fv r x).natAbs ≤ A * (1 + A) ^ R.length) := fun r hr x => by
  obtain ⟨j, hj⟩ := List.mem_iff_getElem?.mp hr
  have jl := (List.getElem?_eq_some_iff.mp hj).1
  have e := h.b.e
  have el := e.len
  refine ⟨fun hx => ?_, fun hx => h.low j r (Nat.zero_le _) hj x fun j' hj' => absurd (List.mem_of_getElem? hj') hx⟩
  obtain ⟨m, hm⟩ := List.mem_iff_getElem?.mp hx
  have ml := (List.getElem?_eq_some_iff.mp hm).1
  have hr' : R[m]? = some (R[m]'(by omega)) := List.getElem?_eq_getElem _
  generalize R[m]'(by omega) = rm at hr'
  have pm := h.pv m x rm hm hr'
  rcases Nat.lt_trichotomy j m with g | g | g
  · have := h.b.red j m x r rm g (.inl (by omega)) hm hj hr'
    omega
  · subst g
    rw [hj] at hr'
    cases hr'
    exact pm
  · have hc : cs[j]? = some (cs[j]'(by omega)) := List.getElem?_eq_getElem _
    have := (e.row j _ r hc hj).2.1 x (asc_lt e.asc g hm hc)
    rw [this]; simp
end Hn

set_option maxHeartbeats 4000000
namespace Hg
open PySem PySem.Spec PyProof.Rows L2
/-! ### k06 -/
def sp_l_basisB (_ : PySem.W.Frag) : Sp := fun vs H Q _ => ∃ (s q : Addr) (B n : Nat) (G : Hp), vs = [.ref s, .int (n : Nat)] ∧ 1 ≤ n ∧ n ≤ 7 ∧ Ov s q B G H ∧ B < 800000 ∧
  ∀ (p : Addr) (as : List Addr) (cs : List Nat) (R : List (List Int)) (G' H' : Hp), Ex G G' → Ov s q (B + 300) G' H' → G' p = some (.tup (as.map V.ref)) → RowsIn G' as R → Hn.EchR n cs R → Hn.Hnf n (Hn.Sp (Hn.RL R)) R → (∀ r ∈ R, Hn.bnd (2 ^ 466) (Hn.fv r)) → Q (.ref p) H'
end Hg
namespace Hg
open PySem PySem.Spec PyProof.Rows L2
theorem crd_uniq {n : Nat} {cs : List Nat} {R : List (List Int)} (e : Hn.EchR n cs R) {fs gs : List Int} (fl : fs.length = R.length) (gl : gs.length = R.length) (h : ∀ j, Hn.sm R.length (fun s => fs.getD s 0 * Hn.gt R s j) = Hn.sm R.length fun s => gs.getD s 0 * Hn.gt R s j) : fs = gs := by
  have z := e.tri.coef (z := fun s => fs.getD s 0 - gs.getD s 0) (v := fun _ => 0) (fun j => by
    have e1 : Hn.sm R.length (fun s => (fs.getD s 0 - gs.getD s 0) * Hn.gt R s j) = Hn.sm R.length fun s => fs.getD s 0 * Hn.gt R s j + (-1) * (gs.getD s 0 * Hn.gt R s j) := Hn.sm_congr fun s _ => by grind
    rw [e1, Hn.sm_add, Hn.sm_mul, h j]
    omega) (Nat.le_refl _) fun _ _ => rfl
  refine List.ext_getElem (by omega) fun i h1 h2 => ?_
  have := z i (by omega)
  rw [List.getD_eq_getElem?_getD, List.getD_eq_getElem?_getD, List.getElem?_eq_getElem h1, List.getElem?_eq_getElem h2] at this
  show fs[i] = gs[i]
  have t : fs[i] - gs[i] = 0 := this
  omega
theorem shw_int16 {i : Int} (h : i.natAbs ≤ 2 ^ 1640) : Shw (.int i) 510 := by
  refine ⟨decide_eq_true (Nat.lt_of_le_of_lt (Hn.log_le h) (by decide)), rfl, ?_⟩
  have e := int_text_length_le10 (a := i) (k := 495) (by decide) (Nat.lt_of_le_of_lt h (by decide +kernel))
  show (Str.ofString (toString i)).length ≤ 510
  rw [PySem.ofString_length]
  omega
theorem shw_row16 {k : Bool} {r : List Int} (l : r.length ≤ 7) (b : Hn.bnd (2 ^ 1640) (Hn.fv r)) : Shw (rowD k r) 3600 ∧ (rowD k r).depth ≤ 2 := by
  have each : ∀ d ∈ r.map PyData.int, Shw d 510 ∧ d.depth ≤ 1 := fun d hd => by
    obtain ⟨x, hx, rfl⟩ := List.mem_map.mp hd
    obtain ⟨j, hj⟩ := List.mem_iff_getElem?.mp hx
    have := b j
    rw [Hn.fv_at hj] at this
    exact ⟨shw_int16 this, by simp [PyData.depth]⟩
  have s := shw_seq (fun d hd => (each d hd).1) k
  have dd := depthAll_le fun d hd => (each d hd).2
  rw [List.length_map] at s
  refine ⟨shw_up s (by omega), ?_⟩
  cases k with
  | true => show PyData.depthAll _ + 1 ≤ 2; omega
  | false => show PyData.depthAll _ + 1 ≤ 2; omega
theorem rows_dp16 {K : PySem.W.Frag} {k : Bool} {H : Hp} {p : Addr} {ys : List V} {rows : List (List Int)} (hs : SqK K k H p ys) (hr : RowsK K H ys rows) (hl : rows.length ≤ 7) (hb : ∀ r ∈ rows, r.length ≤ 7 ∧ Hn.bnd (2 ^ 1640) (Hn.fv r)) : ∃ d, Dp K H (.ref p) d ∧ Shw d 26000 ∧ d.depth ≤ 3 := by
  obtain ⟨ds, hds, ks, rfl, hks⟩ := hr.dp
  have each : ∀ d ∈ List.zipWith rowD ks rows, Shw d 3600 ∧ d.depth ≤ 2 := fun d hd => by
    obtain ⟨k, r, hm, rfl⟩ := mem_zip hd
    obtain ⟨l, bd⟩ := hb r hm
    exact shw_row16 l bd
  have s := shw_seq (fun d hd => (each d hd).1) k
  have dd := depthAll_le fun d hd => (each d hd).2
  have zl : (List.zipWith rowD ks rows).length ≤ 7 := by rw [List.length_zipWith]; omega
  refine ⟨if k then .tuple (List.zipWith rowD ks rows) else .list (List.zipWith rowD ks rows), ?_, shw_up s ?_, ?_⟩
  · cases k with
    | true => exact .tup hs hds
    | false => exact .lst hs hds
  · have := Nat.mul_le_mul_right 3600 zl
    omega
  · cases k with
    | true => show PyData.depthAll _ + 1 ≤ 3; omega
    | false => show PyData.depthAll _ + 1 ≤ 3; omega
theorem row_dp16 {K : PySem.W.Frag} {k : Bool} {H : Hp} {p : Addr} {r : List Int} (hs : SqK K k H p (iV r)) (l : r.length ≤ 7) (b : Hn.bnd (2 ^ 1640) (Hn.fv r)) : ∃ d, Dp K H (.ref p) d ∧ Shw d 26000 ∧ d.depth ≤ 3 := by
  obtain ⟨h1, h2⟩ := shw_row16 (k := k) l b
  refine ⟨rowD k r, ?_, shw_up h1 (by decide), by omega⟩
  cases k with
  | true => exact dp_t hs
  | false => exact dp_l hs
theorem shw_pair16 {d e : PyData} (h1 : Shw d 26000 ∧ d.depth ≤ 3) (h2 : Shw e 26000 ∧ e.depth ≤ 3) : (PyData.list [d, e]).showable = true ∧ (PyData.list [d, e]).hasDict = false ∧ (PyData.list [d, e]).depth ≤ 20 ∧ (PyData.list [d, e]).shown.length ≤ sizeLine := by
  have h : ∀ x ∈ [d, e], Shw x 26000 ∧ x.depth ≤ 3 := fun x hx => by
    simp only [List.mem_cons, List.not_mem_nil, or_false] at hx
    rcases hx with rfl | rfl
    · exact h1
    · exact h2
  have s := shw_seq (fun d hd => (h d hd).1) false
  have dd := depthAll_le fun d hd => (h d hd).2
  refine ⟨s.s, s.h, ?_, Nat.le_trans s.l ?_⟩
  · show PyData.depthAll _ + 1 ≤ 20; omega
  · rw [sizeLine_eq]
    show 2 * 26000 + 2 * 2 + 3 ≤ _
    decide
end Hg
namespace Hg
open PySem PySem.Spec PyProof.Rows L2
theorem lst_or {K : PySem.W.Frag} {G G' : Hp} {p a : Addr} {k : Bool} {xs : List V} {rows : List (List Int)} (h : p = a ∨ LstN G G' p rows) (e : Ex G G') (ha : SqK K k G a xs) (hr : RowsK K G xs rows) : ∃ (k' : Bool) (ys : List V), SqK K k' G' p ys ∧ RowsK K G' ys rows := by
  rcases h with rfl | ⟨ys, h1, h2, h3, h4⟩
  · exact ⟨k, xs, e.seq ha, hr.ex e⟩
  · refine ⟨false, ys, SqK.lst h2, h3, fun i y r g1 g2 => ?_⟩
    obtain ⟨b, rfl, _, b3⟩ := h4 i y r g1 g2
    exact ⟨false, b, rfl, SqK.lst b3⟩
theorem flat_or {K : PySem.W.Frag} {G G' : Hp} {p a : Addr} {k : Bool} {ns : List Int} (h : p = a ∨ FlatN G G' p ns) (e : Ex G G') (ha : SqK K k G a (iV ns)) : ∃ k' : Bool, SqK K k' G' p (iV ns) := by
  rcases h with rfl | ⟨h1, h2⟩
  · exact ⟨k, e.seq ha⟩
  · exact ⟨false, SqK.lst h2⟩
/-- a tuple with one number otherwise -/
theorem beside_l {n k B : Nat} {v : List Int} {d : Int} (vl : v.length = n) (hk : k < n) (vb : Hn.bnd (2 ^ 536) (Hn.fv v)) (db : d.natAbs ≤ 6) : (v.take k ++ [v.getD k 0 + d] ++ v.drop (k + 1)).length = n ∧ Hn.bnd (2 ^ 537) (Hn.fv (v.take k ++ [v.getD k 0 + d] ++ v.drop (k + 1))) := by
  have l : (v.take k ++ [v.getD k 0 + d] ++ v.drop (k + 1)).length = n := by
    rw [List.length_append, List.length_append, List.length_take, List.length_drop, vl]
    show min k n + 1 + (n - (k + 1)) = n
    omega
  refine ⟨l, bnd_of fun x hx => ?_⟩
  have one : ∀ y ∈ v, y.natAbs ≤ 2 ^ 536 := fun y hy => by
    obtain ⟨j, hj⟩ := List.mem_iff_getElem?.mp hy
    have := vb j
    rwa [Hn.fv_at hj] at this
  have e : (2 : Nat) ^ 537 = 2 ^ 536 + 2 ^ 536 := by rw [Nat.pow_succ, Nat.mul_two]
  have big : 6 ≤ 2 ^ 536 := Nat.le_trans (show 6 ≤ 2 ^ 3 by decide) (Nat.pow_le_pow_right (by decide) (by decide))
  generalize (2 : Nat) ^ 537 = X at e ⊢
  generalize (2 : Nat) ^ 536 = Y at e one big
  rcases List.mem_append.mp hx with hx | hx
  · rcases List.mem_append.mp hx with hx | hx
    · have := one x (List.mem_of_mem_take hx); omega
    · rw [List.mem_singleton.mp hx]
      have : v.getD k 0 ∈ v := by
        rw [List.getD_eq_getElem?_getD, List.getElem?_eq_getElem (by omega)]
        exact List.getElem_mem _
      have := one _ this
      omega
  · have := one x (List.mem_of_mem_drop hx); omega
end Hg
namespace Hg
open PySem PySem.Spec PyProof.Rows L2
theorem cat_tupB {K : PySem.W.Frag} {H : Hp} {a b : Addr} {xs ys : List Int} {Q : VK} (ha : H a = some (.tup (iV xs))) (hb : H b = some (.tup (iV ys))) (h3 : xs.length + ys.length ≤ 1000) (q : ∀ (p : Addr) (H' : Hp), Ex H H' → H' p = some (.tup (iV (xs ++ ys))) → Q (.ref p) H') : rPlus K (.ref a) (.ref b) H Q := by
  refine .inr (.inr (.inl ⟨a, b, _, _, rfl, rfl, SqT.of ha, SqT.of hb, by rw [List.length_map, List.length_map, sizeLine_eq]; omega, fun e => ?_, fun _ e => ?_, fun _ _ p hp => ?_⟩))
  · rw [List.map_eq_nil_iff] at e; subst e; exact q b H (Ex.refl H) hb
  · rw [List.map_eq_nil_iff] at e; subst e; exact q a H (Ex.refl H) (by rw [List.append_nil]; exact ha)
  · refine q p _ (Ex.new hp) ?_
    rw [upd_same]
    show _ = some (HO.tup (List.map V.int (xs ++ ys)))
    rw [List.map_append]
end Hg
namespace Hg
open PySem PySem.Spec PyProof.Rows L2
theorem ne_nonV {K : PySem.W.Frag} {H : Hp} {dv : V} {Q : VK} (h : dv = .non) (q : Q (.bl (!decide (V.non = V.non))) H) : rNeA K .non dv H Q := by subst h; exact .inl ⟨rfl, q⟩
end Hg
namespace Hg
open PySem PySem.Spec PyProof.Rows L2
theorem ne_refV {K : PySem.W.Frag} {H : Hp} {dv : V} {p q : Addr} {xs ys : List Int} {Q : VK} (h : dv = .ref q) (hp : H p = some (.tup (iV xs))) (hq : H q = some (.tup (iV ys))) (k : Q (.bl (!decide (xs = ys))) H) : rNeA K (.ref p) dv H Q := by subst h; exact ne_ints hp hq k
end Hg
namespace Hg
open PySem PySem.Spec PyProof.Rows L2
theorem joinH {P : Hp → Prop} {A : Prop} (C : Hp → Prop) (main : (∀ H, C H → P H) → A) (tail : ∀ H, C H → P H) : A := main tail
end Hg

set_option maxHeartbeats 4000000
namespace K06
open PySem PySem.Spec PyProof.Rows L2 Hg
def top (i : Nat) : Stmt := PySem.Challenge.pw_hushgrain_k06_members_of_a_lattice.main.body.getD i (.Pass ⟨0, 0, 0, 0⟩)
abbrev st_bezout : Stmt := top 1
theorem sc_bezout : FnScope ["one", "other", "common", "behind", "left", "left_behind", "quotient", "rest", "right"] ["one", "other"] (defScope st_bezout) := ⟨rfl, rfl, rfl, by decide +kernel, rfl, by decide +kernel, by decide +kernel⟩
abbrev st_hermite : Stmt := top 3
theorem sc_hermite : FnScope ["rows", "size"] ["rows", "size"] (defScope st_hermite) := ⟨rfl, rfl, rfl, by decide +kernel, rfl, by decide +kernel, by decide +kernel⟩
abbrev st_coordinates : Stmt := top 4
theorem sc_coordinates : FnScope ["basis", "vector", "factors", "rest", "row", "column"] ["basis", "vector"] (defScope st_coordinates) := ⟨rfl, rfl, rfl, by decide +kernel, rfl, by decide +kernel, by decide +kernel⟩
abbrev st_contains : Stmt := top 5
theorem sc_contains : FnScope ["basis", "vector"] ["basis", "vector"] (defScope st_contains) := ⟨rfl, rfl, rfl, by decide +kernel, rfl, by decide +kernel, by decide +kernel⟩
abbrev st_includes : Stmt := top 6
theorem sc_includes : FnScope ["basis", "other", "row"] ["basis", "other"] (defScope st_includes) := ⟨rfl, rfl, rfl, by decide +kernel, rfl, by decide +kernel, by decide +kernel⟩
abbrev st_pivot_column : Stmt := top 7
theorem sc_pivot_column : FnScope ["row", "column"] ["row"] (defScope st_pivot_column) := ⟨rfl, rfl, rfl, by decide +kernel, rfl, by decide +kernel, by decide +kernel⟩
abbrev st__combined : Stmt := top 8
theorem sc__combined : FnScope ["factor", "row", "other_factor", "other", "entry", "added"] ["factor", "row", "other_factor", "other"] (defScope st__combined) := ⟨rfl, rfl, rfl, by decide +kernel, rfl, by decide +kernel, by decide +kernel⟩
abbrev st__less : Stmt := top 9
theorem sc__less : FnScope ["row", "factor", "other", "entry", "taken"] ["row", "factor", "other"] (defScope st__less) := ⟨rfl, rfl, rfl, by decide +kernel, rfl, by decide +kernel, by decide +kernel⟩
abbrev st__tails : Stmt := top 10
theorem sc__tails : FnScope ["rows", "left", "size", "steps", "row", "tails", "column", "step", "tail"] ["rows", "left", "size"] (defScope st__tails) := ⟨rfl, rfl, rfl, by decide +kernel, rfl, by decide +kernel, by decide +kernel⟩
abbrev st__enter : Stmt := top 11
theorem sc__enter : FnScope ["steps", "row", "column", "step", "positive", "quotient", "rest", "entry"] ["steps", "row"] (defScope st__enter) := ⟨rfl, rfl, rfl, by decide +kernel, rfl, by decide +kernel, by decide +kernel⟩
abbrev st__merge : Stmt := top 12
theorem sc__merge : FnScope ["steps", "column", "row", "step", "common", "kept", "added", "left"] ["steps", "column", "row"] (defScope st__merge) := ⟨rfl, rfl, rfl, by decide +kernel, rfl, by decide +kernel, by decide +kernel⟩
abbrev st__lowered : Stmt := top 13
theorem sc__lowered : FnScope ["row", "column", "steps", "place", "step"] ["row", "column", "steps"] (defScope st__lowered) := ⟨rfl, rfl, rfl, by decide +kernel, rfl, by decide +kernel, by decide +kernel⟩
abbrev st_l_draw : Stmt := top 15
theorem sc_l_draw : FnScope ["_law_stream", "_law_count", "_law_number"] ["_law_stream", "_law_count"] (defScope st_l_draw) := ⟨rfl, rfl, rfl, by decide +kernel, rfl, by decide +kernel, by decide +kernel⟩
abbrev st_l_plus : Stmt := top 16
theorem sc_l_plus : FnScope ["_law_factor", "_law_one", "_law_other", "_law_a", "_law_b"] ["_law_factor", "_law_one", "_law_other"] (defScope st_l_plus) := ⟨rfl, rfl, rfl, by decide +kernel, rfl, by decide +kernel, by decide +kernel⟩
abbrev st_l_size : Stmt := top 17
theorem sc_l_size : FnScope ["_law_stream"] ["_law_stream"] (defScope st_l_size) := ⟨rfl, rfl, rfl, by decide +kernel, rfl, by decide +kernel, by decide +kernel⟩
abbrev st_l_basis : Stmt := top 18
theorem sc_l_basis : FnScope ["_law_stream", "_law_size_here", "_law_menu", "_law_column", "_law_columns", "_law_rows", "_law_row", "_law_low", "_law_high", "_law_factor"] ["_law_stream", "_law_size_here"] (defScope st_l_basis) := ⟨rfl, rfl, rfl, by decide +kernel, rfl, by decide +kernel, by decide +kernel⟩
abbrev st_l_coordinates : Stmt := top 19
theorem sc_l_coordinates : FnScope ["_law_basis_here", "_law_vector", "_law_found", "_law_row", "_law_column", "_law_factor", "_law_entry"] ["_law_basis_here", "_law_vector"] (defScope st_l_coordinates) := ⟨rfl, rfl, rfl, by decide +kernel, rfl, by decide +kernel, by decide +kernel⟩
abbrev st_l_lists_of : Stmt := top 20
theorem sc_l_lists_of : FnScope ["_law_thing", "_law_part"] ["_law_thing"] (defScope st_l_lists_of) := ⟨rfl, rfl, rfl, by decide +kernel, rfl, by decide +kernel, by decide +kernel⟩
abbrev st_l_listed : Stmt := top 21
theorem sc_l_listed : FnScope ["_law_stream", "_law_thing"] ["_law_stream", "_law_thing"] (defScope st_l_listed) := ⟨rfl, rfl, rfl, by decide +kernel, rfl, by decide +kernel, by decide +kernel⟩
abbrev st_law : Stmt := top 22
theorem sc_law : FnScope ["_law_script", "_law_stream", "_law_size_here", "_law_basis_here", "_law_vectors", "_law_k", "_law_row", "_law_factors", "_law_vector", "_law_factor", "_law_at", "_law_beside", "_law_due", "_law_rows", "_law_handed", "_law_kept", "_law_found", "_law_other", "_law_inside"] ["_law_script"] (defScope st_law) := ⟨rfl, rfl, rfl, by decide +kernel, rfl, by decide +kernel, by decide +kernel⟩
structure Zs (mg : Str → Option Value) : Prop where
  all_ : mg "all" = none
  any_ : mg "any" = none
  bool_ : mg "bool" = none
  divmod_ : mg "divmod" = none
  enumerate_ : mg "enumerate" = none
  int_ : mg "int" = none
  isinstance_ : mg "isinstance" = none
  len_ : mg "len" = none
  list_ : mg "list" = none
  range_ : mg "range" = none
  reversed_ : mg "reversed" = none
  str_ : mg "str" = none
  tuple_ : mg "tuple" = none
  zip_ : mg "zip" = none
def sp_l_draw (_ : PySem.W.Frag) : Sp := spDraw
end K06

set_option maxHeartbeats 4000000
namespace K06
open PySem PySem.Spec PyProof.Rows L2 Hg
section
variable {P : Program} {w : World} {K : PySem.W.Frag} {mg : Str → Option Value} {base : Heap}
theorem ok_bezout {f : Addr} {fd : FuncData} (F : DefK K mg "bezout" st_bezout ["one", "other"] f fd) (Z : Zs mg)  (NS : base.NoSeer) (hP : P.given.tree = none) :
    FnOk P w K mg base CX0 33 f fd ["one", "other"] (sp_bezout K) := by
  refine F.fn.ok sc_bezout (fun vs H Q E h => by first | exact listedM_len h | (obtain ⟨rfl, _⟩ := h; rfl) | (obtain ⟨_, rfl, _⟩ := h; rfl) | (obtain ⟨_, _, rfl, _⟩ := h; rfl) | (obtain ⟨_, _, _, rfl, _⟩ := h; rfl) | (obtain ⟨_, _, _, _, rfl, _⟩ := h; rfl) | (obtain ⟨_, _, _, _, _, rfl, _⟩ := h; rfl) | (obtain ⟨_, _, _, _, _, _, rfl, _⟩ := h; rfl) | (obtain ⟨_, _, _, _, _, _, _, rfl, _⟩ := h; rfl) | (obtain ⟨_, _, _, _, _, _, _, _, rfl, _⟩ := h; rfl) | (obtain ⟨_, _, _, _, _, _, _, _, _, rfl, _⟩ := h; rfl) | (obtain ⟨_, _, _, _, _, _, _, _, _, _, rfl, _⟩ := h; rfl) | (obtain ⟨_, _, _, _, _, _, _, _, _, _, _, rfl, _⟩ := h; rfl) | (obtain ⟨_, _, _, _, _, _, _, _, _, _, _, _, rfl, _⟩ := h; rfl) | (obtain ⟨_, _, _, _, _, _, _, _, _, _, _, _, _, rfl, _⟩ := h; rfl) | (obtain ⟨_, _, _, _, _, _, _, _, _, _, _, _, _, _, rfl, _⟩ := h; rfl) | (obtain ⟨_, _, _, _, _, _, _, _, _, _, _, _, _, _, _, rfl, _⟩ := h; rfl) | (obtain ⟨_, _, _, _, _, _, _, _, _, _, _, _, _, _, _, _, rfl, _⟩ := h; rfl) | (obtain ⟨_, _, _, _, _, _, _, _, _, _, _, _, _, _, _, _, _, rfl, _⟩ := h; rfl) | (obtain ⟨_, _, _, _, _, _, _, _, _, _, _, _, _, _, _, _, _, _, rfl, _⟩ := h; rfl) | (obtain ⟨_, _, _, _, _, _, _, _, _, _, _, _, _, _, _, _, _, _, _, rfl, _⟩ := h; rfl) | (obtain ⟨_, _, _, _, _, _, _, _, _, _, _, _, _, _, _, _, _, _, _, _, rfl, _⟩ := h; rfl) | (obtain ⟨_, _, _, _, _, _, _, _, _, _, _, _, _, _, _, _, _, _, _, _, _, rfl, _⟩ := h; rfl) | (obtain ⟨_, _, _, _, _, _, _, _, _, _, _, _, _, _, _, _, _, _, _, _, _, _, rfl, _⟩ := h; rfl) | (obtain ⟨_, _, _, _, _, _, _, _, _, _, _, _, _, _, _, _, _, _, _, _, _, _, _, rfl, _⟩ := h; rfl)) (fun cdv A outer s H vs Q E hr h => ?_)
  obtain ⟨a, b, B, rfl, ha, hb, hB, gB, kq⟩ := h
  refine ⟨_, (pss_cons (ps_par (i := 2) (j := 3) (by rfl) sc_bezout.nd rfl rfl (by decide) rfl rfl (pa_cons (pv 0) (pa_cons (pv 1) pa_nil)) (by rfl))
      (pss_cons (ps_asg (pe_tup (pa_cons pe_int (pa_cons pe_int pa_nil))) (kPgT (K := K) (n := 2) rfl (pgs_cons (pg_name (i := 4) sc_bezout.nd rfl (.inl rfl)) (pgs_cons (pg_name (i := 5) sc_bezout.nd rfl (.inl rfl)) pgs_nil))))
      (pss_cons (ps_while PassesOwn.never (pt_truth (pv 3) (by intro _; rfl)) (pss_cons (ps_asg (pe_callB (call_divmodP (seeX NS hP (hr.mono (by decide)) sc_bezout)) (by rfl) Z.divmod_ PyProof.Rows.Boot.«divmod» (pa_cons (pv 2) (pa_cons (pv 3) pa_nil))) (kPgT (K := K) (n := 2) rfl (pgs_cons (pg_name (i := 6) sc_bezout.nd rfl (.inl rfl)) (pgs_cons (pg_name (i := 7) sc_bezout.nd rfl (.inl rfl)) pgs_nil))))
      (pss_cons (ps_par (i := 2) (j := 3) (by rfl) sc_bezout.nd rfl rfl (by decide) rfl rfl (pa_cons (pv 3) (pa_cons (pv 7) pa_nil)) (by rfl))
      (pss_one (ps_par (i := 4) (j := 5) (by rfl) sc_bezout.nd rfl rfl (by decide) rfl rfl (pa_cons (pv 5) (pa_cons (pe_op op_sub (pv 4) (pe_op oMulB (pv 6) (pv 5))) pa_nil)) (by rfl))))))
      (pss_cons (ps_if (pt_cmpR op_lt (pv 2) pe_int (nomark _)) (pss_one (ps_par (i := 2) (j := 4) (by rfl) sc_bezout.nd rfl rfl (by decide) rfl rfl (pa_cons (pe_un un_neg (pv 2)) (pa_cons (pe_un un_neg (pv 4)) pa_nil)) (by rfl))) pss_nil)
      (pss_cons (ps_set (i := 8) sc_bezout.nd rfl (.inl rfl) pe_int)
      (pss_cons (ps_if (pt_truth (pv 1) (by intro _; rfl)) (pss_one (ps_set (i := 8) sc_bezout.nd rfl (.inl rfl) (pe_op (oDivP (seeX NS hP (hr.mono (by decide)) sc_bezout)) (pe_op op_sub (pv 2) (pe_op oMulB (pv 4) (pv 0))) (pv 1)))) pss_nil)
      (pss_one (ps_ret (pe_tup (pa_cons (pv 2) (pa_cons (pv 4) (pa_cons (pv 8) pa_nil)))))))))))), ?_⟩
  have gg : ∀ {x : Int}, x.natAbs ≤ a.natAbs + b.natAbs + 1 → bg x := fun h => bg_le (B := B) (by omega) gB
  refine ⟨_, rfl, _, rfl, _, _, rfl, ?_⟩
  refine ⟨by show 2 ≤ sizeLine; decide, fun p0 hp0 => ⟨p0, _, rfl, SqT.of upd_same, rfl, _, _, rfl, _, _, rfl, rfl, ?_⟩⟩
  have e0 := Ex.new (o := .tup [.int 1, .int 0]) hp0
  generalize upd H p0 (.tup [.int 1, .int 0]) = H0 at e0
  refine ⟨fun m σ H' => ∃ (c d l l' : Int) (v6 v7 : Option V), σ = [some (.int a), some (.int b), some (.int c), some (.int d), some (.int l), some (.int l'), v6, v7, none] ∧ Ex H H' ∧ Hn.Bz a b c d l l' ∧ m = d.natAbs, ⟨_, a, b, 1, 0, _, _, rfl, e0, Hn.Bz.start ha hb, rfl⟩, ?_⟩
  rintro m σ H' ⟨c, d, l, l', v6, v7, rfl, ex, z, rfl⟩
  refine ⟨_, rfl, _, rfl, ?_⟩
  by_cases hd : d = 0
  · subst hd
    refine iteF ?_
    dsimp only

    refine cut (fun σ' H'' => ∃ (k : Int), (k = 1 ∨ k = -1) ∧ 0 < k * c ∧ σ' = [some (.int a), some (.int b), some (.int (k * c)), some (.int 0), some (.int (k * l)), some (.int l'), v6, v7, none] ∧ H'' = H') ?_ ?_
    · rintro σ' H2 ⟨k, hk, hp, rfl, e2⟩
      subst e2
      obtain ⟨p, r, ep, er, eg, tb, sb⟩ := Hn.Bz.fin hb z hk hp
      refine cut (fun σ' H'' => σ' = [some (.int a), some (.int b), some (.int (k * c)), some (.int 0), some (.int (k * l)), some (.int l'), v6, v7, some (.int 0)] ∧ H'' = H2) ?_ fun N hN => hN _ _ ⟨rfl, rfl⟩
      rintro σ' H3 ⟨rfl, e3⟩
      subst e3
      refine cut (fun σ' H'' => σ' = [some (.int a), some (.int b), some (.int (k * c)), some (.int 0), some (.int (k * l)), some (.int l'), v6, v7, some (.int ((k * c - k * l * a).fdiv b))] ∧ H'' = H3) ?_ ?_
      · rintro σ' H'' ⟨rfl, rfl⟩
        exact ⟨_, rfl, _, rfl, _, rfl, by show 3 ≤ sizeLine; decide, fun q hq => kq _ _ _ p r q _ (ex.trans (Ex.new hq)) upd_same hp ep er eg sb tb⟩
      · intro N hN
        refine ⟨_, rfl, _, rfl, ?_⟩
        have : (b != 0) = true := by simpa using hb
        rw [this]
        refine iteT ⟨_, rfl, _, rfl, _, rfl, _, _, rfl, rfl, bg_mul (gg (by omega)) (gg (by omega)), _, _, rfl, rfl, _, rfl, _, _, rfl, rfl, hb, hN _ _ ⟨rfl, rfl⟩⟩
    · intro N hN
      have c0 := z.c0
      refine ⟨_, rfl, _, _, rfl, rfl, _, rfl, ?_⟩
      refine iteD (fun h => ?_) fun h => ?_
      · exact ⟨_, rfl, _, rfl, _, rfl, _, rfl, _, _, rfl, hN _ _ ⟨-1, .inr rfl, by omega, by rw [Int.neg_one_mul, Int.neg_one_mul]; rfl, rfl⟩⟩
      · exact hN _ _ ⟨1, .inl rfl, by omega, by rw [Int.one_mul, Int.one_mul], rfl⟩
  · have : (d != 0) = true := by simpa using hd
    rw [this]
    refine iteT ⟨fun σ' H' => ∃ m', m' < d.natAbs ∧ _, fun _ _ h => h, ?_⟩
    have z2 := z.step hd
    refine ⟨_, rfl, _, rfl, _, _, rfl, hd, fun p1 hp1 => ⟨p1, _, rfl, SqT.of upd_same, rfl, _, _, rfl, _, _, rfl, rfl, ?_⟩⟩
    refine ⟨_, rfl, _, rfl, _, _, rfl, ?_⟩
    refine ⟨_, rfl, _, rfl, _, rfl, _, rfl, _, _, rfl, rfl, bg_mul (gg ?_) (gg ?_), _, _, rfl, rfl, _, _, rfl, ?_⟩
    · have := Hn.fdiv_le (c := c) hd; have := z.cb; omega
    · have h1 := z2.lb; omega
    · exact ⟨(c.fmod d).natAbs, (Hn.fmod_sign hd).2, _, _, _, _, _, _, rfl, ex.trans (Ex.new hp1), z2, rfl⟩
theorem ok__less {f : Addr} {fd : FuncData} (F : DefK K mg "_less" st__less ["row", "factor", "other"] f fd) (Z : Zs mg)  :
    FnOk P w K mg base CX0 1 f fd ["row", "factor", "other"] (sp__less K) := by
  refine F.fn.ok sc__less (fun vs H Q E h => by first | exact listedM_len h | (obtain ⟨rfl, _⟩ := h; rfl) | (obtain ⟨_, rfl, _⟩ := h; rfl) | (obtain ⟨_, _, rfl, _⟩ := h; rfl) | (obtain ⟨_, _, _, rfl, _⟩ := h; rfl) | (obtain ⟨_, _, _, _, rfl, _⟩ := h; rfl) | (obtain ⟨_, _, _, _, _, rfl, _⟩ := h; rfl) | (obtain ⟨_, _, _, _, _, _, rfl, _⟩ := h; rfl) | (obtain ⟨_, _, _, _, _, _, _, rfl, _⟩ := h; rfl) | (obtain ⟨_, _, _, _, _, _, _, _, rfl, _⟩ := h; rfl) | (obtain ⟨_, _, _, _, _, _, _, _, _, rfl, _⟩ := h; rfl) | (obtain ⟨_, _, _, _, _, _, _, _, _, _, rfl, _⟩ := h; rfl) | (obtain ⟨_, _, _, _, _, _, _, _, _, _, _, rfl, _⟩ := h; rfl) | (obtain ⟨_, _, _, _, _, _, _, _, _, _, _, _, rfl, _⟩ := h; rfl) | (obtain ⟨_, _, _, _, _, _, _, _, _, _, _, _, _, rfl, _⟩ := h; rfl) | (obtain ⟨_, _, _, _, _, _, _, _, _, _, _, _, _, _, rfl, _⟩ := h; rfl) | (obtain ⟨_, _, _, _, _, _, _, _, _, _, _, _, _, _, _, rfl, _⟩ := h; rfl) | (obtain ⟨_, _, _, _, _, _, _, _, _, _, _, _, _, _, _, _, rfl, _⟩ := h; rfl) | (obtain ⟨_, _, _, _, _, _, _, _, _, _, _, _, _, _, _, _, _, rfl, _⟩ := h; rfl) | (obtain ⟨_, _, _, _, _, _, _, _, _, _, _, _, _, _, _, _, _, _, rfl, _⟩ := h; rfl) | (obtain ⟨_, _, _, _, _, _, _, _, _, _, _, _, _, _, _, _, _, _, _, rfl, _⟩ := h; rfl) | (obtain ⟨_, _, _, _, _, _, _, _, _, _, _, _, _, _, _, _, _, _, _, _, rfl, _⟩ := h; rfl) | (obtain ⟨_, _, _, _, _, _, _, _, _, _, _, _, _, _, _, _, _, _, _, _, _, rfl, _⟩ := h; rfl) | (obtain ⟨_, _, _, _, _, _, _, _, _, _, _, _, _, _, _, _, _, _, _, _, _, _, rfl, _⟩ := h; rfl) | (obtain ⟨_, _, _, _, _, _, _, _, _, _, _, _, _, _, _, _, _, _, _, _, _, _, _, rfl, _⟩ := h; rfl)) (fun cdv A outer s H vs Q E hr h => ?_)
  obtain ⟨k, a, b, q, xs, ys, rfl, ha, hb, he, hlen, bq, by_, kq⟩ := h
  refine ⟨_, (pss_cons (ps_if (pt_cmpR (kEq (K := K) hr.units) (pv 1) pe_int (nomark _)) (pss_one (ps_ret (pv 0))) pss_nil)
      (pss_one (ps_ret (pe_lc (own := [("entry", 3), ("taken", 4)]) rfl sc__less.nd (kZip (K := K) (by rfl) Z.zip_ (pa_cons (pv 0) (pa_cons (pv 2) pa_nil))) (blkOk_by (N := ["row", "factor", "other", "entry", "taken"]) (sc := defScope st__less) (by decide +kernel)) (fun _ _ _ _ _ => (kPgT (K := K) (n := 2) rfl (pgs_cons (pg_name (i := 3) sc__less.nd rfl (.inl rfl)) (pgs_cons (pg_name (i := 4) sc__less.nd rfl (.inl rfl)) pgs_nil)))) (fun _ _ _ _ _ => pts_nil) (fun _ _ _ _ _ => (pe_op op_sub (pv 3) (pe_op oMulB (pv 1) (pv 4)))))))), ?_⟩
  refine ⟨_, rfl, .inl ⟨rfl, _, rfl, iteV (fun c => ?_) fun c => ?_⟩⟩
  · have e0 : Hn.lessL xs q ys = xs := by
      rw [c]
      exact Hn.fv_ext (Hn.len_less he) fun j => by rw [Hn.fv_less he]; omega
    rw [e0] at kq
    exact ⟨_, rfl, kq H a (Ex.refl H) (.inl rfl) ha⟩
  refine ⟨_, rfl, _, rfl, false, k, a, b, _, _, rfl, SqK.lst ha, hb, fun D hD => ?_⟩
  have hmin : min xs.length ys.length = min (iV xs).length (iV ys).length := by simp
  refine lc_pure (walk_zk (K := K) (k := false) (l := k) (a := a) (b := b) (xs := iV xs) (ys := iV ys) hmin) hD (fun _ => true) (fun i => .int (xs.getD i 0 - q * ys.getD i 0)) (by omega) (fun _ e => ⟨e.seq (SqK.lst ha), e.seq hb⟩) (fun i x Hc Hy hi e y Qe Qn qe qn => ?_) (fun H1 ex hL => ?_)
  · obtain ⟨T, x1, y1, rfl, hT, rfl, hx, hy⟩ := y
    obtain ⟨z1, hz1, rfl⟩ := ints_at hx
    obtain ⟨z2, hz2, rfl⟩ := ints_at hy
    have e1 : xs.getD i 0 = z1 := by rw [List.getD_eq_getElem?_getD, hz1]; rfl
    have e2 : ys.getD i 0 = z2 := by rw [List.getD_eq_getElem?_getD, hz2]; rfl
    rw [e1, e2] at qe
    refine ⟨T, _, rfl, SqT.of upd_same, rfl, _, _, rfl, _, _, rfl, rfl, rfl, _, rfl, _, rfl, _, rfl, q, z2, rfl, rfl, bg_mul bq (by_ _ (List.mem_of_getElem? hz2)), _, _, rfl, rfl, qe rfl _ (Ex.new hT)⟩
  · rw [picked_all, range_zip he (fun e t => e - q * t) _ (fun i x y h1 h2 => by rw [List.getD_eq_getElem?_getD, List.getD_eq_getElem?_getD, h1, h2]; rfl)] at hL
    exact kq _ D ex (.inr hD) hL
theorem ok__combined {f : Addr} {fd : FuncData} (F : DefK K mg "_combined" st__combined ["factor", "row", "other_factor", "other"] f fd) (Z : Zs mg)  :
    FnOk P w K mg base CX0 1 f fd ["factor", "row", "other_factor", "other"] (sp__combined K) := by
  refine F.fn.ok sc__combined (fun vs H Q E h => by first | exact listedM_len h | (obtain ⟨rfl, _⟩ := h; rfl) | (obtain ⟨_, rfl, _⟩ := h; rfl) | (obtain ⟨_, _, rfl, _⟩ := h; rfl) | (obtain ⟨_, _, _, rfl, _⟩ := h; rfl) | (obtain ⟨_, _, _, _, rfl, _⟩ := h; rfl) | (obtain ⟨_, _, _, _, _, rfl, _⟩ := h; rfl) | (obtain ⟨_, _, _, _, _, _, rfl, _⟩ := h; rfl) | (obtain ⟨_, _, _, _, _, _, _, rfl, _⟩ := h; rfl) | (obtain ⟨_, _, _, _, _, _, _, _, rfl, _⟩ := h; rfl) | (obtain ⟨_, _, _, _, _, _, _, _, _, rfl, _⟩ := h; rfl) | (obtain ⟨_, _, _, _, _, _, _, _, _, _, rfl, _⟩ := h; rfl) | (obtain ⟨_, _, _, _, _, _, _, _, _, _, _, rfl, _⟩ := h; rfl) | (obtain ⟨_, _, _, _, _, _, _, _, _, _, _, _, rfl, _⟩ := h; rfl) | (obtain ⟨_, _, _, _, _, _, _, _, _, _, _, _, _, rfl, _⟩ := h; rfl) | (obtain ⟨_, _, _, _, _, _, _, _, _, _, _, _, _, _, rfl, _⟩ := h; rfl) | (obtain ⟨_, _, _, _, _, _, _, _, _, _, _, _, _, _, _, rfl, _⟩ := h; rfl) | (obtain ⟨_, _, _, _, _, _, _, _, _, _, _, _, _, _, _, _, rfl, _⟩ := h; rfl) | (obtain ⟨_, _, _, _, _, _, _, _, _, _, _, _, _, _, _, _, _, rfl, _⟩ := h; rfl) | (obtain ⟨_, _, _, _, _, _, _, _, _, _, _, _, _, _, _, _, _, _, rfl, _⟩ := h; rfl) | (obtain ⟨_, _, _, _, _, _, _, _, _, _, _, _, _, _, _, _, _, _, _, rfl, _⟩ := h; rfl) | (obtain ⟨_, _, _, _, _, _, _, _, _, _, _, _, _, _, _, _, _, _, _, _, rfl, _⟩ := h; rfl) | (obtain ⟨_, _, _, _, _, _, _, _, _, _, _, _, _, _, _, _, _, _, _, _, _, rfl, _⟩ := h; rfl) | (obtain ⟨_, _, _, _, _, _, _, _, _, _, _, _, _, _, _, _, _, _, _, _, _, _, rfl, _⟩ := h; rfl) | (obtain ⟨_, _, _, _, _, _, _, _, _, _, _, _, _, _, _, _, _, _, _, _, _, _, _, rfl, _⟩ := h; rfl)) (fun cdv A outer s H vs Q E hr h => ?_)
  obtain ⟨a, b, f, g, xs, ys, rfl, ha, hb, he, hlen, bf, bg_, bx, by_, kq⟩ := h
  refine ⟨_, (pss_one (ps_ret (pe_lc (own := [("entry", 4), ("added", 5)]) rfl sc__combined.nd (kZip (K := K) (by rfl) Z.zip_ (pa_cons (pv 1) (pa_cons (pv 3) pa_nil))) (blkOk_by (N := ["factor", "row", "other_factor", "other", "entry", "added"]) (sc := defScope st__combined) (by decide +kernel)) (fun _ _ _ _ _ => (kPgT (K := K) (n := 2) rfl (pgs_cons (pg_name (i := 4) sc__combined.nd rfl (.inl rfl)) (pgs_cons (pg_name (i := 5) sc__combined.nd rfl (.inl rfl)) pgs_nil)))) (fun _ _ _ _ _ => pts_nil) (fun _ _ _ _ _ => (pe_op (kAdd (K := K)) (pe_op oMulB (pv 0) (pv 4)) (pe_op oMulB (pv 2) (pv 5))))))), ?_⟩
  refine ⟨_, rfl, _, rfl, false, false, a, b, _, _, rfl, SqK.lst ha, SqK.lst hb, fun D hD => ?_⟩
  have hmin : min xs.length ys.length = min (iV xs).length (iV ys).length := by simp
  refine lc_pure (walk_zk (K := K) (k := false) (l := false) (a := a) (b := b) (xs := iV xs) (ys := iV ys) hmin) hD (fun _ => true) (fun i => .int (f * xs.getD i 0 + g * ys.getD i 0)) (by omega) (fun _ e => ⟨e.seq (SqK.lst ha), e.seq (SqK.lst hb)⟩) (fun i x Hc Hy hi e y Qe Qn qe qn => ?_) (fun H1 ex hL => ?_)
  · obtain ⟨T, x1, y1, rfl, hT, rfl, hx, hy⟩ := y
    obtain ⟨z1, hz1, rfl⟩ := ints_at hx
    obtain ⟨z2, hz2, rfl⟩ := ints_at hy
    have e1 : xs.getD i 0 = z1 := by rw [List.getD_eq_getElem?_getD, hz1]; rfl
    have e2 : ys.getD i 0 = z2 := by rw [List.getD_eq_getElem?_getD, hz2]; rfl
    rw [e1, e2] at qe
    refine ⟨T, _, rfl, SqT.of upd_same, rfl, _, _, rfl, _, _, rfl, rfl, rfl, _, rfl, _, rfl, f, z1, rfl, rfl, bg_mul bf (bx _ (List.mem_of_getElem? hz1)), ?_⟩
    exact ⟨_, rfl, _, rfl, g, z2, rfl, rfl, bg_mul bg_ (by_ _ (List.mem_of_getElem? hz2)), .inl ⟨_, _, rfl, rfl, qe rfl _ (Ex.new hT)⟩⟩
  · rw [picked_all, range_zip he (fun e a => f * e + g * a) _ (fun i x y h1 h2 => by rw [List.getD_eq_getElem?_getD, List.getD_eq_getElem?_getD, h1, h2]; rfl)] at hL
    exact kq _ D ex hD hL
end
end K06

set_option maxHeartbeats 4000000
namespace K06
open PySem PySem.Spec PyProof.Rows L2 Hg
section
variable {P : Program} {w : World} {K : PySem.W.Frag} {mg : Str → Option Value} {base : Heap}
theorem ok__lowered {f : Addr} {fd : FuncData} (F : DefK K mg "_lowered" st__lowered ["row", "column", "steps"] f fd) (Z : Zs mg) {f__less : Addr} {fd__less : FuncData} (D__less : DefK K mg "_less" st__less ["row", "factor", "other"] f__less fd__less) (G__less : FnOk P w K mg base CX0 1 f__less fd__less ["row", "factor", "other"] (sp__less K)) (NS : base.NoSeer) (hP : P.given.tree = none) :
    FnOk P w K mg base CX0 33 f fd ["row", "column", "steps"] (sp__lowered K) := by
  refine F.fn.ok sc__lowered (fun vs H Q E h => by first | exact listedM_len h | (obtain ⟨rfl, _⟩ := h; rfl) | (obtain ⟨_, rfl, _⟩ := h; rfl) | (obtain ⟨_, _, rfl, _⟩ := h; rfl) | (obtain ⟨_, _, _, rfl, _⟩ := h; rfl) | (obtain ⟨_, _, _, _, rfl, _⟩ := h; rfl) | (obtain ⟨_, _, _, _, _, rfl, _⟩ := h; rfl) | (obtain ⟨_, _, _, _, _, _, rfl, _⟩ := h; rfl) | (obtain ⟨_, _, _, _, _, _, _, rfl, _⟩ := h; rfl) | (obtain ⟨_, _, _, _, _, _, _, _, rfl, _⟩ := h; rfl) | (obtain ⟨_, _, _, _, _, _, _, _, _, rfl, _⟩ := h; rfl) | (obtain ⟨_, _, _, _, _, _, _, _, _, _, rfl, _⟩ := h; rfl) | (obtain ⟨_, _, _, _, _, _, _, _, _, _, _, rfl, _⟩ := h; rfl) | (obtain ⟨_, _, _, _, _, _, _, _, _, _, _, _, rfl, _⟩ := h; rfl) | (obtain ⟨_, _, _, _, _, _, _, _, _, _, _, _, _, rfl, _⟩ := h; rfl) | (obtain ⟨_, _, _, _, _, _, _, _, _, _, _, _, _, _, rfl, _⟩ := h; rfl) | (obtain ⟨_, _, _, _, _, _, _, _, _, _, _, _, _, _, _, rfl, _⟩ := h; rfl) | (obtain ⟨_, _, _, _, _, _, _, _, _, _, _, _, _, _, _, _, rfl, _⟩ := h; rfl) | (obtain ⟨_, _, _, _, _, _, _, _, _, _, _, _, _, _, _, _, _, rfl, _⟩ := h; rfl) | (obtain ⟨_, _, _, _, _, _, _, _, _, _, _, _, _, _, _, _, _, _, rfl, _⟩ := h; rfl) | (obtain ⟨_, _, _, _, _, _, _, _, _, _, _, _, _, _, _, _, _, _, _, rfl, _⟩ := h; rfl) | (obtain ⟨_, _, _, _, _, _, _, _, _, _, _, _, _, _, _, _, _, _, _, _, rfl, _⟩ := h; rfl) | (obtain ⟨_, _, _, _, _, _, _, _, _, _, _, _, _, _, _, _, _, _, _, _, _, rfl, _⟩ := h; rfl) | (obtain ⟨_, _, _, _, _, _, _, _, _, _, _, _, _, _, _, _, _, _, _, _, _, _, rfl, _⟩ := h; rfl) | (obtain ⟨_, _, _, _, _, _, _, _, _, _, _, _, _, _, _, _, _, _, _, _, _, _, _, rfl, _⟩ := h; rfl)) (fun cdv A outer s H vs Q E hr h => ?_)
  obtain ⟨a, sa, c, N, B, ZB, xs, ws, st, rfl, nas, ha, S, ec, hN, hc, hl, hb, hz, s8, z8, kq⟩ := h
  refine ⟨_, (pss_cons (ps_for PassesOwn.never rfl (pi_range2 (by rfl) Z.range_ (pa_cons (pe_op (kAdd (K := K)) (pv 1) pe_int) (pa_cons (pe_callB (kLen (K := K)) (by rfl) Z.len_ PyProof.Rows.Boot.«len» (pa_cons (pv 0) pa_nil)) pa_nil))) (pg_name (i := 3) sc__lowered.nd rfl (.inl rfl)) (pss_cons (ps_set (i := 4) sc__lowered.nd rfl (.inl rfl) (pe_ix (kIx (K := K)) (pv 2) (pv 3) (fun _ _ => rfl)))
      (pss_one (ps_if (pt_cmpR op_notN (pv 4) pe_non (nomark _)) (pss_one (ps_set (i := 0) sc__lowered.nd rfl (.inl rfl) (pe_call G__less (hr.mono (by decide)) rfl D__less.mg D__less.fn.kp D__less.bd .nil pass0 (pa_cons (pv 0) (pa_cons (pe_op (oDivP (seeX NS hP (hr.mono (by decide)) sc__lowered)) (pe_ix (kIx (K := K)) (pv 0) (pv 3) (fun _ _ => rfl)) (pe_ix (kIx (K := K)) (pv 4) (pv 3) (fun _ _ => rfl))) (pa_cons (pv 4) pa_nil)))))) pss_nil))))
      (pss_one (ps_ret (pv 0)))), ?_⟩
  refine ⟨_, rfl, .inl ⟨_, _, rfl, rfl, _, rfl, a, _, rfl, .inl (SqL.of ha), ?_⟩⟩
  refine ⟨_, _, rfl, ⟨by omega, by omega, by rw [List.length_map, hl]; omega, by rw [List.length_map, hl]; omega⟩, ?_⟩
  rw [List.length_map, hl]
  have en : ((N : Int) - ((c : Int) + 1)).toNat = N - (c + 1) := by omega
  rw [en]
  have pw : ∀ i, i ≤ N → sm8 (B * (1 + ZB) ^ i) := fun i hi => sm8_mono (Nat.mul_le_mul_left _ (Nat.pow_le_pow_right (by omega) hi)) s8
  refine for_it (walk_range (lo := (c : Int) + 1) (n := N - (c + 1))) (fun i σ H' => ∃ (p : Addr) (zs : List Int) (v3 v4 : Option V), σ = [some (.ref p), some (.int (c : Nat)), some (.ref sa), v3, v4] ∧ Ex H H' ∧ H' p = some (.lst (iV zs)) ∧ p ≠ sa ∧ Hn.LowTo N st c (c + 1 + i) xs zs ∧ Hn.bnd (B * (1 + ZB) ^ i) (Hn.fv zs))
    ⟨a, xs, _, _, rfl, Ex.refl H, ha, nas, Hn.LowTo.start hl, by rw [Nat.pow_zero, Nat.mul_one]; exact hb⟩ (fun _ _ _ _ _ => trivial) (fun i x σ H' H6 hi p y => ?_) (fun σ H' p => ?_)
  · obtain ⟨p, zs, v3, v4, rfl, ex, hp, np, lo, bz⟩ := p
    obtain ⟨rfl, rfl⟩ := y
    have ep : ((c : Int) + 1) + (i : Int) = ((c + 1 + i : Nat) : Int) := by omega
    show gName 3 (V.int (((c : Int) + 1) + (i : Int))) _ _ _
    rw [ep]
    have S' := S.ex ex
    have hk : c + 1 + i < st.length := by rw [ec.len]; omega
    obtain ⟨v, hv, hst, rv⟩ := S'.get hk
    refine ⟨_, rfl, _, rfl, ixl S'.at_ (atI_nat hv) ?_⟩
    generalize hx : st[c + 1 + i] = x at hst rv
    cases x with
    | none =>
      change v = .non at rv
      subst rv
      refine ⟨_, rfl, rfl, _, rfl, ?_⟩
      refine iteF ⟨p, zs, _, _, rfl, ex, hp, np, lo.none (fun l h => by rw [hst] at h; cases h), Hn.bnd_mono (Nat.mul_le_mul_left _ (Nat.pow_le_pow_right (by omega) (by omega))) bz⟩
    | some l =>
      obtain ⟨b, rfl, nb, hbl⟩ := rv
      have pl := ec.piv _ _ hst
      have ll := ec.row _ _ hst
      have hzl : zs.length = l.length := by rw [lo.len, ll]
      refine ⟨_, rfl, rfl, _, rfl, ?_⟩
      refine iteT ?_
      have iz : (iV zs)[c + 1 + i]? = some (.int (Hn.fv zs (c + 1 + i))) := by rw [List.getElem?_map, Hn.fv_get (by rw [lo.len]; omega)]; rfl
      have il : (iV l)[c + 1 + i]? = some (.int (Hn.fv l (c + 1 + i))) := by rw [List.getElem?_map, Hn.fv_get (by rw [ll]; omega)]; rfl
      refine ⟨_, rfl, _, rfl, _, rfl, ixl hp (atI_nat iz) ⟨_, rfl, _, rfl, ixl hbl (atI_nat il) ⟨_, _, rfl, rfl, by omega, _, rfl, ?_⟩⟩⟩
      have efd : (Hn.fv zs (c + 1 + i)).fdiv (Hn.fv l (c + 1 + i)) = Hn.fv zs (c + 1 + i) / Hn.fv l (c + 1 + i) := Int.fdiv_eq_ediv_of_nonneg _ (by omega)
      have qb : (Hn.fv zs (c + 1 + i) / Hn.fv l (c + 1 + i)).natAbs ≤ B * (1 + ZB) ^ i := Nat.le_trans (by have := Int.natAbs_ediv_le_natAbs (Hn.fv zs (c + 1 + i)) (Hn.fv l (c + 1 + i)); omega) (bz _)
      have lo2 := lo.some ec (by omega) hst
      rw [← efd] at qb lo2
      refine ⟨false, p, b, _, zs, l, rfl, hp, SqK.lst hbl, hzl, by rw [lo.len]; omega, bg_le qb (pw i (by omega)), fun y hy => bg_at z8 (hz _ _ hst) hy, fun H2 p2 e2 hp2 h2 => ?_⟩
      refine ⟨p2, _, _, _, rfl, ex.trans e2, h2, ?_, lo2, ?_⟩
      · rcases hp2 with h | h
        · rw [h]; exact np
        · exact fun e => by rw [e, S'.at_] at h; cases h
      · refine Hn.bnd_mono ?_ (Hn.bnd_less hzl bz qb (hz _ _ hst))
        rw [Nat.pow_succ, ← Nat.mul_assoc, Nat.mul_add, Nat.mul_one]
        exact Nat.le_refl _
  · obtain ⟨p, zs, v3, v4, rfl, ex, hp, np, lo, bz⟩ := p
    have eN : c + 1 + (N - (c + 1)) = N := by omega
    rw [eN] at lo
    exact ⟨_, rfl, kq H' p zs ex np hp lo⟩
end
end K06

set_option maxHeartbeats 4000000
namespace K06
open PySem PySem.Spec PyProof.Rows L2 Hg
section
variable {P : Program} {w : World} {K : PySem.W.Frag} {mg : Str → Option Value} {base : Heap}
theorem ok__merge {f : Addr} {fd : FuncData} (F : DefK K mg "_merge" st__merge ["steps", "column", "row"] f fd) (Z : Zs mg) {f_bezout : Addr} {fd_bezout : FuncData} (D_bezout : DefK K mg "bezout" st_bezout ["one", "other"] f_bezout fd_bezout) (G_bezout : FnOk P w K mg base CX0 33 f_bezout fd_bezout ["one", "other"] (sp_bezout K)) {f__combined : Addr} {fd__combined : FuncData} (D__combined : DefK K mg "_combined" st__combined ["factor", "row", "other_factor", "other"] f__combined fd__combined) (G__combined : FnOk P w K mg base CX0 1 f__combined fd__combined ["factor", "row", "other_factor", "other"] (sp__combined K)) {f__lowered : Addr} {fd__lowered : FuncData} (D__lowered : DefK K mg "_lowered" st__lowered ["row", "column", "steps"] f__lowered fd__lowered) (G__lowered : FnOk P w K mg base CX0 33 f__lowered fd__lowered ["row", "column", "steps"] (sp__lowered K)) (NS : base.NoSeer) (hP : P.given.tree = none) :
    FnOk P w K mg base CX0 34 f fd ["steps", "column", "row"] (sp__merge K) := by
  refine F.fn.ok sc__merge (fun vs H Q E h => by first | exact listedM_len h | (obtain ⟨rfl, _⟩ := h; rfl) | (obtain ⟨_, rfl, _⟩ := h; rfl) | (obtain ⟨_, _, rfl, _⟩ := h; rfl) | (obtain ⟨_, _, _, rfl, _⟩ := h; rfl) | (obtain ⟨_, _, _, _, rfl, _⟩ := h; rfl) | (obtain ⟨_, _, _, _, _, rfl, _⟩ := h; rfl) | (obtain ⟨_, _, _, _, _, _, rfl, _⟩ := h; rfl) | (obtain ⟨_, _, _, _, _, _, _, rfl, _⟩ := h; rfl) | (obtain ⟨_, _, _, _, _, _, _, _, rfl, _⟩ := h; rfl) | (obtain ⟨_, _, _, _, _, _, _, _, _, rfl, _⟩ := h; rfl) | (obtain ⟨_, _, _, _, _, _, _, _, _, _, rfl, _⟩ := h; rfl) | (obtain ⟨_, _, _, _, _, _, _, _, _, _, _, rfl, _⟩ := h; rfl) | (obtain ⟨_, _, _, _, _, _, _, _, _, _, _, _, rfl, _⟩ := h; rfl) | (obtain ⟨_, _, _, _, _, _, _, _, _, _, _, _, _, rfl, _⟩ := h; rfl) | (obtain ⟨_, _, _, _, _, _, _, _, _, _, _, _, _, _, rfl, _⟩ := h; rfl) | (obtain ⟨_, _, _, _, _, _, _, _, _, _, _, _, _, _, _, rfl, _⟩ := h; rfl) | (obtain ⟨_, _, _, _, _, _, _, _, _, _, _, _, _, _, _, _, rfl, _⟩ := h; rfl) | (obtain ⟨_, _, _, _, _, _, _, _, _, _, _, _, _, _, _, _, _, rfl, _⟩ := h; rfl) | (obtain ⟨_, _, _, _, _, _, _, _, _, _, _, _, _, _, _, _, _, _, rfl, _⟩ := h; rfl) | (obtain ⟨_, _, _, _, _, _, _, _, _, _, _, _, _, _, _, _, _, _, _, rfl, _⟩ := h; rfl) | (obtain ⟨_, _, _, _, _, _, _, _, _, _, _, _, _, _, _, _, _, _, _, _, rfl, _⟩ := h; rfl) | (obtain ⟨_, _, _, _, _, _, _, _, _, _, _, _, _, _, _, _, _, _, _, _, _, rfl, _⟩ := h; rfl) | (obtain ⟨_, _, _, _, _, _, _, _, _, _, _, _, _, _, _, _, _, _, _, _, _, _, rfl, _⟩ := h; rfl) | (obtain ⟨_, _, _, _, _, _, _, _, _, _, _, _, _, _, _, _, _, _, _, _, _, _, _, rfl, _⟩ := h; rfl)) (fun cdv A outer s H vs Q E hr h => ?_)
  obtain ⟨ra, sa, c, N, M, R, u, row, l, ws, st0, st, rfl, nra, hra, S, hN, hrm, hM, hu, br, I, hc, hr0, kq⟩ := h
  refine ⟨_, (pss_cons (ps_set (i := 3) sc__merge.nd rfl (.inl rfl) (pe_ix (kIx (K := K)) (pv 0) (pv 1) (fun _ _ => rfl)))
      (pss_cons (ps_asg (pe_call G_bezout (hr.mono (by decide)) rfl D_bezout.mg D_bezout.fn.kp D_bezout.bd .nil pass0 (pa_cons (pe_ix (kIx (K := K)) (pv 3) (pv 1) (fun _ _ => rfl)) (pa_cons (pe_ix (kIx (K := K)) (pv 2) (pv 1) (fun _ _ => rfl)) pa_nil))) (kPgT (K := K) (n := 3) rfl (pgs_cons (pg_name (i := 4) sc__merge.nd rfl (.inl rfl)) (pgs_cons (pg_name (i := 5) sc__merge.nd rfl (.inl rfl)) (pgs_cons (pg_name (i := 6) sc__merge.nd rfl (.inl rfl)) pgs_nil)))))
      (pss_cons (ps_set (i := 7) sc__merge.nd rfl (.inl rfl) (pe_call G__combined (hr.mono (by decide)) rfl D__combined.mg D__combined.fn.kp D__combined.bd .nil pass0 (pa_cons (pe_un un_neg (pe_op (oDivP (seeX NS hP (hr.mono (by decide)) sc__merge)) (pe_ix (kIx (K := K)) (pv 2) (pv 1) (fun _ _ => rfl)) (pv 4))) (pa_cons (pv 3) (pa_cons (pe_op (oDivP (seeX NS hP (hr.mono (by decide)) sc__merge)) (pe_ix (kIx (K := K)) (pv 3) (pv 1) (fun _ _ => rfl)) (pv 4)) (pa_cons (pv 2) pa_nil))))))
      (pss_cons (ps_asg (pe_call G__lowered (hr.mono (by decide)) rfl D__lowered.mg D__lowered.fn.kp D__lowered.bd .nil pass0 (pa_cons (pe_call G__combined (hr.mono (by decide)) rfl D__combined.mg D__combined.fn.kp D__combined.bd .nil pass0 (pa_cons (pv 5) (pa_cons (pv 3) (pa_cons (pv 6) (pa_cons (pv 2) pa_nil))))) (pa_cons (pv 1) (pa_cons (pv 0) pa_nil)))) (pg_sub (pv 0) (pv 1) set_list))
      (pss_one (ps_ret (pe_call G__lowered (hr.mono (by decide)) rfl D__lowered.mg D__lowered.fn.kp D__lowered.bd .nil pass0 (pa_cons (pv 7) (pa_cons (pv 1) (pa_cons (pv 0) pa_nil)))))))))), ?_⟩
  have cN : c < N := I.e.lt hc
  have cN' : c < st.length := by rw [I.e.len]; exact cN
  obtain ⟨v, hv, hst, rv⟩ := S.get cN'
  have ex : st[c] = some l := by rw [hc] at hst; exact (Option.some.inj hst).symm
  rw [ex] at rv hst
  obtain ⟨b, rfl, nb, hbl⟩ := rv
  have pl := I.e.piv _ _ hc
  have ll := I.e.row _ _ hc
  have hll : l.length = row.length := by rw [ll, I.rl]
  have il : (iV l)[c]? = some (.int (Hn.fv l c)) := by rw [List.getElem?_map, Hn.fv_get (by rw [ll]; exact cN)]; rfl
  have ir : (iV row)[c]? = some (.int (Hn.fv row c)) := by rw [List.getElem?_map, Hn.fv_get (by rw [I.rl]; exact cN)]; rfl
  have pwz : ∀ i, i ≤ 2 * N + 4 → sm8 (Hn.zB N M * (1 + Hn.zB N M) ^ i) := fun i hi => sm8_mono (Nat.mul_le_mul_left _ (Nat.pow_le_pow_right (by omega) hi)) hrm
  have z8 : sm8 (Hn.zB N M) := by have := pwz 0 (by omega); rwa [Nat.pow_zero, Nat.mul_one] at this
  have w8 := pwz (c + 2) (by omega)
  refine ⟨_, rfl, _, rfl, ixl S.at_ (atI_nat hv) ?_⟩
  refine ⟨_, rfl, _, rfl, ixl hbl (atI_nat il) ⟨_, rfl, _, rfl, ixl hra (atI_nat ir) ?_⟩⟩
  have sz : (Hn.fv l c).natAbs + (Hn.fv row c).natAbs < Hn.zB N M * (1 + Hn.zB N M) ^ (c + 2) := (I.combs br hM hc (g := 1) (s := 0) (t := 0) (p := Hn.fv l c) (r := Hn.fv row c) (by omega) (by omega) (by omega) (by simp) (by simp)).2.2.2.2.2.2
  refine ⟨_, _, _, rfl, pl, hr0, sz, w8, fun g s t p r q H1 e1 hq gp ep er eg sb tb => ?_⟩
  obtain ⟨b1, b2, ls, lt, lr, lp, _⟩ := I.combs br hM hc gp ep er sb tb
  refine ⟨q, _, rfl, SqT.of hq, rfl, _, _, rfl, _, _, rfl, _, _, rfl, rfl, ?_⟩
  have hra1 := e1 _ _ hra
  have hbl1 := e1 _ _ hbl
  have efr : (Hn.fv row c).fdiv g = r := by rw [er]; exact Int.mul_fdiv_cancel _ (by omega)
  have efp : (Hn.fv l c).fdiv g = p := by rw [ep]; exact Int.mul_fdiv_cancel _ (by omega)
  refine ⟨_, rfl, _, rfl, ixl hra1 (atI_nat ir) ⟨_, rfl, _, _, rfl, rfl, by omega, _, rfl, ?_⟩⟩
  refine ⟨_, rfl, _, rfl, _, rfl, ixl hbl1 (atI_nat il) ⟨_, rfl, _, _, rfl, rfl, by omega, _, rfl, ?_⟩⟩
  have lb8 : ∀ x ∈ l, bg x := fun x hx => bg_at z8 (I.zs _ _ hc) hx
  have rb8 : ∀ x ∈ row, bg x := fun x hx => bg_at (pwz c (by omega)) I.rb hx
  refine ⟨b, ra, -((Hn.fv row c).fdiv g), (Hn.fv l c).fdiv g, l, row, rfl, hbl1, hra1, hll, by rw [ll]; omega, ?_, ?_, lb8, rb8, ?_⟩
  · rw [efr]; exact bg_le (by rw [Int.natAbs_neg]; exact lr) w8
  · rw [efp]; exact bg_le lp w8
  rw [efr, efp]
  intro H2 pleft e2 np2 hleft
  have nleft : pleft ≠ sa := fun e => by rw [e, e1 _ _ S.at_] at np2; cases np2
  -- steps[column] = _lowered(_combined(kept, step, added, row), column, steps)
  refine ⟨_, rfl, _, rfl, _, rfl, _, rfl, ?_⟩
  refine ⟨b, ra, s, t, l, row, rfl, e2 _ _ hbl1, e2 _ _ hra1, hll, by rw [ll]; omega, bg_le ls w8, bg_le lt w8, lb8, rb8, fun H3 pn e3 np3 hn => ?_⟩
  have E3 := (e1.trans e2).trans e3
  have S3 := S.ex E3
  refine ⟨_, rfl, _, rfl, ?_⟩
  have len1 : (Hn.combL s l t row).length = N := by rw [Hn.len_comb hll, ll]
  have len2 : (Hn.combL (-r) l p row).length = N := by rw [Hn.len_comb hll, ll]
  have npn : pn ≠ sa := fun e => by rw [e, (e1.trans e2) _ _ S.at_] at np3; cases np3
  have p8 : sm8 (Hn.zB N M * (1 + Hn.zB N M) ^ (c + 2) * (1 + Hn.zB N M) ^ N) := by
    rw [Nat.mul_assoc, ← Nat.pow_add]
    exact pwz _ (by omega)
  refine ⟨pn, sa, c, N, _, Hn.zB N M, _, ws, st, rfl, npn, hn, S3, I.e, hN, cN, len1, b1, I.zs, p8, z8, fun H4 pz new e4 npz hz lown => ?_⟩
  have S4 := S3.ex e4
  obtain ⟨eset, zset⟩ := I.merged br hM hu hc gp ep er eg tb lown
  refine ⟨_, rfl, _, rfl, sa, ws, c, c, rfl, rfl, S4.at_, ixN_nat (by rw [S4.len]; exact cN'), ?_⟩
  have S5 := S4.set (c := c) npz hz
  have k5 : ExB sa H4 (upd H4 sa (.lst (ws.set c (.ref pz)))) := ExB.put
  generalize upd H4 sa (.lst (ws.set c (.ref pz))) = H5 at S5 k5
  refine ⟨_, rfl, _, rfl, _, rfl, ?_⟩
  have zst : ∀ (j : Nat) (x : List Int), (st.set c (some new))[j]? = some (some x) → Hn.bnd (Hn.zB N M) (Hn.fv x) := fun j x h => by
    rw [Hn.set_at cN'] at h
    by_cases e : j = c
    · rw [if_pos e] at h; cases h; exact zset
    · rw [if_neg e] at h; exact I.zs _ _ h
  refine ⟨pleft, sa, c, N, _, Hn.zB N M, _, _, _, rfl, nleft, k5 _ _ nleft ((e3.trans e4) _ _ hleft), S5, eset, hN, cN, len2, b2, zst, p8, z8, fun H6 pf left e6 npf hf lowf => ?_⟩
  exact kq H6 pf left _ _ (((ExB.of (E3.trans e4)).trans k5).trans (ExB.of e6)) npf hf (S5.ex e6) (I.merge br hM hu hc gp ep er eg tb lown (lowf.of_set cN'))
end
end K06

set_option maxHeartbeats 4000000
namespace K06
open PySem PySem.Spec PyProof.Rows L2 Hg
section
variable {P : Program} {w : World} {K : PySem.W.Frag} {mg : Str → Option Value} {base : Heap}
theorem ok__enter {f : Addr} {fd : FuncData} (F : DefK K mg "_enter" st__enter ["steps", "row"] f fd) (Z : Zs mg) {f__less : Addr} {fd__less : FuncData} (D__less : DefK K mg "_less" st__less ["row", "factor", "other"] f__less fd__less) (G__less : FnOk P w K mg base CX0 1 f__less fd__less ["row", "factor", "other"] (sp__less K)) {f__merge : Addr} {fd__merge : FuncData} (D__merge : DefK K mg "_merge" st__merge ["steps", "column", "row"] f__merge fd__merge) (G__merge : FnOk P w K mg base CX0 34 f__merge fd__merge ["steps", "column", "row"] (sp__merge K)) {f__lowered : Addr} {fd__lowered : FuncData} (D__lowered : DefK K mg "_lowered" st__lowered ["row", "column", "steps"] f__lowered fd__lowered) (G__lowered : FnOk P w K mg base CX0 33 f__lowered fd__lowered ["row", "column", "steps"] (sp__lowered K)) (NS : base.NoSeer) (hP : P.given.tree = none) :
    FnOk P w K mg base CX0 35 f fd ["steps", "row"] (sp__enter K) := by
  refine F.fn.ok sc__enter (fun vs H Q E h => by first | exact listedM_len h | (obtain ⟨rfl, _⟩ := h; rfl) | (obtain ⟨_, rfl, _⟩ := h; rfl) | (obtain ⟨_, _, rfl, _⟩ := h; rfl) | (obtain ⟨_, _, _, rfl, _⟩ := h; rfl) | (obtain ⟨_, _, _, _, rfl, _⟩ := h; rfl) | (obtain ⟨_, _, _, _, _, rfl, _⟩ := h; rfl) | (obtain ⟨_, _, _, _, _, _, rfl, _⟩ := h; rfl) | (obtain ⟨_, _, _, _, _, _, _, rfl, _⟩ := h; rfl) | (obtain ⟨_, _, _, _, _, _, _, _, rfl, _⟩ := h; rfl) | (obtain ⟨_, _, _, _, _, _, _, _, _, rfl, _⟩ := h; rfl) | (obtain ⟨_, _, _, _, _, _, _, _, _, _, rfl, _⟩ := h; rfl) | (obtain ⟨_, _, _, _, _, _, _, _, _, _, _, rfl, _⟩ := h; rfl) | (obtain ⟨_, _, _, _, _, _, _, _, _, _, _, _, rfl, _⟩ := h; rfl) | (obtain ⟨_, _, _, _, _, _, _, _, _, _, _, _, _, rfl, _⟩ := h; rfl) | (obtain ⟨_, _, _, _, _, _, _, _, _, _, _, _, _, _, rfl, _⟩ := h; rfl) | (obtain ⟨_, _, _, _, _, _, _, _, _, _, _, _, _, _, _, rfl, _⟩ := h; rfl) | (obtain ⟨_, _, _, _, _, _, _, _, _, _, _, _, _, _, _, _, rfl, _⟩ := h; rfl) | (obtain ⟨_, _, _, _, _, _, _, _, _, _, _, _, _, _, _, _, _, rfl, _⟩ := h; rfl) | (obtain ⟨_, _, _, _, _, _, _, _, _, _, _, _, _, _, _, _, _, _, rfl, _⟩ := h; rfl) | (obtain ⟨_, _, _, _, _, _, _, _, _, _, _, _, _, _, _, _, _, _, _, rfl, _⟩ := h; rfl) | (obtain ⟨_, _, _, _, _, _, _, _, _, _, _, _, _, _, _, _, _, _, _, _, rfl, _⟩ := h; rfl) | (obtain ⟨_, _, _, _, _, _, _, _, _, _, _, _, _, _, _, _, _, _, _, _, _, rfl, _⟩ := h; rfl) | (obtain ⟨_, _, _, _, _, _, _, _, _, _, _, _, _, _, _, _, _, _, _, _, _, _, rfl, _⟩ := h; rfl) | (obtain ⟨_, _, _, _, _, _, _, _, _, _, _, _, _, _, _, _, _, _, _, _, _, _, _, rfl, _⟩ := h; rfl)) (fun cdv A outer s H vs Q E hr h => ?_)
  obtain ⟨ra, sa, N, M, R, u, ws, st0, rfl, nra, hra, S, hN, hrm, hM, hul, hu, br, kq⟩ := h
  refine ⟨_, (pss_one (ps_for PassesOwn.never rfl (pi_range1 (by rfl) Z.range_ (pa_cons (pe_callB (kLen (K := K)) (by rfl) Z.len_ PyProof.Rows.Boot.«len» (pa_cons (pv 1) pa_nil)) pa_nil)) (pg_name (i := 2) sc__enter.nd rfl (.inl rfl)) (pss_cons (ps_set (i := 3) sc__enter.nd rfl (.inl rfl) (pe_ix (kIx (K := K)) (pv 0) (pv 2) (fun _ _ => rfl)))
      (pss_cons (ps_if (PW.pt (pw_and (pt_truth (pe_ix (kIx (K := K)) (pv 1) (pv 2) (fun _ _ => rfl)) (by intro _; rfl)) (pw_and1 (pt_cmpR op_isN (pv 3) pe_non (nomark _))))) (pss_cons (ps_set (i := 4) sc__enter.nd rfl (.inl rfl) (pe_ifExp (pt_cmpR op_gt (pe_ix (kIx (K := K)) (pv 1) (pv 2) (fun _ _ => rfl)) pe_int (nomark _)) (pv 1) (pe_lc (own := [("entry", 7)]) rfl sc__enter.nd (kSeq (K := K) (pv 1)) (blkOk_by (N := ["steps", "row", "column", "step", "positive", "quotient", "rest", "entry"]) (sc := defScope st__enter) (by decide +kernel)) (fun _ _ _ _ _ => (pg_name (i := 7) sc__enter.nd rfl (.inl rfl))) (fun _ _ _ _ _ => pts_nil) (fun _ _ _ _ _ => (pe_un un_neg (pv 7))))))
      (pss_cons (ps_asg (pe_call G__lowered (hr.mono (by decide)) rfl D__lowered.mg D__lowered.fn.kp D__lowered.bd .nil pass0 (pa_cons (pv 4) (pa_cons (pv 2) (pa_cons (pv 0) pa_nil)))) (pg_sub (pv 0) (pv 2) set_list))
      (pss_one ps_retN))) pss_nil)
      (pss_one (ps_if (pt_truth (pe_ix (kIx (K := K)) (pv 1) (pv 2) (fun _ _ => rfl)) (by intro _; rfl)) (pss_cons (ps_asg (pe_callB (call_divmodP (seeX NS hP (hr.mono (by decide)) sc__enter)) (by rfl) Z.divmod_ PyProof.Rows.Boot.«divmod» (pa_cons (pe_ix (kIx (K := K)) (pv 1) (pv 2) (fun _ _ => rfl)) (pa_cons (pe_ix (kIx (K := K)) (pv 3) (pv 2) (fun _ _ => rfl)) pa_nil))) (kPgT (K := K) (n := 2) rfl (pgs_cons (pg_name (i := 5) sc__enter.nd rfl (.inl rfl)) (pgs_cons (pg_name (i := 6) sc__enter.nd rfl (.inl rfl)) pgs_nil))))
      (pss_one (ps_if (pt_cmpR (kEq (K := K) hr.units) (pv 6) pe_int (nomark _)) (pss_one (ps_set (i := 1) sc__enter.nd rfl (.inl rfl) (pe_call G__less (hr.mono (by decide)) rfl D__less.mg D__less.fn.kp D__less.bd .nil pass0 (pa_cons (pv 1) (pa_cons (pv 5) (pa_cons (pv 3) pa_nil)))))) (pss_one (ps_set (i := 1) sc__enter.nd rfl (.inl rfl) (pe_call G__merge (hr.mono (by decide)) rfl D__merge.mg D__merge.fn.kp D__merge.bd .nil pass0 (pa_cons (pv 0) (pa_cons (pv 2) (pa_cons (pv 1) pa_nil))))))))) pss_nil)))))), ?_⟩
  refine ⟨_, rfl, ra, _, rfl, .inl (SqL.of hra), ?_⟩
  refine ⟨_, rfl, by rw [List.length_map, hul]; omega, by rw [List.length_map, hul]; omega, ?_⟩
  rw [List.length_map, hul, Int.toNat_natCast]
  have pwz : ∀ i, i ≤ 2 * N + 4 → sm8 (Hn.zB N M * (1 + Hn.zB N M) ^ i) := fun i hi => sm8_mono (Nat.mul_le_mul_left _ (Nat.pow_le_pow_right (by omega) hi)) hrm
  have z8 : sm8 (Hn.zB N M) := by have := pwz 0 (by omega); rwa [Nat.pow_zero, Nat.mul_one] at this
  refine for_it (walk_range (lo := 0) (n := N)) (fun i σ H' => ∃ (pr : Addr) (row : List Int) (ws : List V) (st : Hn.Steps) (v2 v3 v4 v5 v6 v7 : Option V), σ = [some (.ref sa), some (.ref pr), v2, v3, v4, v5, v6, v7] ∧ ExB sa H H' ∧ pr ≠ sa ∧ H' pr = some (.lst (iV row)) ∧ StAt H' sa ws st ∧ Hn.RI N M R st0 u i st row)
    ⟨ra, u, ws, st0, _, _, _, _, _, _, rfl, fun _ _ _ h => h, nra, hra, S, Hn.RI.start br hM hul hu⟩ (fun _ _ _ _ _ => trivial) (fun c x σ H' H6 hc p y => ?_) (fun σ H' p => ?_)
  · obtain ⟨pr, row, ws, st, v2, v3, v4, v5, v6, v7, rfl, eb, npr, hpr, S, I⟩ := p
    obtain ⟨rfl, rfl⟩ := y
    show gName 2 (V.int (0 + (c : Int))) _ _ _
    rw [Int.zero_add]
    have hcs : c < st.length := by rw [I.e.len]; omega
    obtain ⟨v, hv, hst, rv⟩ := S.get hcs
    have ir : (iV row)[c]? = some (.int (Hn.fv row c)) := by rw [List.getElem?_map, Hn.fv_get (by rw [I.rl]; exact hc)]; rfl
    refine ⟨_, rfl, _, rfl, ixl S.at_ (atI_nat hv) ?_⟩
    by_cases hr0 : Hn.fv row c = 0
    · -- nothing here
      have I2 := I.skip hr0
      have t0 : (Hn.fv row c != 0) = false := by simpa using hr0
      refine ⟨_, rfl, _, rfl, ixl hpr (atI_nat ir) ⟨_, rfl, ?_⟩⟩
      rw [t0]
      refine iteF ?_
      refine ⟨_, rfl, _, rfl, ixl hpr (atI_nat ir) ⟨_, rfl, ?_⟩⟩
      rw [t0]
      exact iteF ⟨pr, row, ws, st, _, _, _, _, _, _, rfl, eb, npr, hpr, S, I2⟩
    have t1 : (Hn.fv row c != 0) = true := by simpa using hr0
    generalize hx : st[c] = x at hst rv
    cases x with
    | none =>
      change v = .non at rv
      subst rv
      -- a new step
      refine ⟨_, rfl, _, rfl, ixl hpr (atI_nat ir) ⟨_, rfl, ?_⟩⟩
      rw [t1]
      refine iteT ⟨_, rfl, rfl, _, rfl, ?_⟩
      refine iteT ?_
      dsimp only
      have fin : ∀ (k : Int) (pp : Addr) (pos : List Int) (H3 : Hp) (v4' v7' : Option V), (k = 1 ∨ k = -1) → pos.length = N → (∀ j, Hn.fv pos j = k * Hn.fv row j) → 0 < Hn.fv pos c → Ex H6 H3 → pp ≠ sa → H3 pp = some (.lst (iV pos)) →
          ∀ (H4 : Hp) (pz : Addr) (zs : List Int), Ex H3 H4 → pz ≠ sa → H4 pz = some (.lst (iV zs)) → Hn.Low N st c pos zs → Q .non (upd H4 sa (.lst (ws.set c (.ref pz)))) := fun k pp pos H3 v4' v7' hk hl ep hp e3 npp hpp H4 pz zs e4 npz hz low => by
        have S4 := (S.ex e3).ex e4
        exact kq _ _ _ ((eb.trans (ExB.of (e3.trans e4))).trans ExB.put) (S4.set (c := c) npz hz) (I.create br hM hu (by rw [hst]) hk hl ep hp low)
      have bpos : ∀ (k : Int) (pos : List Int), (k = 1 ∨ k = -1) → (∀ j, Hn.fv pos j = k * Hn.fv row j) → Hn.bnd (Hn.zB N M * (1 + Hn.zB N M) ^ c) (Hn.fv pos) := fun k pos hk ep j => by
        rw [ep]
        have := I.rb j
        rcases hk with h | h <;> rw [h] <;> omega
      have p8 : sm8 (Hn.zB N M * (1 + Hn.zB N M) ^ c * (1 + Hn.zB N M) ^ N) := by
        rw [Nat.mul_assoc, ← Nat.pow_add]
        exact pwz _ (by omega)
      refine cut (fun σ' H3 => ∃ (pp : Addr) (k : Int) (pos : List Int), σ' = [some (.ref sa), some (.ref pr), some (.int (c : Nat)), some .non, some (.ref pp), v5, v6, v7] ∧ (k = 1 ∨ k = -1) ∧ pos.length = N ∧ (∀ j, Hn.fv pos j = k * Hn.fv row j) ∧ 0 < Hn.fv pos c ∧ Ex H6 H3 ∧ pp ≠ sa ∧ H3 pp = some (.lst (iV pos))) ?_ ?_
      rotate_left
      · intro N2 hN2
        refine ⟨_, rfl, _, rfl, ixl hpr (atI_nat ir) ⟨_, _, rfl, rfl, _, rfl, iteD (fun h => ?_) fun h => ?_⟩⟩
        · exact ⟨_, rfl, hN2 _ _ ⟨pr, 1, row, rfl, .inl rfl, I.rl, fun j => (Int.one_mul _).symm, h, Ex.refl _, npr, hpr⟩⟩
        · refine ⟨_, rfl, false, pr, _, rfl, SqK.lst hpr, fun D hD => ?_⟩
          refine lc_pure (walk_k (K := K) (k := false) (a := pr) (xs := iV row)) hD (fun _ => true) (fun i => .int (-(row.getD i 0))) (by simp; rw [I.rl]; omega) (fun _ e => e.seq (SqK.lst hpr)) (fun i x Hc Hy hi e y Qe Qn qe qn => ?_) (fun H1 ex hL => ?_)
          · obtain ⟨rfl, hx⟩ := y
            obtain ⟨z1, hz1, rfl⟩ := ints_at hx
            have e1 : row.getD i 0 = z1 := by rw [List.getD_eq_getElem?_getD, hz1]; rfl
            rw [e1] at qe
            exact ⟨rfl, _, rfl, _, rfl, qe rfl _ (Ex.refl _)⟩
          · rw [picked_all, List.length_map, map_range row (fun x => V.int (-x)) _ (fun i x h => by rw [List.getD_eq_getElem?_getD, h]; rfl)] at hL
            have nD : D ≠ sa := fun e => by rw [e, S.at_] at hD; cases hD
            refine hN2 _ _ ⟨D, -1, row.map fun x => -x, rfl, .inr rfl, by rw [List.length_map]; exact I.rl, fun j => by rw [Hn.fv_map (f := fun x => -x) (by rfl)]; omega, by rw [Hn.fv_map (f := fun x => -x) (by rfl)]; omega, ex, nD, ?_⟩
            rw [hL]
            show _ = some (HO.lst (List.map V.int (List.map (fun x => -x) row)))
            rw [List.map_map]; rfl
      · rintro σ' H3 ⟨pp, k, pos, rfl, hk, hl, ep, hp, e3, npp, hpp⟩
        have S3 := S.ex e3
        refine ⟨_, rfl, _, rfl, _, rfl, ?_⟩
        refine ⟨pp, sa, c, N, _, Hn.zB N M, pos, ws, st, rfl, npp, hpp, S3, I.e, hN, hc, hl, bpos k pos hk ep, I.zs, p8, z8, fun H4 pz zs e4 npz hz low => ?_⟩
        have S4 := S3.ex e4
        exact ⟨_, rfl, _, rfl, sa, ws, c, c, rfl, rfl, S4.at_, ixN_nat (by rw [S4.len]; exact hcs), fin k pp pos H3 none none hk hl ep hp e3 npp hpp H4 pz zs e4 npz hz low⟩
    | some l =>
      obtain ⟨b, rfl, nb, hbl⟩ := rv
      have pl := I.e.piv _ _ hst
      have ll := I.e.row _ _ hst
      have hll : row.length = l.length := by rw [I.rl, ll]
      have il : (iV l)[c]? = some (.int (Hn.fv l c)) := by rw [List.getElem?_map, Hn.fv_get (by rw [ll]; exact hc)]; rfl
      refine ⟨_, rfl, _, rfl, ixl hpr (atI_nat ir) ⟨_, rfl, ?_⟩⟩
      rw [t1]
      refine iteT ⟨_, rfl, rfl, _, rfl, ?_⟩
      refine iteF ?_
      refine ⟨_, rfl, _, rfl, ixl hpr (atI_nat ir) ⟨_, rfl, ?_⟩⟩
      rw [t1]
      refine iteT ?_
      refine ⟨_, rfl, _, rfl, ixl hpr (atI_nat ir) ⟨_, rfl, _, rfl, ixl hbl (atI_nat il) ⟨_, _, rfl, by omega, fun T hT => ?_⟩⟩⟩
      have e1 := Ex.new (o := .tup [.int ((Hn.fv row c).fdiv (Hn.fv l c)), .int ((Hn.fv row c).fmod (Hn.fv l c))]) hT
      refine ⟨T, _, rfl, SqT.of upd_same, rfl, _, _, rfl, _, _, rfl, rfl, ?_⟩
      generalize upd H6 T (.tup [.int ((Hn.fv row c).fdiv (Hn.fv l c)), .int ((Hn.fv row c).fmod (Hn.fv l c))]) = H7 at e1
      have ed := Hn.fdm (Hn.fv row c) (Hn.fv l c)
      refine ⟨_, rfl, .inl ⟨rfl, _, rfl, iteV (fun c0 => ?_) fun c0 => ?_⟩⟩
      · rw [c0] at ed
        have qb : ((Hn.fv row c).fdiv (Hn.fv l c)).natAbs ≤ Hn.zB N M * (1 + Hn.zB N M) ^ c := by
          have h1 := I.rb c
          have h2 : (Hn.fv row c).natAbs = ((Hn.fv row c).fdiv (Hn.fv l c)).natAbs * (Hn.fv l c).natAbs := by rw [← Int.natAbs_mul]; congr 1; omega
          have h3 : ((Hn.fv row c).fdiv (Hn.fv l c)).natAbs ≤ ((Hn.fv row c).fdiv (Hn.fv l c)).natAbs * (Hn.fv l c).natAbs := Nat.le_mul_of_pos_right _ (by omega)
          omega
        refine ⟨_, rfl, _, rfl, _, rfl, ?_⟩
        refine ⟨false, pr, b, _, row, l, rfl, e1 _ _ hpr, SqK.lst (e1 _ _ hbl), hll, by rw [I.rl]; omega, bg_le qb (pwz c (by omega)), fun y hy => bg_at z8 (I.zs _ _ hst) hy, fun H8 p8 e8 hp8 h8 => ?_⟩
        have np8 : p8 ≠ sa := by
          rcases hp8 with h | h
          · rw [h]; exact npr
          · exact fun e => by rw [e, e1 _ _ S.at_] at h; cases h
        exact ⟨p8, _, ws, st, _, _, _, _, _, _, rfl, (eb.trans (ExB.of e1)).trans (ExB.of e8), np8, h8, (S.ex e1).ex e8, I.less br hst (by omega)⟩
      · refine ⟨_, rfl, _, rfl, _, rfl, ?_⟩
        refine ⟨pr, sa, c, N, M, R, u, row, l, ws, st0, st, rfl, npr, e1 _ _ hpr, S.ex e1, hN, hrm, hM, hu, br, I, hst, hr0, fun H8 p8 row' ws' st' e8 np8 h8 S8 I8 => ?_⟩
        exact ⟨p8, row', ws', st', _, _, _, _, _, _, rfl, (eb.trans (ExB.of e1)).trans e8, np8, h8, S8, I8⟩
  · obtain ⟨pr, row, ws, st, v2, v3, v4, v5, v6, v7, rfl, eb, npr, hpr, S, I⟩ := p
    exact kq H' ws st eb S (I.fin br hu)
end
end K06

set_option maxHeartbeats 4000000
namespace K06
open PySem PySem.Spec PyProof.Rows L2 Hg
section
variable {P : Program} {w : World} {K : PySem.W.Frag} {mg : Str → Option Value} {base : Heap}
theorem ok__tails {f : Addr} {fd : FuncData} (F : DefK K mg "_tails" st__tails ["rows", "left", "size"] f fd) (Z : Zs mg) {f__enter : Addr} {fd__enter : FuncData} (D__enter : DefK K mg "_enter" st__enter ["steps", "row"] f__enter fd__enter) (G__enter : FnOk P w K mg base CX0 35 f__enter fd__enter ["steps", "row"] (sp__enter K)) {f__lowered : Addr} {fd__lowered : FuncData} (D__lowered : DefK K mg "_lowered" st__lowered ["row", "column", "steps"] f__lowered fd__lowered) (G__lowered : FnOk P w K mg base CX0 33 f__lowered fd__lowered ["row", "column", "steps"] (sp__lowered K)) (NS : base.NoSeer) (hP : P.given.tree = none) :
    FnOk P w K mg base CX0 36 f fd ["rows", "left", "size"] (sp__tails K) := by
  refine F.fn.ok sc__tails (fun vs H Q E h => by first | exact listedM_len h | (obtain ⟨rfl, _⟩ := h; rfl) | (obtain ⟨_, rfl, _⟩ := h; rfl) | (obtain ⟨_, _, rfl, _⟩ := h; rfl) | (obtain ⟨_, _, _, rfl, _⟩ := h; rfl) | (obtain ⟨_, _, _, _, rfl, _⟩ := h; rfl) | (obtain ⟨_, _, _, _, _, rfl, _⟩ := h; rfl) | (obtain ⟨_, _, _, _, _, _, rfl, _⟩ := h; rfl) | (obtain ⟨_, _, _, _, _, _, _, rfl, _⟩ := h; rfl) | (obtain ⟨_, _, _, _, _, _, _, _, rfl, _⟩ := h; rfl) | (obtain ⟨_, _, _, _, _, _, _, _, _, rfl, _⟩ := h; rfl) | (obtain ⟨_, _, _, _, _, _, _, _, _, _, rfl, _⟩ := h; rfl) | (obtain ⟨_, _, _, _, _, _, _, _, _, _, _, rfl, _⟩ := h; rfl) | (obtain ⟨_, _, _, _, _, _, _, _, _, _, _, _, rfl, _⟩ := h; rfl) | (obtain ⟨_, _, _, _, _, _, _, _, _, _, _, _, _, rfl, _⟩ := h; rfl) | (obtain ⟨_, _, _, _, _, _, _, _, _, _, _, _, _, _, rfl, _⟩ := h; rfl) | (obtain ⟨_, _, _, _, _, _, _, _, _, _, _, _, _, _, _, rfl, _⟩ := h; rfl) | (obtain ⟨_, _, _, _, _, _, _, _, _, _, _, _, _, _, _, _, rfl, _⟩ := h; rfl) | (obtain ⟨_, _, _, _, _, _, _, _, _, _, _, _, _, _, _, _, _, rfl, _⟩ := h; rfl) | (obtain ⟨_, _, _, _, _, _, _, _, _, _, _, _, _, _, _, _, _, _, rfl, _⟩ := h; rfl) | (obtain ⟨_, _, _, _, _, _, _, _, _, _, _, _, _, _, _, _, _, _, _, rfl, _⟩ := h; rfl) | (obtain ⟨_, _, _, _, _, _, _, _, _, _, _, _, _, _, _, _, _, _, _, _, rfl, _⟩ := h; rfl) | (obtain ⟨_, _, _, _, _, _, _, _, _, _, _, _, _, _, _, _, _, _, _, _, _, rfl, _⟩ := h; rfl) | (obtain ⟨_, _, _, _, _, _, _, _, _, _, _, _, _, _, _, _, _, _, _, _, _, _, rfl, _⟩ := h; rfl) | (obtain ⟨_, _, _, _, _, _, _, _, _, _, _, _, _, _, _, _, _, _, _, _, _, _, _, rfl, _⟩ := h; rfl)) (fun cdv A outer s H vs Q E hr h => ?_)
  obtain ⟨k, a, L, n, M, xs, rows, rfl, ha, hrows, hLn, hrl, hrow, hM, hrm, kq⟩ := h
  refine ⟨_, (pss_cons (ps_set (i := 3) sc__tails.nd rfl (.inl rfl) (pe_op op_rep (pe_lst (pa_cons pe_non pa_nil)) (pe_op (kAdd (K := K)) (pv 1) (pv 2))))
      (pss_cons (ps_for PassesOwn.never rfl (RT.pi_revA (by rfl) Z.reversed_ (pe_callTy (kLst (K := K)) (by rfl) Z.list_ PyProof.Rows.Boot.«list» (pa_cons (pv 0) pa_nil))) (pg_name (i := 4) sc__tails.nd rfl (.inl rfl)) (pss_one (ps_expr (pe_call G__enter (hr.mono (by decide)) rfl D__enter.mg D__enter.fn.kp D__enter.bd .nil pass0 (pa_cons (pv 3) (pa_cons (pe_callTy (kLst (K := K)) (by rfl) Z.list_ PyProof.Rows.Boot.«list» (pa_cons (pv 4) pa_nil)) pa_nil))))))
      (pss_cons (ps_setLc (i := 5) (own := [("step", 7)]) rfl sc__tails.nd rfl rfl (sw_true rfl rfl rfl (by decide +kernel)) (kSeq (K := K) (pe_slice (kSl (K := K)) (pv 3) (po_some (pv 1)) po_none)) (blkOk_by (N := ["rows", "left", "size", "steps", "row", "tails", "column", "step", "tail"]) (sc := defScope st__tails) (by decide +kernel)) (fun _ _ _ _ _ => (pg_name (i := 7) sc__tails.nd rfl (.inl rfl))) (fun _ _ _ _ _ => pts_nil) (fun _ _ _ _ _ => (pe_ifExp (pt_cmpR op_isN (pv 7) pe_non (nomark _)) (pv 7) (pe_slice (kSl (K := K)) (pv 7) (po_some (pv 1)) po_none))))
      (pss_cons (ps_for PassesOwn.never rfl (pi_revR (by rfl) Z.reversed_ (prg_1 (by rfl) Z.range_ (pv 2))) (pg_name (i := 6) sc__tails.nd rfl (.inl rfl)) (pss_one (ps_if (pt_cmpR op_notN (pe_ix (kIx (K := K)) (pv 5) (pv 6) (fun _ _ => rfl)) pe_non (nomark _)) (pss_one (ps_asg (pe_call G__lowered (hr.mono (by decide)) rfl D__lowered.mg D__lowered.fn.kp D__lowered.bd .nil pass0 (pa_cons (pe_ix (kIx (K := K)) (pv 5) (pv 6) (fun _ _ => rfl)) (pa_cons (pv 6) (pa_cons (pv 5) pa_nil)))) (pg_sub (pv 5) (pv 6) set_list))) pss_nil)))
      (pss_one (ps_ret (pe_callTy (kTup (K := K)) (by rfl) Z.tuple_ PyProof.Rows.Boot.«tuple» (pa_cons (pe_lc (own := [("tail", 8)]) rfl sc__tails.nd (kSeq (K := K) (pv 5)) (blkOk_by (N := ["rows", "left", "size", "steps", "row", "tails", "column", "step", "tail"]) (sc := defScope st__tails) (by decide +kernel)) (fun _ _ _ _ _ => (pg_name (i := 8) sc__tails.nd rfl (.inl rfl))) (fun _ _ _ _ _ => (pts_one (pt_cmpR op_notN (pv 8) pe_non (nomark _)))) (fun _ _ _ _ _ => (pe_callTy (kTup (K := K)) (by rfl) Z.tuple_ PyProof.Rows.Boot.«tuple» (pa_cons (pv 8) pa_nil)))) pa_nil)))))))), ?_⟩
  have pwz : ∀ i, i ≤ 2 * (L + n) + 4 → sm8 (Hn.zB (L + n) M * (1 + Hn.zB (L + n) M) ^ i) := fun i hi => sm8_mono (Nat.mul_le_mul_left _ (Nat.pow_le_pow_right (by omega) hi)) hrm
  have z8 : sm8 (Hn.zB (L + n) M) := by have := pwz 0 (by omega); rwa [Nat.pow_zero, Nat.mul_one] at this
  refine ⟨by show 1 ≤ sizeLine; decide, fun l0 hl0 => ⟨_, rfl, _, rfl, .inl ⟨_, _, rfl, rfl, ?_⟩⟩⟩
  have e0 := Ex.new (o := .lst [.non]) hl0
  refine ⟨l0, _, _, rfl, rfl, upd_same, by omega, by omega, by have : ((L : Int) + (n : Int)).toNat = L + n := by omega
                                                               rw [this, sizeLine_eq]; show 1 * (L + n) ≤ _; omega, fun sa hsa => ?_⟩
  have er : (List.replicate ((L : Int) + (n : Int)).toNat [V.non]).flatten = List.replicate (L + n) .non := by
    rw [show ((L : Int) + (n : Int)).toNat = L + n by omega]
    exact rep_flat _ _
  rw [er]
  have ga : H sa = none := e0.free hsa
  have S0 : StAt (upd (upd H l0 (.lst [.non])) sa (.lst (List.replicate (L + n) .non))) sa (List.replicate (L + n) .non) (List.replicate (L + n) none) :=
    ⟨upd_same, by rw [List.length_replicate, List.length_replicate], fun i v x h1 h2 => by
      have e1 := List.eq_of_mem_replicate (List.mem_of_getElem? h1)
      have e2 := List.eq_of_mem_replicate (List.mem_of_getElem? h2)
      rw [e1, e2]; rfl⟩
  have e1 := e0.trans (Ex.new (o := .lst (List.replicate (L + n) .non)) hsa)
  generalize upd (upd H l0 (.lst [.non])) sa (.lst (List.replicate (L + n) .non)) = H1 at S0 e1
  have ha1 := e1.seq ha
  refine ⟨_, rfl, a, _, rfl, ha1.or, fun lr hlr => ?_⟩
  have e2 := e1.trans (Ex.new (o := .lst xs) hlr)
  have nlr : lr ≠ sa := fun e => by rw [e, S0.at_] at hlr; cases hlr
  refine ⟨lr, xs, rfl, .inl ⟨SqL.of upd_same, ?_⟩⟩
  have hlx : upd H1 lr (.lst xs) lr = some (.lst xs) := upd_same
  have S1 := S0.ex (Ex.new (o := .lst xs) hlr)
  generalize upd H1 lr (.lst xs) = H2 at e2 hlx S1
  have xl := hrows.1
  refine for_it (walk_rev (K := K) (a := lr) (xs := xs)) (fun i σ H' => ∃ (ws : List V) (st : Hn.Steps) (v4 v5 v6 v7 v8 : Option V), σ = [some (.ref a), some (.int (L : Nat)), some (.int (n : Nat)), some (.ref sa), v4, v5, v6, v7, v8] ∧ ExB sa H2 H' ∧ StAt H' sa ws st ∧ Hn.BR (L + n) M (fun v => ∃ r ∈ rows.reverse.take i, v = Hn.fv r) st)
    ⟨_, _, _, _, _, _, _, rfl, fun _ _ _ h => h, S1, Hn.BR.empty.congr fun v => ⟨fun h => h.elim, fun ⟨r, hr, _⟩ => by simp at hr⟩⟩ (fun i σ H' _ p => by obtain ⟨_, _, _, _, _, _, _, _, eb, _⟩ := p; exact SqL.of (eb _ _ nlr hlx)) (fun i x σ H' H6 hi p y => ?_) (fun σ H' p => ?_)
  · obtain ⟨ws, st, v4, v5, v6, v7, v8, rfl, eb, S, br⟩ := p
    obtain ⟨rfl, hx⟩ := y
    obtain ⟨r, hri⟩ : ∃ r, rows[xs.length - 1 - i]? = some r := ⟨_, List.getElem?_eq_getElem (by omega)⟩
    have hmem := List.mem_of_getElem? hri
    obtain ⟨kr, ar, rfl, hr⟩ := hrows.2 _ _ _ hx hri
    have hrev : rows.reverse[i]? = some r := by
      rw [List.getElem?_reverse (by omega), ← xl]
      exact hri
    obtain ⟨rlen, rbnd⟩ := hrow r hmem
    have hr6 : SqK K kr H6 ar (iV r) := ExB.seq (fun b o n h => eb b o n (e2 b o h)) ga hr
    refine ⟨_, rfl, _, rfl, ar, _, rfl, hr6.or, fun pr hpr => ?_⟩
    have S2 := S.ex (Ex.new (o := .lst (iV r)) hpr)
    have npr : pr ≠ sa := fun e => by rw [e, S.at_] at hpr; cases hpr
    refine ⟨pr, sa, L + n, M, _, r, ws, st, rfl, npr, upd_same, S2, hLn, hrm, hM, rlen, rbnd, br, fun H7 ws' st' e7 S7 br7 => ?_⟩
    refine ⟨ws', st', _, _, _, _, _, rfl, (eb.trans (ExB.of (Ex.new hpr))).trans e7, S7, br7.congr fun v => ?_⟩
    rw [List.take_succ, hrev, Option.toList_some]
    constructor
    · rintro (⟨r', h1, h2⟩ | h)
      · exact ⟨r', by simp [h1], h2⟩
      · exact ⟨r, by simp, h⟩
    · rintro ⟨r', h1, h2⟩
      rcases List.mem_append.mp h1 with h | h
      · exact .inl ⟨r', h, h2⟩
      · rw [List.mem_singleton.mp h] at h2; exact .inr h2
  · obtain ⟨ws, st, v4, v5, v6, v7, v8, rfl, eb, S, br⟩ := p
    have br : Hn.BR (L + n) M (Hn.RL rows) st := br.congr fun v => by
      constructor
      · rintro ⟨r, h1, h2⟩
        exact ⟨r, List.mem_reverse.mp (List.mem_of_mem_take h1), h2⟩
      · rintro ⟨r, h1, h2⟩
        exact ⟨r, by rw [List.take_of_length_le (by rw [List.length_reverse]; omega)]; exact List.mem_reverse.mpr h1, h2⟩
    have E : ExB sa H H' := fun b o n h => eb b o n (e2 b o h)
    have stl : st.length = L + n := br.e.len
    refine ⟨_, rfl, _, rfl, _, rfl, .inl ⟨sa, ws, rfl, SqL.of S.at_, fun lc hlc => ?_⟩⟩
    have ecut : cutV ws (some ((L : Nat) : Int)) none = ws.drop L := cut_from (by rw [S.len, stl]; omega)
    rw [ecut]
    have nlc : lc ≠ sa := fun e => by rw [e, S.at_] at hlc; cases hlc
    have Slc := S.ex (Ex.new (o := .lst (ws.drop L)) hlc)
    have E3 : ExB sa H (upd H' lc (.lst (ws.drop L))) := fun b o n h => Ex.new hlc _ _ (E b o n h)
    have hcl : upd H' lc (.lst (ws.drop L)) lc = some (.lst (ws.drop L)) := upd_same
    generalize upd H' lc (.lst (ws.drop L)) = H3 at Slc E3 hcl
    refine ⟨false, lc, _, rfl, SqK.lst hcl, fun D hD => ?_⟩
    have nDsa : sa ≠ D := fun e => by rw [← e, Slc.at_] at hD; cases hD
    refine lc_rows (walk_k (K := K) (k := false) (a := lc) (xs := ws.drop L)) hD (fun i acc H' => acc.length = i ∧ ∀ (j : Nat) (v : V) (x : Option (List Int)), acc[j]? = some v → (Hn.dropS L st)[j]? = some x → RowV H' D v x) (fun _ => ⟨rfl, fun j v x h => by simp at h⟩)
      (fun i acc G G' e p => ⟨p.1, fun j v x h1 h2 => (p.2 j v x h1 h2).exB e⟩) (fun i acc G p => Nat.le_of_eq p.1) (by rw [List.length_drop, S.len, stl]; omega) (fun G e => e.seq (SqK.lst hcl))
      (fun i x Hc Hy acc hi ex hacc pa y Qe Qn qe qn => ?_) (fun H4 acc ex pa hacc => ?_)
    · obtain ⟨rfl, hx⟩ := y
      rw [List.getElem?_drop] at hx
      have hi' : L + i < st.length := by rw [← S.len]; exact (List.getElem?_eq_some_iff.mp hx).1
      have hst : st[L + i]? = some st[L + i] := List.getElem?_eq_getElem hi'
      have rv := (Slc.ex ex).row _ _ _ hx hst
      have hd : (Hn.dropS L st)[i]? = some (st[L + i].map (List.drop L)) := by rw [Hn.dropS_at, hst]; rfl
      generalize st[L + i] = z at hst rv hd
      have next : ∀ (v : V) (H5 : Hp), Ex Hy H5 → RowV H5 D v (z.map (List.drop L)) → Qe v H5 := fun v H5 e5 r5 => by
        refine qe v H5 e5 ⟨by rw [List.length_append, pa.1]; rfl, fun j w x h1 h2 => ?_⟩
        by_cases hj : j < acc.length
        · rw [List.getElem?_append_left hj] at h1
          exact (pa.2 j w x h1 h2).ex e5
        · rw [List.getElem?_append_right (by omega)] at h1
          have : j - acc.length = 0 := by have := (List.getElem?_eq_some_iff.mp h1).1; simp at this; omega
          rw [this] at h1
          have ej : j = i := by have := pa.1; omega
          rw [ej, hd] at h2
          cases h1
          cases h2
          exact r5
      cases z with
      | none =>
        change x = .non at rv
        subst rv
        exact ⟨rfl, _, rfl, rfl, _, rfl, iteT ⟨_, rfl, next .non _ (Ex.refl _) rfl⟩⟩
      | some l =>
        obtain ⟨b, rfl, nb, hb⟩ := rv
        have ll := br.e.row _ _ hst
        refine ⟨rfl, _, rfl, rfl, _, rfl, iteF ⟨_, rfl, _, rfl, _, rfl, .inl ⟨b, _, rfl, SqL.of hb, fun q hq => ?_⟩⟩⟩
        have ec : cutV (iV l) (some ((L : Nat) : Int)) none = iV (l.drop L) := by
          rw [cut_from (by rw [List.length_map, ll]; omega)]
          show (List.map V.int l).drop L = List.map V.int (l.drop L)
          rw [List.map_drop]
        rw [ec]
        have nqD : q ≠ D := fun e => by rw [e, hacc] at hq; cases hq
        exact next _ _ (Ex.new hq) ⟨q, rfl, nqD, upd_same⟩
    · have len4 : acc.length = (Hn.dropS L st).length := by
        rw [pa.1, List.length_drop, S.len]
        unfold Hn.dropS
        rw [List.length_map, List.length_drop]
      have S4 : StAt H4 D acc (Hn.dropS L st) := ⟨hacc, len4, pa.2⟩
      have F0 := Hn.FI.start br hM rfl
      have E4 : Ex H H4 := fun b o h => by
        by_cases e : b = sa
        · rw [e, ga] at h; cases h
        · exact ex _ _ (E3 b o e h)
      have gD : H D = none := by
        cases h : H D with
        | none => rfl
        | some o => rw [E3 D o (Ne.symm nDsa) h] at hD; cases hD
      refine ⟨_, rfl, _, rfl, by omega, by omega, by omega, by omega, ?_⟩
      have en : (((n : Nat) : Int) - 0).toNat = n := by omega
      rw [en]
      have pz : sm8 (Hn.zB (L + n) M * (1 + Hn.zB (L + n) M) ^ n) := pwz n (by omega)
      refine for_it (walk_rangeC (lo := (0 : Int) + (n : Nat) - 1) (c := -1) (n := n)) (fun i σ H' => ∃ (ws : List V) (tl : Hn.Steps) (v6 v7 v8 : Option V), σ = [some (.ref a), some (.int (L : Nat)), some (.int (n : Nat)), some (.ref sa), v4, some (.ref D), v6, v7, v8] ∧ ExB D H4 H' ∧ StAt H' D ws tl ∧ Hn.FI (L + n) M L n (Hn.RL rows) st (n - i) tl)
        ⟨_, _, _, _, _, rfl, fun _ _ _ h => h, S4, F0⟩ (fun _ _ _ _ _ => trivial) (fun i x σ H' H6 hi p y => ?_) (fun σ H' p => ?_)
      · obtain ⟨ws, tl, v6, v7, v8, rfl, eb, S, F⟩ := p
        obtain ⟨rfl, rfl⟩ := y
        obtain ⟨c, hc⟩ : ∃ c : Nat, c = n - (i + 1) := ⟨_, rfl⟩
        have ec : (0 : Int) + (n : Nat) - 1 + (i : Nat) * -1 = (c : Nat) := by omega
        show gName 6 (V.int ((0 : Int) + (n : Nat) - 1 + (i : Nat) * -1)) _ _ _
        rw [ec]
        have e1 : n - i = c + 1 := by omega
        rw [e1] at F
        have hct : c < tl.length := by rw [F.e.len]; omega
        obtain ⟨v, hv, hst, rv⟩ := S.get hct
        generalize tl[c] = z at hst rv
        refine ⟨_, rfl, _, rfl, ixl S.at_ (atI_nat hv) ?_⟩
        rw [← hc]
        cases z with
        | none =>
          change v = .non at rv
          subst rv
          refine ⟨rfl, _, rfl, ?_⟩
          exact iteF ⟨ws, tl, _, _, _, rfl, eb, S, F.skip hst⟩
        | some l =>
          obtain ⟨b, rfl, nb, hb⟩ := rv
          refine ⟨rfl, _, rfl, ?_⟩
          refine iteT ⟨_, rfl, _, rfl, ixl S.at_ (atI_nat hv) ⟨_, rfl, _, rfl, ?_⟩⟩
          refine ⟨b, D, c, n, _, _, l, ws, tl, rfl, nb, hb, S, F.e, by omega, by omega, F.e.row _ _ hst, F.zs _ _ hst, F.zs, pz, z8, fun H7 p7 z7 e7 n7 h7 low => ?_⟩
          have S7 := S.ex e7
          refine ⟨_, rfl, _, rfl, D, ws, c, c, rfl, rfl, S7.at_, ixN_nat (by rw [S7.len]; exact hct), ?_⟩
          exact ⟨_, _, _, _, _, rfl, (eb.trans (ExB.of e7)).trans ExB.put, S7.set (c := c) n7 h7, F.step br hM rfl hst low⟩
      · obtain ⟨ws, tl, v6, v7, v8, rfl, eb, S, F⟩ := p
        rw [Nat.sub_self] at F
        have E5 : Ex H H' := fun b o h => eb b o (fun e => by rw [e, gD] at h; cases h) (E4 b o h)
        have tll : tl.length = n := F.e.len
        refine ⟨_, rfl, false, D, ws, rfl, SqK.lst S.at_, fun D2 hD2 => ?_⟩
        refine lc_new (walk_k (K := K) (k := false) (a := D) (xs := ws)) hD2 (fun i acc G => ∃ as : List Addr, acc = as.map V.ref ∧ acc.length ≤ i ∧ RowsIn G as ((tl.take i).filterMap id)) ⟨[], rfl, Nat.le_refl _, RowsIn.nil⟩
          (fun i acc G G' e p => by obtain ⟨as, h1, h2, h3⟩ := p; exact ⟨as, h1, h2, h3.mono e⟩) (fun i acc G _ p => by obtain ⟨as, h1, h2, h3⟩ := p; exact h2) (by rw [S.len]; omega) (fun G e => e.seq (SqK.lst S.at_))
          (fun i x Hc Hy acc hi ex pa y Qe Qn qe qn => ?_) (fun H8 acc ex8 pa hacc => ?_)
        · obtain ⟨rfl, hx⟩ := y
          obtain ⟨as, rfl, hlen, hin⟩ := pa
          have hit : i < tl.length := by rw [← S.len]; exact hi
          have hst : tl[i]? = some tl[i] := List.getElem?_eq_getElem hit
          have rv := (S.ex ex).row _ _ _ hx hst
          generalize tl[i] = z at hst rv
          have etk : (tl.take (i + 1)).filterMap id = (tl.take i).filterMap id ++ z.toList := by
            rw [List.take_succ, hst, Option.toList_some, List.filterMap_append]
            cases z <;> rfl
          cases z with
          | none =>
            change x = .non at rv
            subst rv
            refine ⟨rfl, _, rfl, rfl, _, rfl, ?_⟩
            refine iteF (qn _ (Ex.refl _) ⟨as, rfl, by omega, ?_⟩)
            rw [etk]
            simpa using hin
          | some l =>
            obtain ⟨b, rfl, nb, hb⟩ := rv
            refine ⟨rfl, _, rfl, rfl, _, rfl, ?_⟩
            refine iteT ⟨_, rfl, b, _, rfl, .inl ⟨SqL.of hb, fun t ht => ?_⟩⟩
            refine qe _ _ (Ex.new ht) ⟨as ++ [t], by rw [List.map_append]; rfl, by rw [List.length_append]; exact Nat.succ_le_succ hlen, ?_⟩
            rw [etk]
            exact (hin.mono fun a ys h => Ex.new ht _ _ h).snoc upd_same
        · obtain ⟨as, rfl, _, hin⟩ := pa
          rw [List.take_of_length_le (by rw [S.len]; exact Nat.le_refl _)] at hin
          refine ⟨D2, _, rfl, .inl ⟨SqL.of hacc, fun t ht => ?_⟩⟩
          refine kq _ t as _ (E5.trans (ex8.trans (Ex.new ht))) upd_same (hin.mono fun a ys h => Ex.new ht _ _ h) ⟨tl, F.e, fun c l j l' h1 h2 h3 => F.red c l j l' (Nat.zero_le _) h1 h2 h3, F.sp, rfl⟩ fun r hr => ?_
          obtain ⟨x, hx, ex'⟩ := List.mem_filterMap.mp hr
          change x = some r at ex'
          subst ex'
          obtain ⟨c, hc⟩ := List.mem_iff_getElem?.mp hx
          exact ⟨F.e.row _ _ hc, F.hb br hM rfl hc⟩
end
end K06

set_option maxHeartbeats 4000000
namespace K06
open PySem PySem.Spec PyProof.Rows L2 Hg
section
variable {P : Program} {w : World} {K : PySem.W.Frag} {mg : Str → Option Value} {base : Heap}
theorem ok_hermite {f : Addr} {fd : FuncData} (F : DefK K mg "hermite" st_hermite ["rows", "size"] f fd) (Z : Zs mg) {f__tails : Addr} {fd__tails : FuncData} (D__tails : DefK K mg "_tails" st__tails ["rows", "left", "size"] f__tails fd__tails) (G__tails : FnOk P w K mg base CX0 36 f__tails fd__tails ["rows", "left", "size"] (sp__tails K)) :
    FnOk P w K mg base CX0 37 f fd ["rows", "size"] (sp_hermite K) := by
  refine F.fn.ok sc_hermite (fun vs H Q E h => by first | exact listedM_len h | (obtain ⟨rfl, _⟩ := h; rfl) | (obtain ⟨_, rfl, _⟩ := h; rfl) | (obtain ⟨_, _, rfl, _⟩ := h; rfl) | (obtain ⟨_, _, _, rfl, _⟩ := h; rfl) | (obtain ⟨_, _, _, _, rfl, _⟩ := h; rfl) | (obtain ⟨_, _, _, _, _, rfl, _⟩ := h; rfl) | (obtain ⟨_, _, _, _, _, _, rfl, _⟩ := h; rfl) | (obtain ⟨_, _, _, _, _, _, _, rfl, _⟩ := h; rfl) | (obtain ⟨_, _, _, _, _, _, _, _, rfl, _⟩ := h; rfl) | (obtain ⟨_, _, _, _, _, _, _, _, _, rfl, _⟩ := h; rfl) | (obtain ⟨_, _, _, _, _, _, _, _, _, _, rfl, _⟩ := h; rfl) | (obtain ⟨_, _, _, _, _, _, _, _, _, _, _, rfl, _⟩ := h; rfl) | (obtain ⟨_, _, _, _, _, _, _, _, _, _, _, _, rfl, _⟩ := h; rfl) | (obtain ⟨_, _, _, _, _, _, _, _, _, _, _, _, _, rfl, _⟩ := h; rfl) | (obtain ⟨_, _, _, _, _, _, _, _, _, _, _, _, _, _, rfl, _⟩ := h; rfl) | (obtain ⟨_, _, _, _, _, _, _, _, _, _, _, _, _, _, _, rfl, _⟩ := h; rfl) | (obtain ⟨_, _, _, _, _, _, _, _, _, _, _, _, _, _, _, _, rfl, _⟩ := h; rfl) | (obtain ⟨_, _, _, _, _, _, _, _, _, _, _, _, _, _, _, _, _, rfl, _⟩ := h; rfl) | (obtain ⟨_, _, _, _, _, _, _, _, _, _, _, _, _, _, _, _, _, _, rfl, _⟩ := h; rfl) | (obtain ⟨_, _, _, _, _, _, _, _, _, _, _, _, _, _, _, _, _, _, _, rfl, _⟩ := h; rfl) | (obtain ⟨_, _, _, _, _, _, _, _, _, _, _, _, _, _, _, _, _, _, _, _, rfl, _⟩ := h; rfl) | (obtain ⟨_, _, _, _, _, _, _, _, _, _, _, _, _, _, _, _, _, _, _, _, _, rfl, _⟩ := h; rfl) | (obtain ⟨_, _, _, _, _, _, _, _, _, _, _, _, _, _, _, _, _, _, _, _, _, _, rfl, _⟩ := h; rfl) | (obtain ⟨_, _, _, _, _, _, _, _, _, _, _, _, _, _, _, _, _, _, _, _, _, _, _, rfl, _⟩ := h; rfl)) (fun cdv A outer s H vs Q E hr h => ?_)
  obtain ⟨k, a, n, M, xs, rows, rfl, ha, hrows, hn, hrl, hrow, hM, hrm, kq⟩ := h
  refine ⟨_, (pss_one (ps_ret (pe_call G__tails (hr.mono (by decide)) rfl D__tails.mg D__tails.fn.kp D__tails.bd .nil pass0 (pa_cons (pv 0) (pa_cons pe_int (pa_cons (pv 1) pa_nil)))))), ?_⟩
  have e0 : 0 + n = n := Nat.zero_add n
  refine ⟨_, rfl, _, rfl, k, a, 0, n, M, xs, rows, rfl, ha, hrows, by omega, hrl, fun r hr => by rw [e0]; exact hrow r hr, hM, by rw [e0]; exact hrm, fun H' p as B e1 h1 h2 h3 h4 => ?_⟩
  exact kq H' p as B e1 h1 h2 (h3.congr fun v => by rw [Hn.shift_zero]) (by rw [e0] at h4; exact h4)
theorem ok_pivot_column {f : Addr} {fd : FuncData} (F : DefK K mg "pivot_column" st_pivot_column ["row"] f fd) (Z : Zs mg)  :
    FnOk P w K mg base CX0 1 f fd ["row"] (sp_pivot_columnN K) := by
  refine F.fn.ok sc_pivot_column (fun vs H Q E h => by first | exact listedM_len h | (obtain ⟨rfl, _⟩ := h; rfl) | (obtain ⟨_, rfl, _⟩ := h; rfl) | (obtain ⟨_, _, rfl, _⟩ := h; rfl) | (obtain ⟨_, _, _, rfl, _⟩ := h; rfl) | (obtain ⟨_, _, _, _, rfl, _⟩ := h; rfl) | (obtain ⟨_, _, _, _, _, rfl, _⟩ := h; rfl) | (obtain ⟨_, _, _, _, _, _, rfl, _⟩ := h; rfl) | (obtain ⟨_, _, _, _, _, _, _, rfl, _⟩ := h; rfl) | (obtain ⟨_, _, _, _, _, _, _, _, rfl, _⟩ := h; rfl) | (obtain ⟨_, _, _, _, _, _, _, _, _, rfl, _⟩ := h; rfl) | (obtain ⟨_, _, _, _, _, _, _, _, _, _, rfl, _⟩ := h; rfl) | (obtain ⟨_, _, _, _, _, _, _, _, _, _, _, rfl, _⟩ := h; rfl) | (obtain ⟨_, _, _, _, _, _, _, _, _, _, _, _, rfl, _⟩ := h; rfl) | (obtain ⟨_, _, _, _, _, _, _, _, _, _, _, _, _, rfl, _⟩ := h; rfl) | (obtain ⟨_, _, _, _, _, _, _, _, _, _, _, _, _, _, rfl, _⟩ := h; rfl) | (obtain ⟨_, _, _, _, _, _, _, _, _, _, _, _, _, _, _, rfl, _⟩ := h; rfl) | (obtain ⟨_, _, _, _, _, _, _, _, _, _, _, _, _, _, _, _, rfl, _⟩ := h; rfl) | (obtain ⟨_, _, _, _, _, _, _, _, _, _, _, _, _, _, _, _, _, rfl, _⟩ := h; rfl) | (obtain ⟨_, _, _, _, _, _, _, _, _, _, _, _, _, _, _, _, _, _, rfl, _⟩ := h; rfl) | (obtain ⟨_, _, _, _, _, _, _, _, _, _, _, _, _, _, _, _, _, _, _, rfl, _⟩ := h; rfl) | (obtain ⟨_, _, _, _, _, _, _, _, _, _, _, _, _, _, _, _, _, _, _, _, rfl, _⟩ := h; rfl) | (obtain ⟨_, _, _, _, _, _, _, _, _, _, _, _, _, _, _, _, _, _, _, _, _, rfl, _⟩ := h; rfl) | (obtain ⟨_, _, _, _, _, _, _, _, _, _, _, _, _, _, _, _, _, _, _, _, _, _, rfl, _⟩ := h; rfl) | (obtain ⟨_, _, _, _, _, _, _, _, _, _, _, _, _, _, _, _, _, _, _, _, _, _, _, rfl, _⟩ := h; rfl)) (fun cdv A outer s H vs Q E hr h => ?_)
  obtain ⟨k, a, r, c, rfl, hS, hl, hc, hz, hp, kq⟩ := h
  refine ⟨_, (pss_cons (ps_set (i := 1) sc_pivot_column.nd rfl (.inl rfl) pe_int)
      (pss_cons (ps_while PassesOwn.never (PW.pt (pw_and (pt_cmpR op_lt (pv 1) (pe_callB (kLen (K := K)) (by rfl) Z.len_ PyProof.Rows.Boot.«len» (pa_cons (pv 0) pa_nil)) (nomark _)) (pw_and1 (pt_cmpR (kEq (K := K) hr.units) (pe_ix (kIx (K := K)) (pv 0) (pv 1) (fun _ _ => rfl)) pe_int (nomark _))))) (pss_one (ps_aug (i := 1) sc_pivot_column.nd rfl (.inl rfl) pe_int ip_add)))
      (pss_one (ps_ret (pv 1))))), ?_⟩
  refine ⟨fun m σ H' => ∃ i : Nat, σ = [some (.ref a), some (.int (i : Int))] ∧ i ≤ c ∧ H' = H ∧ m + i = c, ⟨c, 0, rfl, Nat.zero_le _, rfl, rfl⟩, ?_⟩
  rintro m σ H' ⟨i, rfl, hi, rfl, hm⟩
  refine ⟨_, rfl, _, rfl, a, _, rfl, hS.or, _, _, rfl, rfl, _, rfl, ?_⟩
  have c1' : decide ((i : Int) < ((r.map V.int).length : Nat)) = true := by simp; omega
  rw [c1']
  refine iteT ⟨_, rfl, _, rfl, ixk hS (atI_nat (v := .int (Hn.fv r i)) (by rw [List.getElem?_map, Hn.fv_get (by omega)]; rfl)) (.inl ⟨rfl, _, rfl, ?_⟩)⟩
  refine iteV (fun h => ?_) fun h => ?_
  · refine ⟨fun σ' H' => ∃ m', m' < m ∧ _, fun _ _ h => h, ?_⟩
    have ic : i ≠ c := fun e => hp (e ▸ h)
    refine ⟨_, rfl, _, _, rfl, rfl, m - 1, by omega, i + 1, rfl, by omega, rfl, by omega⟩
  · have ic : i = c := by
      apply Classical.byContradiction
      intro n
      exact h (hz i (by omega))
    refine ⟨_, rfl, ?_⟩
    rw [ic]
    exact kq
theorem ok_coordinates {f : Addr} {fd : FuncData} (F : DefK K mg "coordinates" st_coordinates ["basis", "vector"] f fd) (Z : Zs mg) {f_pivot_column : Addr} {fd_pivot_column : FuncData} (D_pivot_column : DefK K mg "pivot_column" st_pivot_column ["row"] f_pivot_column fd_pivot_column) (G_pivot_column : FnOk P w K mg base CX0 1 f_pivot_column fd_pivot_column ["row"] (sp_pivot_columnN K)) {f__less : Addr} {fd__less : FuncData} (D__less : DefK K mg "_less" st__less ["row", "factor", "other"] f__less fd__less) (G__less : FnOk P w K mg base CX0 1 f__less fd__less ["row", "factor", "other"] (sp__less K)) (NS : base.NoSeer) (hP : P.given.tree = none) :
    FnOk P w K mg base CX0 33 f fd ["basis", "vector"] (sp_coordinates K) := by
  refine F.fn.ok sc_coordinates (fun vs H Q E h => by first | exact listedM_len h | (obtain ⟨rfl, _⟩ := h; rfl) | (obtain ⟨_, rfl, _⟩ := h; rfl) | (obtain ⟨_, _, rfl, _⟩ := h; rfl) | (obtain ⟨_, _, _, rfl, _⟩ := h; rfl) | (obtain ⟨_, _, _, _, rfl, _⟩ := h; rfl) | (obtain ⟨_, _, _, _, _, rfl, _⟩ := h; rfl) | (obtain ⟨_, _, _, _, _, _, rfl, _⟩ := h; rfl) | (obtain ⟨_, _, _, _, _, _, _, rfl, _⟩ := h; rfl) | (obtain ⟨_, _, _, _, _, _, _, _, rfl, _⟩ := h; rfl) | (obtain ⟨_, _, _, _, _, _, _, _, _, rfl, _⟩ := h; rfl) | (obtain ⟨_, _, _, _, _, _, _, _, _, _, rfl, _⟩ := h; rfl) | (obtain ⟨_, _, _, _, _, _, _, _, _, _, _, rfl, _⟩ := h; rfl) | (obtain ⟨_, _, _, _, _, _, _, _, _, _, _, _, rfl, _⟩ := h; rfl) | (obtain ⟨_, _, _, _, _, _, _, _, _, _, _, _, _, rfl, _⟩ := h; rfl) | (obtain ⟨_, _, _, _, _, _, _, _, _, _, _, _, _, _, rfl, _⟩ := h; rfl) | (obtain ⟨_, _, _, _, _, _, _, _, _, _, _, _, _, _, _, rfl, _⟩ := h; rfl) | (obtain ⟨_, _, _, _, _, _, _, _, _, _, _, _, _, _, _, _, rfl, _⟩ := h; rfl) | (obtain ⟨_, _, _, _, _, _, _, _, _, _, _, _, _, _, _, _, _, rfl, _⟩ := h; rfl) | (obtain ⟨_, _, _, _, _, _, _, _, _, _, _, _, _, _, _, _, _, _, rfl, _⟩ := h; rfl) | (obtain ⟨_, _, _, _, _, _, _, _, _, _, _, _, _, _, _, _, _, _, _, rfl, _⟩ := h; rfl) | (obtain ⟨_, _, _, _, _, _, _, _, _, _, _, _, _, _, _, _, _, _, _, _, rfl, _⟩ := h; rfl) | (obtain ⟨_, _, _, _, _, _, _, _, _, _, _, _, _, _, _, _, _, _, _, _, _, rfl, _⟩ := h; rfl) | (obtain ⟨_, _, _, _, _, _, _, _, _, _, _, _, _, _, _, _, _, _, _, _, _, _, rfl, _⟩ := h; rfl) | (obtain ⟨_, _, _, _, _, _, _, _, _, _, _, _, _, _, _, _, _, _, _, _, _, _, _, rfl, _⟩ := h; rfl)) (fun cdv A outer s H vs Q E hr h => ?_)
  obtain ⟨k, l, a, b, n, B, cs, xs, R, v, rfl, ha, hrows, hb, eR, hv, hn, hRl, hRb, hvb, hs8, kn, ks⟩ := h
  refine ⟨_, (pss_cons (ps_set (i := 2) sc_coordinates.nd rfl (.inl rfl) (pe_lst pa_nil))
      (pss_cons (ps_set (i := 3) sc_coordinates.nd rfl (.inl rfl) (pe_callTy (kLst (K := K)) (by rfl) Z.list_ PyProof.Rows.Boot.«list» (pa_cons (pv 1) pa_nil)))
      (pss_cons (ps_for PassesOwn.never rfl (kSeq (K := K) (pv 0)) (pg_name (i := 4) sc_coordinates.nd rfl (.inl rfl)) (pss_cons (ps_set (i := 5) sc_coordinates.nd rfl (.inl rfl) (pe_call G_pivot_column (hr.mono (by decide)) rfl D_pivot_column.mg D_pivot_column.fn.kp D_pivot_column.bd .nil pass0 (pa_cons (pv 4) pa_nil)))
      (pss_cons (ps_expr (pe_bm PySem.F.plainAttrs_list PySem.F.slot_list_append PySem.F.type_list_append mt_append (pv 2) (pa_cons (pe_op (oDivP (seeX NS hP (hr.mono (by decide)) sc_coordinates)) (pe_ix (kIx (K := K)) (pv 3) (pv 5) (fun _ _ => rfl)) (pe_ix (kIx (K := K)) (pv 4) (pv 5) (fun _ _ => rfl))) pa_nil)))
      (pss_one (ps_set (i := 3) sc_coordinates.nd rfl (.inl rfl) (pe_call G__less (hr.mono (by decide)) rfl D__less.mg D__less.fn.kp D__less.bd .nil pass0 (pa_cons (pv 3) (pa_cons (pe_ix (kIx (K := K)) (pv 2) (pe_un un_neg pe_int) (fun _ _ => rfl)) (pa_cons (pv 4) pa_nil)))))))))
      (pss_one (ps_ret (pe_ifExp (pt_val (pe_callB (kAnyI (K := K) rfl) (by rfl) Z.any_ PyProof.Rows.Boot.«any» (pa_cons (pv 3) pa_nil))) pe_non (pe_callTy (kTup (K := K)) (by rfl) Z.tuple_ PyProof.Rows.Boot.«tuple» (pa_cons (pv 2) pa_nil)))))))), ?_⟩
  have xl := hrows.1
  have s8 : ∀ i, i ≤ R.length → sm8 (B * (1 + B) ^ i) := fun i hi => sm8_mono (Nat.mul_le_mul_left _ (Nat.pow_le_pow_right (by omega) hi)) hs8
  refine ⟨by show 0 ≤ sizeLine; decide, fun Fs hF => ⟨_, rfl, b, _, rfl, ((Ex.new (o := .lst []) hF).seq hb).or, fun p0 hp0 => ?_⟩⟩
  have e0 := (Ex.new (o := .lst []) hF).trans (Ex.new (o := .lst (iV v)) hp0)
  have nF : p0 ≠ Fs := fun e => by rw [e, upd_same] at hp0; cases hp0
  have hF0 : (upd (upd H Fs (.lst [])) p0 (.lst (iV v))) Fs = some (.lst (iV [])) := (upd_ne (Ne.symm nF)).trans upd_same
  have hp1 : (upd (upd H Fs (.lst [])) p0 (.lst (iV v))) p0 = some (.lst (iV v)) := upd_same
  generalize upd (upd H Fs (.lst [])) p0 (.lst (iV v)) = H0 at e0 hF0 hp1
  refine ⟨_, rfl, k, a, _, rfl, e0.seq ha, for_it (walk_k (K := K) (k := k) (a := a) (xs := xs)) (fun i σ H' => ∃ (p : Addr) (rest fs : List Int) (v4 v5 : Option V), σ = [some (.ref a), some (.ref b), some (.ref Fs), some (.ref p), v4, v5] ∧ Ex H H' ∧ H' Fs = some (.lst (iV fs)) ∧ H' p = some (.lst (iV rest)) ∧ p ≠ Fs ∧ Hn.Crd n R v B i rest fs)
    ⟨p0, v, [], _, _, rfl, e0, hF0, hp1, nF, Hn.Crd.start hv hvb⟩ (fun i σ H' _ p => by obtain ⟨_, _, _, _, _, _, e, _⟩ := p; exact e.seq ha) (fun i x σ H' H2 hi p y => ?_) (fun σ H' p => ?_)⟩
  · obtain ⟨p, rest, fs, v4, v5, rfl, ex, hFs, hp, np, cr⟩ := p
    obtain ⟨rfl, hx⟩ := y
    have hi' : i < R.length := by omega
    have hr : R[i]? = some R[i] := List.getElem?_eq_getElem hi'
    generalize R[i] = r at hr
    obtain ⟨kk, ra, rfl, hra⟩ := hrows.2 i x r hx hr
    obtain ⟨c, hc⟩ : ∃ c, cs[i]? = some c := ⟨_, List.getElem?_eq_getElem (by rw [eR.len]; exact hi')⟩
    obtain ⟨r1, r2, r3⟩ := eR.row i c r hc hr
    have hcn := eR.lt c (List.mem_of_getElem? hc)
    have hra1 := ex.seq hra
    have iz : (iV rest)[c]? = some (.int (Hn.fv rest c)) := by rw [List.getElem?_map, Hn.fv_get (by rw [cr.len]; exact hcn)]; rfl
    have il : (iV r)[c]? = some (.int (Hn.fv r c)) := by rw [List.getElem?_map, Hn.fv_get (by rw [r1]; exact hcn)]; rfl
    refine ⟨_, rfl, kk, ra, r, c, rfl, hra1, by omega, by omega, r2, by omega, ?_⟩
    refine ⟨_, rfl, .inl ⟨rfl, _, SqL.of hFs⟩, _, rfl, _, rfl, ixl hp (atI_nat iz) ⟨_, rfl, _, rfl, ixk hra1 (atI_nat il) ⟨_, _, rfl, rfl, by omega, ?_⟩⟩⟩
    have efd : (Hn.fv rest c).fdiv (Hn.fv r c) = Hn.fv rest c / Hn.fv r c := Int.fdiv_eq_ediv_of_nonneg _ (by omega)
    have fl := cr.fl
    refine ⟨Fs, _, _, rfl, rfl, hFs, by rw [List.length_map, sizeLine_eq]; omega, ?_⟩
    have st := cr.step eR hc hr (hRb r (List.mem_of_getElem? hr))
    rw [← efd] at st
    have ex3 : Ex H (upd H2 Fs (.lst (iV fs ++ [V.int ((Hn.fv rest c).fdiv (Hn.fv r c))]))) := fun q o h => (upd_ne (ne_of_none h hF)).trans (ex q o h)
    have hF3 : (upd H2 Fs (.lst (iV fs ++ [V.int ((Hn.fv rest c).fdiv (Hn.fv r c))]))) Fs = some (.lst (iV fs ++ [V.int ((Hn.fv rest c).fdiv (Hn.fv r c))])) := upd_same
    have hp3 : (upd H2 Fs (.lst (iV fs ++ [V.int ((Hn.fv rest c).fdiv (Hn.fv r c))]))) p = some (.lst (iV rest)) := (upd_ne np).trans hp
    generalize upd H2 Fs (.lst (iV fs ++ [V.int ((Hn.fv rest c).fdiv (Hn.fv r c))])) = H3 at ex3 hF3 hp3
    have qb : bg ((Hn.fv rest c).fdiv (Hn.fv r c)) := by rw [efd]; exact bg_le (cr.q_le (c := c) (r := r)) (s8 i (by omega))
    have rb : ∀ y ∈ r, bg y := fun y hy => bg_at (by have := s8 0 (Nat.zero_le _); rwa [Nat.pow_zero, Nat.mul_one] at this) (hRb r (List.mem_of_getElem? hr)) hy
    refine ⟨_, rfl, _, rfl, 1, rfl, ixl hF3 atI_last ⟨_, rfl, kk, p, ra, _, rest, r, rfl, hp3, ex3.seq hra, by rw [cr.len, r1], by rw [cr.len]; omega, qb, rb, fun H4 p4 e4 h4 hp4 => ?_⟩⟩
    refine ⟨p4, _, fs ++ [_], _, _, rfl, ex3.trans e4, ?_, hp4, ?_, st⟩
    · rw [e4 _ _ hF3]
      show _ = some (HO.lst (List.map V.int (fs ++ [_])))
      rw [List.map_append]; rfl
    · rcases h4 with h4 | h4
      · rw [h4]; exact np
      · intro e
        rw [e, hF3] at h4
        cases h4
  · obtain ⟨p, rest, fs, v4, v5, rfl, ex, hFs, hp, np, cr⟩ := p
    rw [xl] at cr
    refine ⟨_, rfl, p, rest, rfl, SqL.of hp, _, rfl, ?_⟩
    by_cases hv0 : Hn.Sp (Hn.RL R) (Hn.fv v)
    · have an : (rest.any fun i => i != 0) = false := by
        rw [List.any_eq_false]
        intro x hx
        obtain ⟨j, hj⟩ := List.mem_iff_getElem?.mp hx
        have := cr.zero hv0 j
        rw [Hn.fv_at hj] at this
        simp [this]
      rw [an]
      refine iteF ⟨_, rfl, Fs, _, rfl, .inl ⟨SqL.of hFs, fun t ht => ?_⟩⟩
      refine ks hv0 _ t fs (ex.trans (Ex.new ht)) upd_same cr.fl fun j => ?_
      rw [cr.dec j, cr.zero hv0 j, Int.zero_add]
    · have an : (rest.any fun i => i != 0) = true := by
        apply Classical.byContradiction
        intro n0
        have n0 : (rest.any fun i => i != 0) = false := by simpa using n0
        rw [List.any_eq_false] at n0
        refine hv0 (cr.mem fun j => ?_)
        by_cases hj : j < rest.length
        · have := n0 _ (List.getElem_mem hj)
          rw [Hn.fv_at (List.getElem?_eq_getElem hj)]
          simpa using this
        · exact Hn.fv_out (by omega)
      rw [an]
      exact iteT (kn hv0 _ ex)
end
end K06

set_option maxHeartbeats 4000000
namespace K06
open PySem PySem.Spec PyProof.Rows L2 Hg
section
variable {P : Program} {w : World} {K : PySem.W.Frag} {mg : Str → Option Value} {base : Heap}
theorem ok_contains {f : Addr} {fd : FuncData} (F : DefK K mg "contains" st_contains ["basis", "vector"] f fd) (Z : Zs mg) {f_coordinates : Addr} {fd_coordinates : FuncData} (D_coordinates : DefK K mg "coordinates" st_coordinates ["basis", "vector"] f_coordinates fd_coordinates) (G_coordinates : FnOk P w K mg base CX0 33 f_coordinates fd_coordinates ["basis", "vector"] (sp_coordinates K)) :
    FnOk P w K mg base CX0 34 f fd ["basis", "vector"] (sp_contains K) := by
  refine F.fn.ok sc_contains (fun vs H Q E h => by first | exact listedM_len h | (obtain ⟨rfl, _⟩ := h; rfl) | (obtain ⟨_, rfl, _⟩ := h; rfl) | (obtain ⟨_, _, rfl, _⟩ := h; rfl) | (obtain ⟨_, _, _, rfl, _⟩ := h; rfl) | (obtain ⟨_, _, _, _, rfl, _⟩ := h; rfl) | (obtain ⟨_, _, _, _, _, rfl, _⟩ := h; rfl) | (obtain ⟨_, _, _, _, _, _, rfl, _⟩ := h; rfl) | (obtain ⟨_, _, _, _, _, _, _, rfl, _⟩ := h; rfl) | (obtain ⟨_, _, _, _, _, _, _, _, rfl, _⟩ := h; rfl) | (obtain ⟨_, _, _, _, _, _, _, _, _, rfl, _⟩ := h; rfl) | (obtain ⟨_, _, _, _, _, _, _, _, _, _, rfl, _⟩ := h; rfl) | (obtain ⟨_, _, _, _, _, _, _, _, _, _, _, rfl, _⟩ := h; rfl) | (obtain ⟨_, _, _, _, _, _, _, _, _, _, _, _, rfl, _⟩ := h; rfl) | (obtain ⟨_, _, _, _, _, _, _, _, _, _, _, _, _, rfl, _⟩ := h; rfl) | (obtain ⟨_, _, _, _, _, _, _, _, _, _, _, _, _, _, rfl, _⟩ := h; rfl) | (obtain ⟨_, _, _, _, _, _, _, _, _, _, _, _, _, _, _, rfl, _⟩ := h; rfl) | (obtain ⟨_, _, _, _, _, _, _, _, _, _, _, _, _, _, _, _, rfl, _⟩ := h; rfl) | (obtain ⟨_, _, _, _, _, _, _, _, _, _, _, _, _, _, _, _, _, rfl, _⟩ := h; rfl) | (obtain ⟨_, _, _, _, _, _, _, _, _, _, _, _, _, _, _, _, _, _, rfl, _⟩ := h; rfl) | (obtain ⟨_, _, _, _, _, _, _, _, _, _, _, _, _, _, _, _, _, _, _, rfl, _⟩ := h; rfl) | (obtain ⟨_, _, _, _, _, _, _, _, _, _, _, _, _, _, _, _, _, _, _, _, rfl, _⟩ := h; rfl) | (obtain ⟨_, _, _, _, _, _, _, _, _, _, _, _, _, _, _, _, _, _, _, _, _, rfl, _⟩ := h; rfl) | (obtain ⟨_, _, _, _, _, _, _, _, _, _, _, _, _, _, _, _, _, _, _, _, _, _, rfl, _⟩ := h; rfl) | (obtain ⟨_, _, _, _, _, _, _, _, _, _, _, _, _, _, _, _, _, _, _, _, _, _, _, rfl, _⟩ := h; rfl)) (fun cdv A outer s H vs Q E hr h => ?_)
  obtain ⟨k, l, a, b, n, B, cs, xs, R, v, rfl, ha, hrows, hb, eR, hv, hn, hRl, hRb, hvb, hs8, kq⟩ := h
  refine ⟨_, (pss_one (ps_ret (pe_cmpR op_notN (pe_call G_coordinates (hr.mono (by decide)) rfl D_coordinates.mg D_coordinates.fn.kp D_coordinates.bd .nil pass0 (pa_cons (pv 0) (pa_cons (pv 1) pa_nil))) pe_non (nomark _)))), ?_⟩
  refine ⟨_, rfl, _, rfl, k, l, a, b, n, B, cs, xs, R, v, rfl, ha, hrows, hb, eR, hv, hn, hRl, hRb, hvb, hs8, fun hn H' e => ⟨rfl, ?_⟩, fun hs H' p fs e _ _ _ => ⟨rfl, ?_⟩⟩
  · rw [decide_eq_true rfl]
    exact kq false H' e (by simp [hn])
  · rw [decide_eq_false (by simp)]
    exact kq true H' e (by simp [hs])
theorem ok_includes {f : Addr} {fd : FuncData} (F : DefK K mg "includes" st_includes ["basis", "other"] f fd) (Z : Zs mg) {f_contains : Addr} {fd_contains : FuncData} (D_contains : DefK K mg "contains" st_contains ["basis", "vector"] f_contains fd_contains) (G_contains : FnOk P w K mg base CX0 34 f_contains fd_contains ["basis", "vector"] (sp_contains K)) :
    FnOk P w K mg base CX0 35 f fd ["basis", "other"] (sp_includes K) := by
  refine F.fn.ok sc_includes (fun vs H Q E h => by first | exact listedM_len h | (obtain ⟨rfl, _⟩ := h; rfl) | (obtain ⟨_, rfl, _⟩ := h; rfl) | (obtain ⟨_, _, rfl, _⟩ := h; rfl) | (obtain ⟨_, _, _, rfl, _⟩ := h; rfl) | (obtain ⟨_, _, _, _, rfl, _⟩ := h; rfl) | (obtain ⟨_, _, _, _, _, rfl, _⟩ := h; rfl) | (obtain ⟨_, _, _, _, _, _, rfl, _⟩ := h; rfl) | (obtain ⟨_, _, _, _, _, _, _, rfl, _⟩ := h; rfl) | (obtain ⟨_, _, _, _, _, _, _, _, rfl, _⟩ := h; rfl) | (obtain ⟨_, _, _, _, _, _, _, _, _, rfl, _⟩ := h; rfl) | (obtain ⟨_, _, _, _, _, _, _, _, _, _, rfl, _⟩ := h; rfl) | (obtain ⟨_, _, _, _, _, _, _, _, _, _, _, rfl, _⟩ := h; rfl) | (obtain ⟨_, _, _, _, _, _, _, _, _, _, _, _, rfl, _⟩ := h; rfl) | (obtain ⟨_, _, _, _, _, _, _, _, _, _, _, _, _, rfl, _⟩ := h; rfl) | (obtain ⟨_, _, _, _, _, _, _, _, _, _, _, _, _, _, rfl, _⟩ := h; rfl) | (obtain ⟨_, _, _, _, _, _, _, _, _, _, _, _, _, _, _, rfl, _⟩ := h; rfl) | (obtain ⟨_, _, _, _, _, _, _, _, _, _, _, _, _, _, _, _, rfl, _⟩ := h; rfl) | (obtain ⟨_, _, _, _, _, _, _, _, _, _, _, _, _, _, _, _, _, rfl, _⟩ := h; rfl) | (obtain ⟨_, _, _, _, _, _, _, _, _, _, _, _, _, _, _, _, _, _, rfl, _⟩ := h; rfl) | (obtain ⟨_, _, _, _, _, _, _, _, _, _, _, _, _, _, _, _, _, _, _, rfl, _⟩ := h; rfl) | (obtain ⟨_, _, _, _, _, _, _, _, _, _, _, _, _, _, _, _, _, _, _, _, rfl, _⟩ := h; rfl) | (obtain ⟨_, _, _, _, _, _, _, _, _, _, _, _, _, _, _, _, _, _, _, _, _, rfl, _⟩ := h; rfl) | (obtain ⟨_, _, _, _, _, _, _, _, _, _, _, _, _, _, _, _, _, _, _, _, _, _, rfl, _⟩ := h; rfl) | (obtain ⟨_, _, _, _, _, _, _, _, _, _, _, _, _, _, _, _, _, _, _, _, _, _, _, rfl, _⟩ := h; rfl)) (fun cdv A outer s H vs Q E hr h => ?_)
  obtain ⟨k, l, a, b, n, B, cs, xs, ys, R, S, rfl, ha, hR, hb, hS, eR, hn, hRl, hSl, bR, bS, hs8, kq⟩ := h
  refine ⟨_, (pss_one (ps_ret (pe_callB (kAll (K := K) rfl) (by rfl) Z.all_ PyProof.Rows.Boot.«all» (pa_cons (pe_lc (own := [("row", 2)]) rfl sc_includes.nd (kSeq (K := K) (pv 1)) (blkOk_by (N := ["basis", "other", "row"]) (sc := defScope st_includes) (by decide +kernel)) (fun _ _ _ _ _ => (pg_name (i := 2) sc_includes.nd rfl (.inl rfl))) (fun _ _ _ _ _ => pts_nil) (fun _ _ _ _ _ => (pe_call G_contains (hr.mono (by decide)) rfl D_contains.mg D_contains.fn.kp D_contains.bd .nil pass0 (pa_cons (pv 0) (pa_cons (pv 2) pa_nil))))) pa_nil)))), ?_⟩
  have yl := hS.1
  refine ⟨_, rfl, l, b, _, rfl, hb, fun D hD => ?_⟩
  refine lc_pure (walk_k (K := K) (k := l) (a := b) (xs := ys)) hD (fun _ => true) (fun i => .bl (inB R (S.getD i []))) (by omega) (fun _ e => e.seq hb) (fun i x Hc Hy hi e y Qe Qn qe qn => ?_) (fun H1 ex hL => ?_)
  · obtain ⟨rfl, hx⟩ := y
    have hr : S[i]? = some S[i] := List.getElem?_eq_getElem (by omega)
    generalize S[i] = r at hr
    obtain ⟨kk, ra, rfl, hra⟩ := hS.2 i x r hx hr
    have er : S.getD i [] = r := by rw [List.getD_eq_getElem?_getD, hr]; rfl
    rw [er] at qe
    obtain ⟨r1, r2⟩ := bS r (List.mem_of_getElem? hr)
    refine ⟨rfl, _, rfl, _, rfl, k, kk, a, ra, n, B, cs, xs, R, r, rfl, e.seq ha, hR.ex e, e.seq hra, eR, r1, hn, hRl, bR, r2, hs8, fun c H' e' hc => ?_⟩
    rw [inB_eq hc]
    exact qe rfl H' e'
  · rw [picked_all, yl, range_rows (fun r => V.bl (inB R r)) S] at hL
    refine ⟨D, S.map (inB R), rfl, SqL.of (by rw [hL, List.map_map]; rfl), kq _ H1 ex ?_⟩
    rw [List.all_map, List.all_eq_true]
    exact ⟨fun h r hr => inB_iff.mp (h r hr), fun h r hr => inB_iff.mpr (h r hr)⟩
theorem ok_l_draw {f : Addr} {fd : FuncData} (F : DefK K mg "_law_draw" st_l_draw ["_law_stream", "_law_count"] f fd) (Z : Zs mg)  :
    FnOk P w K mg base CX0 1 f fd ["_law_stream", "_law_count"] (sp_l_draw K) := by
  refine F.fn.ok sc_l_draw (fun vs H Q E h => by first | exact listedM_len h | (obtain ⟨rfl, _⟩ := h; rfl) | (obtain ⟨_, rfl, _⟩ := h; rfl) | (obtain ⟨_, _, rfl, _⟩ := h; rfl) | (obtain ⟨_, _, _, rfl, _⟩ := h; rfl) | (obtain ⟨_, _, _, _, rfl, _⟩ := h; rfl) | (obtain ⟨_, _, _, _, _, rfl, _⟩ := h; rfl) | (obtain ⟨_, _, _, _, _, _, rfl, _⟩ := h; rfl) | (obtain ⟨_, _, _, _, _, _, _, rfl, _⟩ := h; rfl) | (obtain ⟨_, _, _, _, _, _, _, _, rfl, _⟩ := h; rfl) | (obtain ⟨_, _, _, _, _, _, _, _, _, rfl, _⟩ := h; rfl) | (obtain ⟨_, _, _, _, _, _, _, _, _, _, rfl, _⟩ := h; rfl) | (obtain ⟨_, _, _, _, _, _, _, _, _, _, _, rfl, _⟩ := h; rfl) | (obtain ⟨_, _, _, _, _, _, _, _, _, _, _, _, rfl, _⟩ := h; rfl) | (obtain ⟨_, _, _, _, _, _, _, _, _, _, _, _, _, rfl, _⟩ := h; rfl) | (obtain ⟨_, _, _, _, _, _, _, _, _, _, _, _, _, _, rfl, _⟩ := h; rfl) | (obtain ⟨_, _, _, _, _, _, _, _, _, _, _, _, _, _, _, rfl, _⟩ := h; rfl) | (obtain ⟨_, _, _, _, _, _, _, _, _, _, _, _, _, _, _, _, rfl, _⟩ := h; rfl) | (obtain ⟨_, _, _, _, _, _, _, _, _, _, _, _, _, _, _, _, _, rfl, _⟩ := h; rfl) | (obtain ⟨_, _, _, _, _, _, _, _, _, _, _, _, _, _, _, _, _, _, rfl, _⟩ := h; rfl) | (obtain ⟨_, _, _, _, _, _, _, _, _, _, _, _, _, _, _, _, _, _, _, rfl, _⟩ := h; rfl) | (obtain ⟨_, _, _, _, _, _, _, _, _, _, _, _, _, _, _, _, _, _, _, _, rfl, _⟩ := h; rfl) | (obtain ⟨_, _, _, _, _, _, _, _, _, _, _, _, _, _, _, _, _, _, _, _, _, rfl, _⟩ := h; rfl) | (obtain ⟨_, _, _, _, _, _, _, _, _, _, _, _, _, _, _, _, _, _, _, _, _, _, rfl, _⟩ := h; rfl) | (obtain ⟨_, _, _, _, _, _, _, _, _, _, _, _, _, _, _, _, _, _, _, _, _, _, _, rfl, _⟩ := h; rfl)) (fun cdv A outer s H vs Q E hr h => ?_)
  obtain ⟨s0, q, B, G, m, rfl, O, hB, hm0, hm1, kq⟩ := h
  obtain ⟨ne, n, c, k, ns, e1, e2, n0, c0, c1, k0, k1⟩ := O.str
  refine ⟨_, (pss_cons (ps_asg (pe_op (kAdd (K := K)) (pe_ix (kIx (K := K)) (pv 0) pe_int (fun _ _ => rfl)) pe_int) (pg_sub (pv 0) pe_int set_list))
      (pss_cons (ps_if (PW.pt (pw_and (pt_cmpR (kEq (K := K) hr.units) (pe_ix (kIx (K := K)) (pv 0) pe_int (fun _ _ => rfl)) pe_int (nomark _)) (pw_and1 (pt_cmpR (kNe (K := K) hr.units) (pe_ix (kIx (K := K)) (pv 0) pe_int (fun _ _ => rfl)) (pe_lst pa_nil) (nomark _))))) (pss_cons (ps_asg (pe_bm PySem.F.plainAttrs_list PySem.F.slot_list_pop PySem.F.type_list_pop mt_popAt (pe_ix (kIx (K := K)) (pv 0) pe_int (fun _ _ => rfl)) (pa_cons pe_int pa_nil)) (pg_sub (pv 0) pe_int set_list))
      (pss_one (ps_if (pt_cmpR op_lt (pe_ix (kIx (K := K)) (pv 0) pe_int (fun _ _ => rfl)) (pe_op op_pow pe_int pe_int) (nomark _)) (pss_cons (ps_asg (pe_op oMod (pe_op (kAdd (K := K)) (pe_op oMul (pe_ix (kIx (K := K)) (pv 0) pe_int (fun _ _ => rfl)) pe_int) (pe_ix (kIx (K := K)) (pv 0) pe_int (fun _ _ => rfl))) pe_int) (pg_sub (pv 0) pe_int set_list))
      (pss_one (ps_asg pe_int (pg_sub (pv 0) pe_int set_list)))) pss_nil))) pss_nil)
      (pss_cons (ps_if (pt_cmpR op_gt (pe_ix (kIx (K := K)) (pv 0) pe_int (fun _ _ => rfl)) pe_int (nomark _)) (pss_cons (ps_set (i := 2) sc_l_draw.nd rfl (.inl rfl) (pe_op oMod (pe_ix (kIx (K := K)) (pv 0) pe_int (fun _ _ => rfl)) (pv 1)))
      (pss_cons (ps_asg (pe_op oDiv (pe_ix (kIx (K := K)) (pv 0) pe_int (fun _ _ => rfl)) (pv 1)) (pg_sub (pv 0) pe_int set_list))
      (pss_one (ps_ret (pv 2))))) pss_nil)
      (pss_cons (ps_set (i := 2) sc_l_draw.nd rfl (.inl rfl) (pe_op oMod (pe_op op_pow (pe_op (kAdd (K := K)) (pe_op (kAdd (K := K)) (pe_ix (kIx (K := K)) (pv 0) pe_int (fun _ _ => rfl)) (pe_op oMul pe_int (pe_ix (kIx (K := K)) (pv 0) pe_int (fun _ _ => rfl)))) pe_int) pe_int) pe_int))
      (pss_one (ps_ret (pe_op oMod (pe_op oMod (pe_op oMul (pe_op (kAdd (K := K)) (pv 2) (pe_ix (kIx (K := K)) (pv 0) pe_int (fun _ _ => rfl))) pe_int) pe_int) (pv 1)))))))), ?_⟩
  -- stream[2] = stream[2] + 1
  refine ⟨_, rfl, ixl e1 rfl (.inl ⟨c, 1, rfl, rfl, _, rfl, s0, _, 2, 2, rfl, rfl, e1, rfl, ?_⟩)⟩
  have O1 : Ov s0 q (B + 1) G (upd H s0 (.lst [.ref q, .int n, .int (c + 1), .int k])) := O.setS e2 n0 (by omega) (by omega) k0 k1
  dsimp only
  refine cut (fun σ' H' => σ' = [some (.ref s0), some (.int m), none] ∧ Ov s0 q (B + 1) G H') ?_ ?_
  · -- what is left of the def
    rintro σ' H' ⟨rfl, O'⟩
    obtain ⟨_, n', c', k', ns', f1, f2, n0', c0', c1', k0', k1'⟩ := O'.str
    refine ⟨_, rfl, ixl f1 rfl ⟨n', 0, rfl, rfl, _, rfl, ?_⟩⟩
    by_cases hn : 0 < n'
    · rw [decide_eq_true hn]
      refine iteT ⟨_, rfl, ixl f1 rfl ⟨_, rfl, n', m, rfl, rfl, (by omega), ?_⟩⟩
      refine ⟨_, rfl, ixl f1 rfl ⟨_, rfl, n', m, rfl, rfl, ⟨by omega, ?_⟩, _, rfl, s0, _, 1, 1, rfl, rfl, f1, rfl, _, rfl, ?_⟩⟩
      · exact Nat.lt_of_lt_of_le (PySem.Flt.log2_lt_of (k := 8000) (by decide) hm1) (by decide)
      · have fm : n'.fmod m = n' % m := Int.fmod_eq_emod_of_nonneg n' (by omega)
        have fd : n'.fdiv m = n' / m := Int.fdiv_eq_ediv_of_nonneg n' (by omega)
        show Q (.int (n'.fmod m)) (upd H' s0 (.lst [.ref q, .int (n'.fdiv m), .int c', .int k']))
        rw [fm, fd]
        refine kq _ _ (Int.emod_nonneg _ (by omega)) (Int.emod_lt_of_pos _ hm0) ?_
        exact O'.setS f2 (Int.ediv_nonneg n0' (by omega)) c0' c1' k0' k1'
    · rw [decide_eq_false hn]
      refine iteF ⟨_, rfl, ixl f1 rfl ⟨_, rfl, ixl f1 rfl ⟨7919, c', rfl, rfl, ?_, .inl ⟨k', 7919 * c', rfl, rfl, .inl ⟨_, 104729, rfl, rfl, _, 5, rfl, rfl, ⟨by decide, by decide, ?_⟩, _, 2147483647, rfl, rfl, (show (2147483647 : Int) ≠ 0 by decide), ?_⟩⟩⟩⟩⟩
      · exact wide_mul (a := 20) (b := 40) (by decide) (by omega) (by decide) (by decide) (by decide)
      · omega
      · generalize hX : (k' + 7919 * c' + 104729) ^ (5 : Int).toNat = X
        have hx0 : 0 ≤ X.fmod 2147483647 ∧ X.fmod 2147483647 < 2147483647 := by
          rw [Int.fmod_eq_emod_of_nonneg X (by decide)]
          exact ⟨Int.emod_nonneg _ (by decide), Int.emod_lt_of_pos _ (by decide)⟩
        have hmu : CMulW (X.fmod 2147483647 + c') 48271 := by
          generalize X.fmod 2147483647 = Y at hx0
          exact wide_mul (a := 40) (b := 20) (by omega) (by decide) (by decide) (by decide) (by decide)
        refine ⟨_, rfl, _, rfl, ixl f1 rfl (.inl ⟨_, c', rfl, rfl, _, 48271, rfl, rfl, hmu, _, 2147483629, rfl, rfl, (show (2147483629 : Int) ≠ 0 by decide), _, rfl, _, m, rfl, rfl, (show m ≠ 0 by omega), ?_⟩)⟩
        show Q (.int ((((X.fmod 2147483647 + c') * 48271).fmod 2147483629).fmod m)) _
        generalize ((X.fmod 2147483647 + c') * 48271).fmod 2147483629 = W
        have fm : W.fmod m = W % m := Int.fmod_eq_emod_of_nonneg W (by omega)
        rw [fm]
        exact kq _ _ (Int.emod_nonneg _ (by omega)) (Int.emod_lt_of_pos _ hm0) O'
  · intro N hN
    have done : ∀ H', Ov s0 q (B + 1) G H' → N [some (.ref s0), some (.int m), none] H' := fun H' o => hN _ _ ⟨rfl, o⟩
    obtain ⟨ne1, n1, c2, k2, ns1, f1, f2, g0, g1, g2, g3, g4⟩ := O1.str
    refine ⟨_, rfl, ixl f1 rfl (.inl ⟨rfl, _, rfl, ?_⟩)⟩
    by_cases hn : n1 = 0
    · have d1 : decide (V.int n1 = V.int 0) = true := by simp [hn]
      rw [d1]
      refine iteT ⟨_, rfl, ixl f1 rfl ⟨Nat.zero_le _, fun l hl => ?_⟩⟩
      have nl : q ≠ l := ne_of_none f2 hl
      have nsl : s0 ≠ l := ne_of_none f1 hl
      have O2 := O1.drop (o := .lst []) hl
      refine .inr ⟨_, _, dp_l (SqL.of ((upd_ne nl).trans f2)), .lst (SqL.of upd_same) .nil, shaped_l _, shaped_l [], _, rfl, ?_⟩
      rw [eqv_nil]
      cases ns1 with
      | nil => exact iteF (done _ O2)
      | cons z zs =>
        refine iteT ?_
        have f1' : upd (upd H s0 (.lst [.ref q, .int n, .int (c + 1), .int k])) l (.lst []) s0 = some (.lst [.ref q, .int n1, .int c2, .int k2]) := (upd_ne nsl).trans f1
        have f2' : upd (upd H s0 (.lst [.ref q, .int n, .int (c + 1), .int k])) l (.lst []) q = some (.lst ((z :: zs).map V.int)) := (upd_ne nl).trans f2
        -- stream[1] = stream[0].pop(0)
        refine ⟨_, rfl, ixl f1' rfl ⟨.inl ⟨rfl, _, SqL.of f2'⟩, q, _, 0, 0, .int z, rfl, rfl, f2', by decide, by decide, (by show seqIndex? 0 ((zs.map V.int).length + 1) = some 0; exact seq0 _), rfl, ?_⟩⟩
        have O3 := O2.setQ zs
        have g1' := (upd_ne (H := upd (upd H s0 (.lst [.ref q, .int n, .int (c + 1), .int k])) l (.lst [])) (o := .lst (zs.map V.int)) ne).trans f1'
        have g2' : upd (upd (upd H s0 (.lst [.ref q, .int n, .int (c + 1), .int k])) l (.lst [])) q (.lst (zs.map V.int)) q = some (.lst (zs.map V.int)) := upd_same
        refine ⟨_, rfl, s0, _, 1, 1, rfl, rfl, g1', rfl, ?_⟩
        have h1' := upd_same (H := upd (upd (upd H s0 (.lst [.ref q, .int n, .int (c + 1), .int k])) l (.lst [])) q (.lst (zs.map V.int))) (a := s0) (o := .lst [.ref q, .int z, .int c2, .int k2])
        refine ⟨_, rfl, ixl h1' rfl ⟨10, 18, rfl, rfl, ⟨by decide, by decide, by decide⟩, z, _, rfl, rfl, _, rfl, ?_⟩⟩
        have p18 : (10 : Int) ^ (18 : Int).toNat = 1000000000000000000 := by decide
        rw [p18]
        by_cases hz : z < 1000000000000000000
        · rw [decide_eq_true hz]
          refine iteT ⟨_, rfl, ixl h1' rfl ⟨k2, 39373, rfl, rfl, ?_, _, rfl, ixl h1' rfl (.inl ⟨k2 * 39373, z, rfl, rfl, k2 * 39373 + z, 2147483647, rfl, rfl, (show (2147483647 : Int) ≠ 0 by decide), _, rfl, s0, _, 3, 3, rfl, rfl, h1', rfl, ?_⟩)⟩⟩
          · exact wide_mul (a := 40) (b := 20) (by omega) (by decide) (by decide) (by decide) (by decide)
          · refine ⟨_, rfl, s0, _, 1, 1, rfl, rfl, upd_same, rfl, ?_⟩
            have b0 : 0 ≤ (k2 * 39373 + z).fmod 2147483647 ∧ (k2 * 39373 + z).fmod 2147483647 < 2147483647 := by
              rw [Int.fmod_eq_emod_of_nonneg _ (by decide)]
              exact ⟨Int.emod_nonneg _ (by decide), Int.emod_lt_of_pos _ (by decide)⟩
            refine done _ ?_
            rw [upd_upd, upd_upd]
            exact O3.setS g2' (Int.le_refl 0) g1 g2 b0.1 b0.2
        · rw [decide_eq_false hz]
          refine iteF (done _ ?_)
          exact O3.setS g2' (by omega) g1 g2 g3 g4
    · have d1 : decide (V.int n1 = V.int 0) = false := by simp [hn]
      rw [d1]
      exact iteF (done _ O1)
end
end K06

set_option maxHeartbeats 4000000
namespace K06
open PySem PySem.Spec PyProof.Rows L2 Hg
section
variable {P : Program} {w : World} {K : PySem.W.Frag} {mg : Str → Option Value} {base : Heap}
theorem ok_l_plus {f : Addr} {fd : FuncData} (F : DefK K mg "_law_plus" st_l_plus ["_law_factor", "_law_one", "_law_other"] f fd) (Z : Zs mg)  :
    FnOk P w K mg base CX0 1 f fd ["_law_factor", "_law_one", "_law_other"] (sp_l_plus K) := by
  refine F.fn.ok sc_l_plus (fun vs H Q E h => by first | exact listedM_len h | (obtain ⟨rfl, _⟩ := h; rfl) | (obtain ⟨_, rfl, _⟩ := h; rfl) | (obtain ⟨_, _, rfl, _⟩ := h; rfl) | (obtain ⟨_, _, _, rfl, _⟩ := h; rfl) | (obtain ⟨_, _, _, _, rfl, _⟩ := h; rfl) | (obtain ⟨_, _, _, _, _, rfl, _⟩ := h; rfl) | (obtain ⟨_, _, _, _, _, _, rfl, _⟩ := h; rfl) | (obtain ⟨_, _, _, _, _, _, _, rfl, _⟩ := h; rfl) | (obtain ⟨_, _, _, _, _, _, _, _, rfl, _⟩ := h; rfl) | (obtain ⟨_, _, _, _, _, _, _, _, _, rfl, _⟩ := h; rfl) | (obtain ⟨_, _, _, _, _, _, _, _, _, _, rfl, _⟩ := h; rfl) | (obtain ⟨_, _, _, _, _, _, _, _, _, _, _, rfl, _⟩ := h; rfl) | (obtain ⟨_, _, _, _, _, _, _, _, _, _, _, _, rfl, _⟩ := h; rfl) | (obtain ⟨_, _, _, _, _, _, _, _, _, _, _, _, _, rfl, _⟩ := h; rfl) | (obtain ⟨_, _, _, _, _, _, _, _, _, _, _, _, _, _, rfl, _⟩ := h; rfl) | (obtain ⟨_, _, _, _, _, _, _, _, _, _, _, _, _, _, _, rfl, _⟩ := h; rfl) | (obtain ⟨_, _, _, _, _, _, _, _, _, _, _, _, _, _, _, _, rfl, _⟩ := h; rfl) | (obtain ⟨_, _, _, _, _, _, _, _, _, _, _, _, _, _, _, _, _, rfl, _⟩ := h; rfl) | (obtain ⟨_, _, _, _, _, _, _, _, _, _, _, _, _, _, _, _, _, _, rfl, _⟩ := h; rfl) | (obtain ⟨_, _, _, _, _, _, _, _, _, _, _, _, _, _, _, _, _, _, _, rfl, _⟩ := h; rfl) | (obtain ⟨_, _, _, _, _, _, _, _, _, _, _, _, _, _, _, _, _, _, _, _, rfl, _⟩ := h; rfl) | (obtain ⟨_, _, _, _, _, _, _, _, _, _, _, _, _, _, _, _, _, _, _, _, _, rfl, _⟩ := h; rfl) | (obtain ⟨_, _, _, _, _, _, _, _, _, _, _, _, _, _, _, _, _, _, _, _, _, _, rfl, _⟩ := h; rfl) | (obtain ⟨_, _, _, _, _, _, _, _, _, _, _, _, _, _, _, _, _, _, _, _, _, _, _, rfl, _⟩ := h; rfl)) (fun cdv A outer s H vs Q E hr h => ?_)
  obtain ⟨a, b, q, xs, ys, rfl, ha, hb, he, hlen, bq, by_, kq⟩ := h
  refine ⟨_, (pss_one (ps_ret (pe_callTy (kTup (K := K)) (by rfl) Z.tuple_ PyProof.Rows.Boot.«tuple» (pa_cons (pe_lc (own := [("_law_a", 3), ("_law_b", 4)]) rfl sc_l_plus.nd (kZip (K := K) (by rfl) Z.zip_ (pa_cons (pv 1) (pa_cons (pv 2) pa_nil))) (blkOk_by (N := ["_law_factor", "_law_one", "_law_other", "_law_a", "_law_b"]) (sc := defScope st_l_plus) (by decide +kernel)) (fun _ _ _ _ _ => (kPgT (K := K) (n := 2) rfl (pgs_cons (pg_name (i := 3) sc_l_plus.nd rfl (.inl rfl)) (pgs_cons (pg_name (i := 4) sc_l_plus.nd rfl (.inl rfl)) pgs_nil)))) (fun _ _ _ _ _ => pts_nil) (fun _ _ _ _ _ => (pe_op (kAdd (K := K)) (pe_op oMulB (pv 0) (pv 3)) (pv 4)))) pa_nil)))), ?_⟩
  refine ⟨_, rfl, _, rfl, true, true, a, b, _, _, rfl, SqK.tup ha, SqK.tup hb, fun D hD => ?_⟩
  have hmin : min xs.length ys.length = min (iV xs).length (iV ys).length := by simp
  refine lc_pure (walk_zk (K := K) (k := true) (l := true) (a := a) (b := b) (xs := iV xs) (ys := iV ys) hmin) hD (fun _ => true) (fun i => .int (q * xs.getD i 0 + ys.getD i 0)) (by omega) (fun _ e => ⟨e.seq (SqK.tup ha), e.seq (SqK.tup hb)⟩) (fun i x Hc Hy hi e y Qe Qn qe qn => ?_) (fun H1 ex hL => ?_)
  · obtain ⟨T, x1, y1, rfl, hT, rfl, hx, hy⟩ := y
    obtain ⟨z1, hz1, rfl⟩ := ints_at hx
    obtain ⟨z2, hz2, rfl⟩ := ints_at hy
    have e1 : xs.getD i 0 = z1 := by rw [List.getD_eq_getElem?_getD, hz1]; rfl
    have e2 : ys.getD i 0 = z2 := by rw [List.getD_eq_getElem?_getD, hz2]; rfl
    rw [e1, e2] at qe
    refine ⟨T, _, rfl, SqT.of upd_same, rfl, _, _, rfl, _, _, rfl, rfl, rfl, _, rfl, _, rfl, q, z1, rfl, rfl, bg_mul bq (by_ _ (List.mem_of_getElem? hz1)), ?_⟩
    exact ⟨_, rfl, .inl ⟨_, _, rfl, rfl, qe rfl _ (Ex.new hT)⟩⟩
  · rw [picked_all, range_zip he (fun e t => q * e + t) _ (fun i x y h1 h2 => by rw [List.getD_eq_getElem?_getD, List.getD_eq_getElem?_getD, h1, h2]; rfl)] at hL
    exact ⟨D, _, rfl, .inl ⟨SqL.of hL, fun t ht => kq _ t (ex.trans (Ex.new ht)) (ex.free ht) upd_same⟩⟩
theorem ok_l_size {f : Addr} {fd : FuncData} (F : DefK K mg "_law_size" st_l_size ["_law_stream"] f fd) (Z : Zs mg) {f_l_draw : Addr} {fd_l_draw : FuncData} (D_l_draw : DefK K mg "_law_draw" st_l_draw ["_law_stream", "_law_count"] f_l_draw fd_l_draw) (G_l_draw : FnOk P w K mg base CX0 1 f_l_draw fd_l_draw ["_law_stream", "_law_count"] (sp_l_draw K)) :
    FnOk P w K mg base CX0 2 f fd ["_law_stream"] (sp_l_size K) := by
  refine F.fn.ok sc_l_size (fun vs H Q E h => by first | exact listedM_len h | (obtain ⟨rfl, _⟩ := h; rfl) | (obtain ⟨_, rfl, _⟩ := h; rfl) | (obtain ⟨_, _, rfl, _⟩ := h; rfl) | (obtain ⟨_, _, _, rfl, _⟩ := h; rfl) | (obtain ⟨_, _, _, _, rfl, _⟩ := h; rfl) | (obtain ⟨_, _, _, _, _, rfl, _⟩ := h; rfl) | (obtain ⟨_, _, _, _, _, _, rfl, _⟩ := h; rfl) | (obtain ⟨_, _, _, _, _, _, _, rfl, _⟩ := h; rfl) | (obtain ⟨_, _, _, _, _, _, _, _, rfl, _⟩ := h; rfl) | (obtain ⟨_, _, _, _, _, _, _, _, _, rfl, _⟩ := h; rfl) | (obtain ⟨_, _, _, _, _, _, _, _, _, _, rfl, _⟩ := h; rfl) | (obtain ⟨_, _, _, _, _, _, _, _, _, _, _, rfl, _⟩ := h; rfl) | (obtain ⟨_, _, _, _, _, _, _, _, _, _, _, _, rfl, _⟩ := h; rfl) | (obtain ⟨_, _, _, _, _, _, _, _, _, _, _, _, _, rfl, _⟩ := h; rfl) | (obtain ⟨_, _, _, _, _, _, _, _, _, _, _, _, _, _, rfl, _⟩ := h; rfl) | (obtain ⟨_, _, _, _, _, _, _, _, _, _, _, _, _, _, _, rfl, _⟩ := h; rfl) | (obtain ⟨_, _, _, _, _, _, _, _, _, _, _, _, _, _, _, _, rfl, _⟩ := h; rfl) | (obtain ⟨_, _, _, _, _, _, _, _, _, _, _, _, _, _, _, _, _, rfl, _⟩ := h; rfl) | (obtain ⟨_, _, _, _, _, _, _, _, _, _, _, _, _, _, _, _, _, _, rfl, _⟩ := h; rfl) | (obtain ⟨_, _, _, _, _, _, _, _, _, _, _, _, _, _, _, _, _, _, _, rfl, _⟩ := h; rfl) | (obtain ⟨_, _, _, _, _, _, _, _, _, _, _, _, _, _, _, _, _, _, _, _, rfl, _⟩ := h; rfl) | (obtain ⟨_, _, _, _, _, _, _, _, _, _, _, _, _, _, _, _, _, _, _, _, _, rfl, _⟩ := h; rfl) | (obtain ⟨_, _, _, _, _, _, _, _, _, _, _, _, _, _, _, _, _, _, _, _, _, _, rfl, _⟩ := h; rfl) | (obtain ⟨_, _, _, _, _, _, _, _, _, _, _, _, _, _, _, _, _, _, _, _, _, _, _, rfl, _⟩ := h; rfl)) (fun cdv A outer s H vs Q E hr h => ?_)
  obtain ⟨s0, q, B, G, rfl, O, hB, kq⟩ := h
  refine ⟨_, (pss_one (ps_ret (pe_ix (kIx (K := K)) (pe_lst (pa_cons pe_int (pa_cons pe_int (pa_cons pe_int (pa_cons pe_int (pa_cons pe_int (pa_cons pe_int (pa_cons pe_int (pa_cons pe_int pa_nil))))))))) (pe_call G_l_draw (hr.mono (by decide)) rfl D_l_draw.mg D_l_draw.fn.kp D_l_draw.bd .nil pass0 (pa_cons (pv 0) (pa_cons pe_int pa_nil))) (fun _ _ => rfl)))), ?_⟩
  refine ⟨by show 8 ≤ sizeLine; decide, fun l hl => ⟨_, rfl, s0, q, _, _, 8, rfl, O.new hl, by omega, by decide, by decide, fun r H1 r0 r1 O1 => ?_⟩⟩
  obtain ⟨v, hv, hm⟩ := menu (n := 8) r0 r1 (vs := [.int 1, .int 2, .int 3, .int 4, .int 2, .int 3, .int 4, .int 7]) rfl
  obtain ⟨z, rfl, z1, z2⟩ : ∃ z : Nat, v = .int (z : Int) ∧ 1 ≤ z ∧ z ≤ 7 := by
    simp only [List.mem_cons, List.not_mem_nil, or_false] at hm
    rcases hm with h | h | h | h | h | h | h | h
    · exact ⟨1, h, by decide⟩
    · exact ⟨2, h, by decide⟩
    · exact ⟨3, h, by decide⟩
    · exact ⟨4, h, by decide⟩
    · exact ⟨2, h, by decide⟩
    · exact ⟨3, h, by decide⟩
    · exact ⟨4, h, by decide⟩
    · exact ⟨7, h, by decide⟩
  exact ixl (O1.sub _ _ upd_same) hv (kq z H1 z1 z2 (O1.weak (Ex.new (O.sub.free hl))))
end
end K06

set_option maxHeartbeats 4000000
namespace K06
open PySem PySem.Spec PyProof.Rows L2 Hg
section
variable {P : Program} {w : World} {K : PySem.W.Frag} {mg : Str → Option Value} {base : Heap}
theorem ok_l_basis {f : Addr} {fd : FuncData} (F : DefK K mg "_law_basis" st_l_basis ["_law_stream", "_law_size_here"] f fd) (Z : Zs mg) {f_l_draw : Addr} {fd_l_draw : FuncData} (D_l_draw : DefK K mg "_law_draw" st_l_draw ["_law_stream", "_law_count"] f_l_draw fd_l_draw) (G_l_draw : FnOk P w K mg base CX0 1 f_l_draw fd_l_draw ["_law_stream", "_law_count"] (sp_l_draw K)) {f_l_plus : Addr} {fd_l_plus : FuncData} (D_l_plus : DefK K mg "_law_plus" st_l_plus ["_law_factor", "_law_one", "_law_other"] f_l_plus fd_l_plus) (G_l_plus : FnOk P w K mg base CX0 1 f_l_plus fd_l_plus ["_law_factor", "_law_one", "_law_other"] (sp_l_plus K)) :
    FnOk P w K mg base CX0 2 f fd ["_law_stream", "_law_size_here"] (sp_l_basisB K) := by
  refine F.fn.ok sc_l_basis (fun vs H Q E h => by first | exact listedM_len h | (obtain ⟨rfl, _⟩ := h; rfl) | (obtain ⟨_, rfl, _⟩ := h; rfl) | (obtain ⟨_, _, rfl, _⟩ := h; rfl) | (obtain ⟨_, _, _, rfl, _⟩ := h; rfl) | (obtain ⟨_, _, _, _, rfl, _⟩ := h; rfl) | (obtain ⟨_, _, _, _, _, rfl, _⟩ := h; rfl) | (obtain ⟨_, _, _, _, _, _, rfl, _⟩ := h; rfl) | (obtain ⟨_, _, _, _, _, _, _, rfl, _⟩ := h; rfl) | (obtain ⟨_, _, _, _, _, _, _, _, rfl, _⟩ := h; rfl) | (obtain ⟨_, _, _, _, _, _, _, _, _, rfl, _⟩ := h; rfl) | (obtain ⟨_, _, _, _, _, _, _, _, _, _, rfl, _⟩ := h; rfl) | (obtain ⟨_, _, _, _, _, _, _, _, _, _, _, rfl, _⟩ := h; rfl) | (obtain ⟨_, _, _, _, _, _, _, _, _, _, _, _, rfl, _⟩ := h; rfl) | (obtain ⟨_, _, _, _, _, _, _, _, _, _, _, _, _, rfl, _⟩ := h; rfl) | (obtain ⟨_, _, _, _, _, _, _, _, _, _, _, _, _, _, rfl, _⟩ := h; rfl) | (obtain ⟨_, _, _, _, _, _, _, _, _, _, _, _, _, _, _, rfl, _⟩ := h; rfl) | (obtain ⟨_, _, _, _, _, _, _, _, _, _, _, _, _, _, _, _, rfl, _⟩ := h; rfl) | (obtain ⟨_, _, _, _, _, _, _, _, _, _, _, _, _, _, _, _, _, rfl, _⟩ := h; rfl) | (obtain ⟨_, _, _, _, _, _, _, _, _, _, _, _, _, _, _, _, _, _, rfl, _⟩ := h; rfl) | (obtain ⟨_, _, _, _, _, _, _, _, _, _, _, _, _, _, _, _, _, _, _, rfl, _⟩ := h; rfl) | (obtain ⟨_, _, _, _, _, _, _, _, _, _, _, _, _, _, _, _, _, _, _, _, rfl, _⟩ := h; rfl) | (obtain ⟨_, _, _, _, _, _, _, _, _, _, _, _, _, _, _, _, _, _, _, _, _, rfl, _⟩ := h; rfl) | (obtain ⟨_, _, _, _, _, _, _, _, _, _, _, _, _, _, _, _, _, _, _, _, _, _, rfl, _⟩ := h; rfl) | (obtain ⟨_, _, _, _, _, _, _, _, _, _, _, _, _, _, _, _, _, _, _, _, _, _, _, rfl, _⟩ := h; rfl)) (fun cdv A outer s H vs Q E hr h => ?_)
  obtain ⟨s0, q, B, n, G, rfl, hn1, hn7, O, hB, kq⟩ := h
  refine ⟨_, (pss_cons (ps_set (i := 2) sc_l_basis.nd rfl (.inl rfl) (pe_lst (pa_cons pe_int (pa_cons pe_int (pa_cons pe_int (pa_cons pe_int (pa_cons pe_int (pa_cons pe_int (pa_cons pe_int (pa_cons pe_int (pa_cons pe_int (pa_cons (pe_op op_pow pe_int pe_int) pa_nil))))))))))))
      (pss_cons (ps_setLc (i := 4) (own := [("_law_column", 3)]) rfl sc_l_basis.nd rfl rfl (sw_true rfl rfl rfl (by decide +kernel)) (pi_range1 (by rfl) Z.range_ (pa_cons (pv 1) pa_nil)) (blkOk_by (N := ["_law_stream", "_law_size_here", "_law_menu", "_law_column", "_law_columns", "_law_rows", "_law_row", "_law_low", "_law_high", "_law_factor"]) (sc := defScope st_l_basis) (by decide +kernel)) (fun _ _ _ _ _ => (pg_name (i := 3) sc_l_basis.nd rfl (.inl rfl))) (fun _ _ _ _ _ => (pts_one (pt_cmpR op_gt (pe_call G_l_draw (hr.mono (by decide)) rfl D_l_draw.mg D_l_draw.fn.kp D_l_draw.bd .nil pass0 (pa_cons (pv 0) (pa_cons pe_int pa_nil))) pe_int (nomark _)))) (fun _ _ _ _ _ => (pv 3)))
      (pss_cons (ps_set (i := 5) sc_l_basis.nd rfl (.inl rfl) (pe_lst pa_nil))
      (pss_cons (ps_for PassesOwn.never rfl (kSeq (K := K) (pv 4)) (pg_name (i := 3) sc_l_basis.nd rfl (.inl rfl)) (pss_cons (ps_set (i := 6) sc_l_basis.nd rfl (.inl rfl) (pe_op (kAdd (K := K)) (pe_op op_rep (pe_lst (pa_cons pe_int pa_nil)) (pv 3)) (pe_lst (pa_cons (pe_ix (kIx (K := K)) (pv 2) (pe_call G_l_draw (hr.mono (by decide)) rfl D_l_draw.mg D_l_draw.fn.kp D_l_draw.bd .nil pass0 (pa_cons (pv 0) (pa_cons pe_int pa_nil))) (fun _ _ => rfl)) pa_nil))))
      (pss_cons (ps_while PassesOwn.never (pt_cmpR op_lt (pe_callB (kLen (K := K)) (by rfl) Z.len_ PyProof.Rows.Boot.«len» (pa_cons (pv 6) pa_nil)) (pv 1) (nomark _)) (pss_one (ps_expr (pe_bm PySem.F.plainAttrs_list PySem.F.slot_list_append PySem.F.type_list_append mt_append (pv 6) (pa_cons (pe_ix (kIx (K := K)) (pe_lst (pa_cons pe_int (pa_cons (pe_op op_sub (pe_call G_l_draw (hr.mono (by decide)) rfl D_l_draw.mg D_l_draw.fn.kp D_l_draw.bd .nil pass0 (pa_cons (pv 0) (pa_cons pe_int pa_nil))) pe_int) (pa_cons (pe_call G_l_draw (hr.mono (by decide)) rfl D_l_draw.mg D_l_draw.fn.kp D_l_draw.bd .nil pass0 (pa_cons (pv 0) (pa_cons (pe_op op_pow pe_int pe_int) pa_nil))) pa_nil)))) (pe_call G_l_draw (hr.mono (by decide)) rfl D_l_draw.mg D_l_draw.fn.kp D_l_draw.bd .nil pass0 (pa_cons (pv 0) (pa_cons pe_int pa_nil))) (fun _ _ => rfl)) pa_nil)))))
      (pss_one (ps_expr (pe_bm PySem.F.plainAttrs_list PySem.F.slot_list_append PySem.F.type_list_append mt_append (pv 5) (pa_cons (pe_callTy (kTup (K := K)) (by rfl) Z.tuple_ PyProof.Rows.Boot.«tuple» (pa_cons (pv 6) pa_nil)) pa_nil)))))))
      (pss_cons (ps_for PassesOwn.never rfl (kEnum (K := K) (by rfl) Z.enumerate_ (pa_cons (pv 4) pa_nil)) (kPgT (K := K) (n := 2) rfl (pgs_cons (pg_name (i := 7) sc_l_basis.nd rfl (.inl rfl)) (pgs_cons (pg_name (i := 3) sc_l_basis.nd rfl (.inl rfl)) pgs_nil))) (pss_one (ps_for PassesOwn.never rfl (pi_range1 (by rfl) Z.range_ (pa_cons (pv 7) pa_nil)) (pg_name (i := 8) sc_l_basis.nd rfl (.inl rfl)) (pss_cons (ps_set (i := 9) sc_l_basis.nd rfl (.inl rfl) (pe_op oDiv (pe_ix (kIx (K := K)) (pe_ix (kIx (K := K)) (pv 5) (pv 8) (fun _ _ => rfl)) (pv 3) (fun _ _ => rfl)) (pe_ix (kIx (K := K)) (pe_ix (kIx (K := K)) (pv 5) (pv 7) (fun _ _ => rfl)) (pv 3) (fun _ _ => rfl))))
      (pss_one (ps_asg (pe_call G_l_plus (hr.mono (by decide)) rfl D_l_plus.mg D_l_plus.fn.kp D_l_plus.bd .nil pass0 (pa_cons (pe_op op_sub pe_int (pv 9)) (pa_cons (pe_ix (kIx (K := K)) (pv 5) (pv 7) (fun _ _ => rfl)) (pa_cons (pe_ix (kIx (K := K)) (pv 5) (pv 8) (fun _ _ => rfl)) pa_nil)))) (pg_sub (pv 5) (pv 8) set_list)))))))
      (pss_one (ps_ret (pe_callTy (kTup (K := K)) (by rfl) Z.tuple_ PyProof.Rows.Boot.«tuple» (pa_cons (pv 5) pa_nil))))))))), ?_⟩
  refine ⟨10, 40, rfl, rfl, ⟨by decide, by decide, by decide⟩, by show 10 ≤ sizeLine; decide, fun Lm hLm => ?_⟩
  dsimp only
  generalize hbig : (10 : Int) ^ (40 : Int).toNat = big
  have bigv : 0 < big ∧ big.natAbs ≤ 10 ^ 40 := by rw [← hbig]; decide
  have OM := O.new (o := .lst [.int 1, .int 1, .int 2, .int 3, .int 4, .int 6, .int 12, .int 35, .int 1000003, .int big]) hLm
  have eM := Ex.new (o := .lst [.int 1, .int 1, .int 2, .int 3, .int 4, .int 6, .int 12, .int 35, .int 1000003, .int big]) (O.sub.free hLm)
  have hM : upd G Lm (.lst [.int 1, .int 1, .int 2, .int 3, .int 4, .int 6, .int 12, .int 35, .int 1000003, .int big]) Lm = some (.lst [.int 1, .int 1, .int 2, .int 3, .int 4, .int 6, .int 12, .int 35, .int 1000003, .int big]) := upd_same
  generalize upd G Lm (.lst [.int 1, .int 1, .int 2, .int 3, .int 4, .int 6, .int 12, .int 35, .int 1000003, .int big]) = G1 at OM eM hM
  generalize upd H Lm (.lst [.int 1, .int 1, .int 2, .int 3, .int 4, .int 6, .int 12, .int 35, .int 1000003, .int big]) = H1 at OM
  refine ⟨_, rfl, (n : Int), rfl, by omega, by omega, fun D hD => ?_⟩
  rw [Int.toNat_natCast]
  refine lc_grow (walk_range (lo := 0) (n := n)) (c := 1) OM hD (fun i acc G' => ∃ cs : List Nat, acc = cs.map (fun c => V.int (c : Nat)) ∧ cs.Pairwise (· < ·) ∧ (∀ c ∈ cs, c < i) ∧ acc.length ≤ i) ⟨[], rfl, .nil, fun c hc => (by cases hc), Nat.le_refl _⟩ (fun i acc G G' k p => p) (fun i acc G' _ p => by obtain ⟨cs, _, _, _, h⟩ := p; exact h) (by omega) (fun _ _ _ _ _ _ => trivial)
    (fun j x Hc Hy acc G' hj ex pa oc y Qe Qn qe qn => ?_) (fun H4 acc G4 e4 pa hcol O4 => ?_)
  · obtain ⟨rfl, rfl⟩ := y
    obtain ⟨cs, rfl, hp, hlt, hlen⟩ := pa
    show gName 3 (V.int (0 + (j : Int))) _ _ _
    rw [Int.zero_add]
    refine ⟨rfl, _, rfl, s0, q, _, _, 4, rfl, oc, by omega, by decide, by decide, fun r H5 r0 r1 O5 => ?_⟩
    refine ⟨_, _, rfl, rfl, _, rfl, iteD (fun h => ?_) fun h => ?_⟩
    · refine ⟨_, rfl, qe _ H5 G' (Ex.refl _) ⟨cs ++ [j], by rw [List.map_append]; rfl, List.pairwise_append.mpr ⟨hp, by simp, fun a ha b hb => by rw [List.mem_singleton.mp hb]; exact hlt a ha⟩, fun c hc => ?_, by simp at hlen ⊢; omega⟩ (O5.more (by omega))⟩
      rcases List.mem_append.mp hc with h | h
      · have := hlt c h; omega
      · rw [List.mem_singleton.mp h]; omega
    · exact qn H5 G' (Ex.refl _) ⟨cs, rfl, hp, fun c hc => by have := hlt c hc; omega, by omega⟩ (O5.more (by omega))
  obtain ⟨cs, rfl, hasc, hcl, hclen⟩ := pa
  rw [List.length_map] at hclen
  have hM4 := e4 _ _ hM
  refine ⟨Nat.zero_le _, fun Lr hLr => ?_⟩
  have nLr := O4.ns hLr
  have gLr : G4 Lr = none := O4.sub.free hLr
  have O5 : Ov s0 q (B + 1 * n) G4 (upd H4 Lr (.lst [])) := O4.drop hLr
  have hL5 : upd H4 Lr (.lst []) Lr = some (.lst []) := upd_same
  generalize upd H4 Lr (.lst []) = H5 at O5 hL5
  refine ⟨_, rfl, false, D, _, rfl, SqK.lst (O5.sub _ _ hcol), ?_⟩
  refine for_it (walk_k (K := K) (k := false) (a := D) (xs := cs.map fun c => V.int (c : Nat))) (fun i σ H' => ∃ (as : List Addr) (R : List (List Int)) (v3 v6 v7 v8 v9 : Option V), σ = [some (.ref s0), some (.int (n : Nat)), some (.ref Lm), v3, some (.ref D), some (.ref Lr), v6, v7, v8, v9] ∧ Ov s0 q (B + 1 * n + 30 * i) G4 H' ∧ H' Lr = some (.lst (as.map V.ref)) ∧ RowsIn H' as R ∧ R.length = i ∧
      ∀ (j c : Nat) (r : List Int), cs[j]? = some c → R[j]? = some r → r.length = n ∧ (∀ x, x < c → Hn.fv r x = 0) ∧ 0 < Hn.fv r c ∧ Hn.bnd (10 ^ 40) (Hn.fv r) ∧ ∀ x, x ≠ c → (Hn.fv r x).natAbs ≤ 10 ^ 20)
    ⟨[], [], _, _, _, _, _, rfl, O5, hL5, RowsIn.nil, rfl, fun j c r _ h => by simp at h⟩ (fun i σ H' _ p => by obtain ⟨_, _, _, _, _, _, _, _, o, _⟩ := p; exact SqK.lst (o.sub _ _ hcol)) (fun i x σ H' H6 hi p y => ?_) (fun σ H' p => ?_)
  · obtain ⟨as, R, v3, v6, v7, v8, v9, rfl, O6, hLr6, hR, hRl, hrows⟩ := p
    obtain ⟨rfl, hx⟩ := y
    rw [List.getElem?_map] at hx
    have hil : i < cs.length := by rw [List.length_map] at hi; exact hi
    have hci : cs[i]? = some cs[i] := List.getElem?_eq_getElem hil
    generalize cs[i] = c at hci
    rw [hci] at hx
    cases hx
    have hcn : c < n := hcl c (List.mem_of_getElem? hci)
    -- [0] * column
    refine ⟨by show 1 ≤ sizeLine; decide, fun l1 hl1 => ⟨_, rfl, ?_⟩⟩
    have O7 := O6.drop (o := .lst [.int 0]) hl1
    have e7 := Ex.new (o := .lst [.int 0]) hl1
    refine ⟨l1, _, _, rfl, rfl, upd_same, by omega, by omega, by rw [Int.toNat_natCast, sizeLine_eq]; show 1 * c ≤ _; omega, fun l2 hl2 => ?_⟩
    rw [Int.toNat_natCast, rep_flat]
    have O8 := O7.drop (o := .lst (List.replicate c (.int 0))) hl2
    have e8 := e7.trans (Ex.new (o := .lst (List.replicate c (.int 0))) hl2)
    have hl28 : upd (upd H6 l1 (.lst [.int 0])) l2 (.lst (List.replicate c (.int 0))) l2 = some (.lst (List.replicate c (.int 0))) := upd_same
    have n2 := O7.ns hl2
    generalize upd (upd H6 l1 (.lst [.int 0])) l2 (.lst (List.replicate c (.int 0))) = H8 at O8 e8 hl28
    have hLr8 := e8 _ _ hLr6
    have hR8 : RowsIn H8 as R := hR.mono fun a xs h => e8 _ _ h
    refine ⟨_, rfl, _, rfl, s0, q, _, _, 10, rfl, O8.all.1, by omega, by decide, by decide, fun r0 H9 r1 r2 O9 => ?_⟩
    have hLr9 := O9.l nLr.1 nLr.2 hLr8
    have hl29 := O9.l n2.1 n2.2 hl28
    have hR9 : RowsIn H9 as R := ⟨hR8.1, fun i a r h1 h2 => O8.t O9 (hR8.2 i a r h1 h2)⟩
    have O9 := O8.g O9
    obtain ⟨v, hv, hm⟩ := menu (n := 10) r1 r2 (vs := [.int 1, .int 1, .int 2, .int 3, .int 4, .int 6, .int 12, .int 35, .int 1000003, .int big]) rfl
    obtain ⟨pz, rfl, pz1, pz2⟩ : ∃ z : Int, v = .int z ∧ 0 < z ∧ z.natAbs ≤ 10 ^ 40 := by
      simp only [List.mem_cons, List.not_mem_nil, or_false] at hm
      rcases hm with h | h | h | h | h | h | h | h | h | h
      · exact ⟨1, h, by decide, by decide⟩
      · exact ⟨1, h, by decide, by decide⟩
      · exact ⟨2, h, by decide, by decide⟩
      · exact ⟨3, h, by decide, by decide⟩
      · exact ⟨4, h, by decide, by decide⟩
      · exact ⟨6, h, by decide, by decide⟩
      · exact ⟨12, h, by decide, by decide⟩
      · exact ⟨35, h, by decide, by decide⟩
      · exact ⟨1000003, h, by decide, by decide⟩
      · exact ⟨big, h, bigv.1, bigv.2⟩
    refine ixl (O9.sub _ _ hM4) hv ⟨by show 1 ≤ sizeLine; decide, fun l3 hl3 => ?_⟩
    have e10 := Ex.new (o := .lst [.int pz]) hl3
    refine cat_l (e10 _ _ hl29) upd_same (by rw [List.length_replicate]; show c + 1 ≤ _; omega) fun lw H10 e11 nw hw => ?_
    have e12 := e10.trans e11
    have O10 := O9.ex e12
    have nlw := O9.ns (e10.free nw)
    have glw : G4 lw = none := O9.sub.free (e10.free nw)
    have hLr10 := e12 _ _ hLr9
    have hR10 : RowsIn H10 as R := hR9.mono fun a xs h => e12 _ _ h
    have nLw : lw ≠ Lr := fun e => by rw [e, e10 _ _ hLr9] at nw; cases nw
    have hw : H10 lw = some (.lst (iV (List.replicate c 0 ++ [pz]))) := by
      rw [hw]
      show some (HO.lst _) = some (HO.lst (List.map V.int (List.replicate c 0 ++ [pz])))
      rw [List.map_append, List.map_replicate]
      rfl
    refine ⟨fun m σ H' => ∃ (r : List Int), σ = [some (.ref s0), some (.int (n : Nat)), some (.ref Lm), some (.int (c : Nat)), some (.ref D), some (.ref Lr), some (.ref lw), v7, v8, v9] ∧ Ov s0 q (B + 1 * n + 30 * i + 1 + 3 * (r.length - (c + 1))) G4 H' ∧ H' lw = some (.lst (iV r)) ∧ H' Lr = some (.lst (as.map V.ref)) ∧ RowsIn H' as R ∧
        c + 1 ≤ r.length ∧ r.length ≤ n ∧ (∀ x, x < c → Hn.fv r x = 0) ∧ 0 < Hn.fv r c ∧ Hn.bnd (10 ^ 40) (Hn.fv r) ∧ (∀ x, x ≠ c → (Hn.fv r x).natAbs ≤ 10 ^ 20) ∧ m = n - r.length,
      ⟨_, List.replicate c 0 ++ [pz], rfl, O10.more (by simp), hw, hLr10, hR10, by simp, by simp; omega, fun x hx => ?_, ?_, fun j => ?_, fun x hx => ?_, rfl⟩, ?_⟩
    · exact Hn.fv_at (by rw [List.getElem?_append_left (by rw [List.length_replicate]; exact hx), List.getElem?_replicate, if_pos hx])
    · rw [Hn.fv_at (x := pz) (by rw [List.getElem?_append_right (by rw [List.length_replicate]; exact Nat.le_refl _), List.length_replicate, Nat.sub_self]; rfl)]
      exact pz1
    · by_cases hj : j < c
      · rw [Hn.fv_at (x := 0) (by rw [List.getElem?_append_left (by rw [List.length_replicate]; exact hj), List.getElem?_replicate, if_pos hj])]
        simp
      · by_cases hj2 : j = c
        · rw [hj2, Hn.fv_at (x := pz) (by rw [List.getElem?_append_right (by rw [List.length_replicate]; exact Nat.le_refl _), List.length_replicate, Nat.sub_self]; rfl)]
          exact pz2
        · rw [Hn.fv_out (by simp; omega)]; simp
    · by_cases hj : x < c
      · rw [Hn.fv_at (x := 0) (by rw [List.getElem?_append_left (by rw [List.length_replicate]; exact hj), List.getElem?_replicate, if_pos hj])]
        simp
      · rw [Hn.fv_out (by simp; omega)]; simp
    rintro m σ H' ⟨r, rfl, Ow, hw, hLrw, hRw, hr1, hr2, hr3, hr4, hr5, hr6, rfl⟩
    refine ⟨_, rfl, lw, _, rfl, .inl (SqL.of hw), _, rfl, _, _, rfl, rfl, _, rfl, iteD (fun h => ?_) fun h => ?_⟩
    · rw [List.length_map] at h
      refine ⟨fun σ' H' => ∃ m', m' < n - r.length ∧ _, fun _ _ h => h, ?_⟩
      refine ⟨_, rfl, .inl ⟨rfl, _, SqL.of hw⟩, _, rfl, s0, q, _, _, 7, rfl, Ow.all.1, by omega, by decide, by decide, fun a0 Ha a1 a2 Oa => ?_⟩
      have hwa := Oa.l nlw.1 nlw.2 hw
      have hLa := Oa.l nLr.1 nLr.2 hLrw
      have hRa : RowsIn Ha as R := ⟨hRw.1, fun i a r h1 h2 => Ow.t Oa (hRw.2 i a r h1 h2)⟩
      have Oa := Ow.g Oa
      refine ⟨_, _, rfl, rfl, _, rfl, ?_⟩
      refine ⟨10, 20, rfl, rfl, ⟨by decide, by decide, by decide⟩, s0, q, _, _, (10 : Int) ^ (20 : Int).toNat, rfl, Oa.all.1, by omega, by decide, by decide, fun b0 Hb b1 b2 Ob => ?_⟩
      have hwb := Ob.l nlw.1 nlw.2 hwa
      have hLb := Ob.l nLr.1 nLr.2 hLa
      have hRb : RowsIn Hb as R := ⟨hRa.1, fun i a r h1 h2 => Oa.t Ob (hRa.2 i a r h1 h2)⟩
      have Ob := Oa.g Ob
      refine ⟨by show 3 ≤ sizeLine; decide, fun l4 hl4 => ⟨_, rfl, s0, q, _, _, 3, rfl, (Ob.drop hl4).all.1, by omega, by decide, by decide, fun c0 Hc c1 c2 Oc => ?_⟩⟩
      have n4 := Ob.ns hl4
      have ec := Ex.new (o := .lst [.int 0, .int (a0 - 3), .int b0]) hl4
      have h4c := Oc.l n4.1 n4.2 upd_same
      have hwc := Oc.l nlw.1 nlw.2 (ec _ _ hwb)
      have hLc := Oc.l nLr.1 nLr.2 (ec _ _ hLb)
      have hRc : RowsIn Hc as R := ⟨hRb.1, fun i a r h1 h2 => (Ob.drop hl4).t Oc (ec _ _ (hRb.2 i a r h1 h2))⟩
      have Oc := (Ob.drop hl4).g Oc
      obtain ⟨v, hv, hm⟩ := menu (n := 3) c1 c2 (vs := [.int 0, .int (a0 - 3), .int b0]) rfl
      obtain ⟨z, rfl, hz⟩ : ∃ z : Int, v = .int z ∧ z.natAbs ≤ 10 ^ 20 := by
        simp only [List.mem_cons, List.not_mem_nil, or_false] at hm
        rcases hm with h | h | h
        · exact ⟨0, h, by decide⟩
        · exact ⟨_, h, by omega⟩
        · refine ⟨b0, h, ?_⟩
          have : (10 : Int) ^ (20 : Int).toNat = 100000000000000000000 := by decide
          rw [this] at b2
          omega
      refine ixl h4c hv ⟨lw, _, _, rfl, rfl, hwc, by rw [List.length_map, sizeLine_eq]; omega, ?_⟩
      have Od := Oc.mut (o := .lst (iV r ++ [.int z])) glw nlw.1 nlw.2
      refine ⟨n - (r ++ [z]).length, by rw [List.length_append]; show n - (r.length + 1) < _; omega, r ++ [z], rfl, Od.more (by rw [List.length_append]; show _ ≤ B + 1 * n + 30 * i + 1 + 3 * (r.length + 1 - (c + 1)); omega), ?_, (upd_ne (Ne.symm nLw)).trans hLc, hRc.mono fun a xs h => tk_put hwc a xs h, by rw [List.length_append]; omega, by rw [List.length_append]; show r.length + 1 ≤ n; omega, fun x hx => ?_, ?_, fun j => ?_, fun x hx => ?_, rfl⟩
      · rw [upd_same]
        show some (HO.lst (iV r ++ [V.int z])) = some (HO.lst (List.map V.int (r ++ [z])))
        rw [List.map_append]; rfl
      · rw [← hr3 x hx]
        exact Hn.fv_at (by rw [List.getElem?_append_left (by omega)]; exact Hn.fv_get (by omega))
      · rw [Hn.fv_at (x := Hn.fv r c) (by rw [List.getElem?_append_left (by omega)]; exact Hn.fv_get (by omega))]
        exact hr4
      · by_cases hj : j < r.length
        · rw [Hn.fv_at (x := Hn.fv r j) (by rw [List.getElem?_append_left hj]; exact Hn.fv_get hj)]
          exact hr5 j
        · by_cases hj2 : j = r.length
          · rw [hj2, Hn.fv_at (x := z) (by rw [List.getElem?_append_right (Nat.le_refl _), Nat.sub_self]; rfl)]
            exact Nat.le_trans hz (by decide)
          · rw [Hn.fv_out (by rw [List.length_append]; show r.length + 1 ≤ j; omega)]; simp
      · by_cases hj : x < r.length
        · rw [Hn.fv_at (x := Hn.fv r x) (by rw [List.getElem?_append_left hj]; exact Hn.fv_get hj)]
          exact hr6 x hx
        · by_cases hj2 : x = r.length
          · rw [hj2, Hn.fv_at (x := z) (by rw [List.getElem?_append_right (Nat.le_refl _), Nat.sub_self]; rfl)]
            exact hz
          · rw [Hn.fv_out (by rw [List.length_append]; show r.length + 1 ≤ x; omega)]; simp
    · rw [List.length_map] at h
      have hrn : r.length = n := by omega
      refine ⟨_, rfl, .inl ⟨rfl, _, SqL.of hLrw⟩, _, rfl, lw, _, rfl, .inl ⟨SqL.of hw, fun t ht => ?_⟩⟩
      have nt : t ≠ Lr := fun e => by rw [e, hLrw] at ht; cases ht
      have et := Ex.new (o := .tup (iV r)) ht
      have Ot := Ow.drop (o := .tup (iV r)) ht
      have hLt := et _ _ hLrw
      refine ⟨Lr, _, _, rfl, rfl, hLt, by rw [List.length_map, hR.1, sizeLine_eq]; omega, ?_⟩
      refine ⟨as ++ [t], R ++ [r], _, _, _, _, _, rfl, ((Ot.mut (o := .lst (as.map V.ref ++ [V.ref t])) gLr nLr.1 nLr.2)).more (by omega), by rw [upd_same, List.map_append]; rfl, ?_, by rw [List.length_append, hRl]; rfl, fun j c' r' h1 h2 => ?_⟩
      · refine RowsIn.snoc (hRw.mono fun a xs h => tk_put hLt a xs (et _ _ h)) ?_
        exact (upd_ne nt).trans upd_same
      · by_cases hj : j < R.length
        · rw [List.getElem?_append_left hj] at h2
          exact hrows j c' r' h1 h2
        · rw [List.getElem?_append_right (by omega)] at h2
          have : j - R.length = 0 := by have := (List.getElem?_eq_some_iff.mp h2).1; simp at this; omega
          rw [this] at h2
          cases h2
          have ej : j = i := by omega
          rw [ej, hci] at h1
          cases h1
          exact ⟨hrn, hr3, hr4, hr5, hr6⟩
  · obtain ⟨as, R, v3, v6, v7, v8, v9, rfl, O6, hLr6, hR, hRl, hrows⟩ := p
    rw [List.length_map] at hRl O6
    have eR : Hn.EchR n cs R := ⟨hRl.symm, hasc, hcl, fun i c r h1 h2 => by obtain ⟨a, b, c', _⟩ := hrows i c r h1 h2; exact ⟨a, b, c'⟩⟩
    have b0 : Hn.BQ n cs (10 ^ 40) (10 ^ 20) R 0 0 := Hn.BQ.start eR (fun r hr => by
      obtain ⟨j, hj⟩ := List.mem_iff_getElem?.mp hr
      have : j < cs.length := by rw [← hRl]; exact (List.getElem?_eq_some_iff.mp hj).1
      exact (hrows j _ r (List.getElem?_eq_getElem this) hj).2.2.2.1) fun j c r h1 h2 => (hrows j c r h1 h2).2.2.2.2
    have zb : ∀ (k : Nat), k ≤ 8 → 10 ^ 40 * (1 + 10 ^ 40) ^ k ≤ 2 ^ 1200 := fun k hk => by
      have : (10 : Nat) ^ 40 * (1 + 10 ^ 40) ^ k ≤ 10 ^ 40 * (1 + 10 ^ 40) ^ 8 := Nat.mul_le_mul_left _ (Nat.pow_le_pow_right (by omega) hk)
      refine Nat.le_trans this (by decide)
    have nlen : R.length ≤ n := by omega
    clear hrows
    refine ⟨_, rfl, false, D, _, rfl, SqK.lst (O6.sub _ _ hcol), ?_⟩
    refine for_it (walk_ek (K := K) (k := false) (a := D) (xs := cs.map fun c => V.int (c : Nat))) (fun i σ H' => ∃ (as : List Addr) (R : List (List Int)) (v3 v6 v7 v8 v9 : Option V), σ = [some (.ref s0), some (.int (n : Nat)), some (.ref Lm), v3, some (.ref D), some (.ref Lr), v6, v7, v8, v9] ∧ Ov s0 q (B + 1 * n + 30 * cs.length) G4 H' ∧ H' Lr = some (.lst (as.map V.ref)) ∧ RowsIn H' as R ∧ R.length = cs.length ∧ Hn.BQ n cs (10 ^ 40) (10 ^ 20) R i 0)
      ⟨as, R, _, _, _, _, _, rfl, O6, hLr6, hR, hRl, b0⟩ (fun i σ H' _ p => by obtain ⟨_, _, _, _, _, _, _, _, o, _⟩ := p; exact SqK.lst (o.sub _ _ hcol)) (fun i x σ H' H7 hi p y => ?_) (fun σ H' p => ?_)
    · obtain ⟨as, R, v3, v6, v7, v8, v9, rfl, O7, hL7, hR7, hRl7, bi⟩ := p
      obtain ⟨T, x1, y1, rfl, hT, rfl, hx, hy⟩ := y
      cases hx
      have hy : (cs.map fun c => V.int (c : Nat))[i]? = some y1 := hy
      rw [List.getElem?_map] at hy
      have hil : i < cs.length := by rw [List.length_map] at hi; exact hi
      have hci : cs[i]? = some cs[i] := List.getElem?_eq_getElem hil
      generalize cs[i] = c at hci
      rw [hci] at hy
      cases hy
      have eT := Ex.new (o := .tup [.int (i : Nat), .int (c : Nat)]) hT
      refine ⟨T, _, rfl, SqT.of upd_same, rfl, _, _, rfl, _, _, rfl, rfl, ?_⟩
      have O8 := O7.ex eT
      have hL8 := eT _ _ hL7
      have hR8 : RowsIn (upd H' T (.tup [.int (i : Nat), .int (c : Nat)])) as R := hR7.mono fun a xs h => eT _ _ h
      generalize upd H' T (.tup [.int (i : Nat), .int (c : Nat)]) = H8 at O8 hL8 hR8
      refine ⟨_, rfl, (i : Int), rfl, by omega, by omega, ?_⟩
      rw [Int.toNat_natCast]
      refine for_it (walk_range (lo := 0) (n := i)) (fun k σ H' => ∃ (as : List Addr) (R : List (List Int)) (v6 v8 v9 : Option V), σ = [some (.ref s0), some (.int (n : Nat)), some (.ref Lm), some (.int (c : Nat)), some (.ref D), some (.ref Lr), v6, some (.int (i : Nat)), v8, v9] ∧ Ov s0 q (B + 1 * n + 30 * cs.length) G4 H' ∧ H' Lr = some (.lst (as.map V.ref)) ∧ RowsIn H' as R ∧ R.length = cs.length ∧ Hn.BQ n cs (10 ^ 40) (10 ^ 20) R i k)
        ⟨as, R, _, _, _, rfl, O8, hL8, hR8, hRl7, bi⟩ (fun _ _ _ _ _ => trivial) (fun k x σ H' H9 hk p y => ?_) (fun σ H' p => ?_)
      · obtain ⟨as, R, v6, v8, v9, rfl, O9, hL9, hR9, hRl9, bk⟩ := p
        obtain ⟨rfl, rfl⟩ := y
        show gName 8 (V.int (0 + (k : Int))) _ _ _
        rw [Int.zero_add]
        obtain ⟨ah, ha1, ha2, ha3⟩ := hR9.get (i := k) (by omega)
        obtain ⟨al, hb1, hb2, hb3⟩ := hR9.get (i := i) (by omega)
        generalize R[k] = rh at ha2 ha3
        generalize R[i] = rl at hb2 hb3
        have em : ∀ {j : Nat} {a : Addr}, as[j]? = some a → (as.map V.ref)[j]? = some (.ref a) := fun h => by rw [List.getElem?_map, h]; rfl
        obtain ⟨l1, l2, l3⟩ := bk.b.e.row i c rl hci hb2
        obtain ⟨ck, hck⟩ : ∃ ck, cs[k]? = some ck := ⟨_, List.getElem?_eq_getElem (by omega)⟩
        obtain ⟨h1, h2, h3⟩ := bk.b.e.row k ck rh hck ha2
        have hcn : c < n := hcl c (List.mem_of_getElem? hci)
        have ih : (iV rh)[c]? = some (.int (Hn.fv rh c)) := by rw [List.getElem?_map, Hn.fv_get (by rw [h1]; exact hcn)]; rfl
        have il : (iV rl)[c]? = some (.int (Hn.fv rl c)) := by rw [List.getElem?_map, Hn.fv_get (by rw [l1]; exact hcn)]; rfl
        have lb := bk.b.raw i rl (Nat.le_refl i) hb2
        have lb2 := lb c
        refine ⟨_, rfl, _, rfl, ixl hL9 (atI_nat (em ha1)) ⟨_, rfl, ixt ha3 (atI_nat ih) ⟨_, rfl, _, rfl, ixl hL9 (atI_nat (em hb1)) ⟨_, rfl, ixt hb3 (atI_nat il) ⟨_, _, rfl, rfl, ⟨by omega, ?_⟩, ?_⟩⟩⟩⟩⟩
        · refine Nat.lt_of_le_of_lt (Hn.log_le (e := 200) (Nat.le_trans lb2 (by decide))) (by decide)
        have efd : (Hn.fv rh c).fdiv (Hn.fv rl c) = Hn.fv rh c / Hn.fv rl c := Int.fdiv_eq_ediv_of_nonneg _ (by omega)
        have fb : (0 - (Hn.fv rh c).fdiv (Hn.fv rl c)).natAbs ≤ 2 ^ 1200 := by
          rw [efd]
          have a := bk.b.low k rh (Nat.le_refl k) ha2 c
          have b := zb i (by omega)
          have := Int.natAbs_ediv_le_natAbs (Hn.fv rh c) (Hn.fv rl c)
          omega
        have s1200 : sm8 (2 ^ 1200) := Nat.lt_of_le_of_lt (Hn.log_le (Nat.le_refl _)) (by decide)
        refine ⟨_, rfl, _, _, rfl, rfl, ?_⟩
        refine ⟨_, rfl, _, rfl, ixl hL9 (atI_nat (em hb1)) ⟨_, rfl, _, rfl, ixl hL9 (atI_nat (em ha1)) ?_⟩⟩
        refine ⟨al, ah, _, rl, rh, rfl, hb3, ha3, by rw [l1, h1], by omega, bg_le fb s1200, fun x hx => bg_at (sm8_mono (by decide) s1200) lb hx, fun H10 p e10 np hp => ?_⟩
        have hL10 := e10 _ _ hL9
        have npL : p ≠ Lr := fun e => by rw [e, hL9] at np; cases np
        have O10 := O9.ex e10
        refine ⟨_, rfl, _, rfl, Lr, _, k, k, rfl, rfl, hL10, ixN_nat (by rw [List.length_map, hR9.1]; omega), ?_⟩
        rw [efd] at hp
        refine ⟨as.set k p, R.set k _, _, _, _, rfl, O10.mut gLr nLr.1 nLr.2, by rw [upd_same, List.map_set], ?_, by rw [List.length_set]; exact hRl9, bk.step hk hci ha2 hb2⟩
        exact RowsIn.set (hR9.mono fun a xs h => tk_put hL10 a xs (e10 _ _ h)) ((upd_ne npL).trans hp)
      · obtain ⟨as, R, v6, v8, v9, rfl, O9, hL9, hR9, hRl9, bk⟩ := p
        exact ⟨as, R, _, _, _, _, _, rfl, O9, hL9, hR9, hRl9, bk.next⟩
    · obtain ⟨as, R, v3, v6, v7, v8, v9, rfl, O7, hL7, hR7, hRl7, bi⟩ := p
      rw [List.length_map] at bi
      refine ⟨_, rfl, Lr, _, rfl, .inl ⟨SqL.of hL7, fun t ht => ?_⟩⟩
      have et := Ex.new (o := .tup (as.map V.ref)) ht
      have O8 := O7.ex et
      obtain ⟨O9, e9⟩ := O8.all
      refine kq t as cs R _ _ ((eM.trans e4).trans e9) (O9.more (by omega)) (O8.tup upd_same) (RowsIn.beside O8 (hR7.mono fun a xs h => et _ _ h)) bi.b.e (bi.b.hnf (by omega)) fun r hr x => ?_
      have bi' : Hn.BQ n cs (10 ^ 40) (10 ^ 20) R R.length 0 := by rw [hRl7]; exact bi
      obtain ⟨f1, f2⟩ := bi'.fin r hr x
      by_cases hx : x ∈ cs
      · exact Nat.le_trans (f1 hx) (by decide)
      by_cases xn : x < n
      · refine Nat.le_trans (f2 hx) ?_
        have c1 := Hn.cpl_len bi.b.e.asc bi.b.e.lt
        have c2 : 1 ≤ (Hn.cpl n cs).length := List.length_pos_iff.mpr fun e => by
          have := Hn.cpl_mem.mpr ⟨xn, hx⟩
          rw [e] at this
          cases this
        exact Nat.le_trans (Nat.mul_le_mul_left _ (Nat.pow_le_pow_right (by omega) (show R.length ≤ 6 by omega))) (by decide)
      · obtain ⟨j, hj⟩ := List.mem_iff_getElem?.mp hr
        have hc : cs[j]? = some (cs[j]'(by have := (List.getElem?_eq_some_iff.mp hj).1; omega)) := List.getElem?_eq_getElem _
        rw [Hn.fv_out (by rw [(bi.b.e.row j _ r hc hj).1]; omega)]
        simp
end
end K06

set_option maxHeartbeats 4000000
namespace K06
open PySem PySem.Spec PyProof.Rows L2 Hg
section
variable {P : Program} {w : World} {K : PySem.W.Frag} {mg : Str → Option Value} {base : Heap}
theorem ok_l_coordinates {f : Addr} {fd : FuncData} (F : DefK K mg "_law_coordinates" st_l_coordinates ["_law_basis_here", "_law_vector"] f fd) (Z : Zs mg) {f_l_plus : Addr} {fd_l_plus : FuncData} (D_l_plus : DefK K mg "_law_plus" st_l_plus ["_law_factor", "_law_one", "_law_other"] f_l_plus fd_l_plus) (G_l_plus : FnOk P w K mg base CX0 1 f_l_plus fd_l_plus ["_law_factor", "_law_one", "_law_other"] (sp_l_plus K)) (NS : base.NoSeer) (hP : P.given.tree = none) :
    FnOk P w K mg base CX0 33 f fd ["_law_basis_here", "_law_vector"] (sp_l_coordinates K) := by
  refine F.fn.ok sc_l_coordinates (fun vs H Q E h => by first | exact listedM_len h | (obtain ⟨rfl, _⟩ := h; rfl) | (obtain ⟨_, rfl, _⟩ := h; rfl) | (obtain ⟨_, _, rfl, _⟩ := h; rfl) | (obtain ⟨_, _, _, rfl, _⟩ := h; rfl) | (obtain ⟨_, _, _, _, rfl, _⟩ := h; rfl) | (obtain ⟨_, _, _, _, _, rfl, _⟩ := h; rfl) | (obtain ⟨_, _, _, _, _, _, rfl, _⟩ := h; rfl) | (obtain ⟨_, _, _, _, _, _, _, rfl, _⟩ := h; rfl) | (obtain ⟨_, _, _, _, _, _, _, _, rfl, _⟩ := h; rfl) | (obtain ⟨_, _, _, _, _, _, _, _, _, rfl, _⟩ := h; rfl) | (obtain ⟨_, _, _, _, _, _, _, _, _, _, rfl, _⟩ := h; rfl) | (obtain ⟨_, _, _, _, _, _, _, _, _, _, _, rfl, _⟩ := h; rfl) | (obtain ⟨_, _, _, _, _, _, _, _, _, _, _, _, rfl, _⟩ := h; rfl) | (obtain ⟨_, _, _, _, _, _, _, _, _, _, _, _, _, rfl, _⟩ := h; rfl) | (obtain ⟨_, _, _, _, _, _, _, _, _, _, _, _, _, _, rfl, _⟩ := h; rfl) | (obtain ⟨_, _, _, _, _, _, _, _, _, _, _, _, _, _, _, rfl, _⟩ := h; rfl) | (obtain ⟨_, _, _, _, _, _, _, _, _, _, _, _, _, _, _, _, rfl, _⟩ := h; rfl) | (obtain ⟨_, _, _, _, _, _, _, _, _, _, _, _, _, _, _, _, _, rfl, _⟩ := h; rfl) | (obtain ⟨_, _, _, _, _, _, _, _, _, _, _, _, _, _, _, _, _, _, rfl, _⟩ := h; rfl) | (obtain ⟨_, _, _, _, _, _, _, _, _, _, _, _, _, _, _, _, _, _, _, rfl, _⟩ := h; rfl) | (obtain ⟨_, _, _, _, _, _, _, _, _, _, _, _, _, _, _, _, _, _, _, _, rfl, _⟩ := h; rfl) | (obtain ⟨_, _, _, _, _, _, _, _, _, _, _, _, _, _, _, _, _, _, _, _, _, rfl, _⟩ := h; rfl) | (obtain ⟨_, _, _, _, _, _, _, _, _, _, _, _, _, _, _, _, _, _, _, _, _, _, rfl, _⟩ := h; rfl) | (obtain ⟨_, _, _, _, _, _, _, _, _, _, _, _, _, _, _, _, _, _, _, _, _, _, _, rfl, _⟩ := h; rfl)) (fun cdv A outer s H vs Q E hr h => ?_)
  obtain ⟨a, b, n, B, cs, as, R, v, rfl, ha, hR, hb, eR, hv, hn, hRl, hRb, hvb, hs8, kn, ks⟩ := h
  refine ⟨_, (pss_cons (ps_set (i := 2) sc_l_coordinates.nd rfl (.inl rfl) (pe_lst pa_nil))
      (pss_cons (ps_for PassesOwn.never rfl (kSeq (K := K) (pv 0)) (pg_name (i := 3) sc_l_coordinates.nd rfl (.inl rfl)) (pss_cons (ps_set (i := 4) sc_l_coordinates.nd rfl (.inl rfl) (pe_bm PySem.F.plainAttrs_list PySem.F.slot_list_index PySem.F.type_list_index mt_index (pe_lc (own := [("_law_entry", 6)]) rfl sc_l_coordinates.nd (kSeq (K := K) (pv 3)) (blkOk_by (N := ["_law_basis_here", "_law_vector", "_law_found", "_law_row", "_law_column", "_law_factor", "_law_entry"]) (sc := defScope st_l_coordinates) (by decide +kernel)) (fun _ _ _ _ _ => (pg_name (i := 6) sc_l_coordinates.nd rfl (.inl rfl))) (fun _ _ _ _ _ => pts_nil) (fun _ _ _ _ _ => (pe_cmpR (kNe (K := K) hr.units) (pv 6) pe_int (nomark _)))) (pa_cons pe_bl pa_nil)))
      (pss_cons (ps_set (i := 5) sc_l_coordinates.nd rfl (.inl rfl) (pe_op (oDivP (seeX NS hP (hr.mono (by decide)) sc_l_coordinates)) (pe_ix (kIx (K := K)) (pv 1) (pv 4) (fun _ _ => rfl)) (pe_ix (kIx (K := K)) (pv 3) (pv 4) (fun _ _ => rfl))))
      (pss_cons (ps_set (i := 1) sc_l_coordinates.nd rfl (.inl rfl) (pe_call G_l_plus (hr.mono (by decide)) rfl D_l_plus.mg D_l_plus.fn.kp D_l_plus.bd .nil pass0 (pa_cons (pe_op op_sub pe_int (pv 5)) (pa_cons (pv 3) (pa_cons (pv 1) pa_nil)))))
      (pss_one (ps_expr (pe_bm PySem.F.plainAttrs_list PySem.F.slot_list_append PySem.F.type_list_append mt_append (pv 2) (pa_cons (pv 5) pa_nil))))))))
      (pss_one (ps_ret (pe_ifExp (pt_val (pe_callB (kAny (K := K) rfl) (by rfl) Z.any_ PyProof.Rows.Boot.«any» (pa_cons (pe_lc (own := [("_law_entry", 6)]) rfl sc_l_coordinates.nd (kSeq (K := K) (pv 1)) (blkOk_by (N := ["_law_basis_here", "_law_vector", "_law_found", "_law_row", "_law_column", "_law_factor", "_law_entry"]) (sc := defScope st_l_coordinates) (by decide +kernel)) (fun _ _ _ _ _ => (pg_name (i := 6) sc_l_coordinates.nd rfl (.inl rfl))) (fun _ _ _ _ _ => pts_nil) (fun _ _ _ _ _ => (pe_cmpR (kNe (K := K) hr.units) (pv 6) pe_int (nomark _)))) pa_nil))) pe_non (pe_callTy (kTup (K := K)) (by rfl) Z.tuple_ PyProof.Rows.Boot.«tuple» (pa_cons (pv 2) pa_nil))))))), ?_⟩
  have xl := hR.1
  have s8 : ∀ i, i ≤ R.length → sm8 (B * (1 + B) ^ i) := fun i hi => sm8_mono (Nat.mul_le_mul_left _ (Nat.pow_le_pow_right (by omega) hi)) hs8
  have s8B : sm8 B := by have := s8 0 (Nat.zero_le _); rwa [Nat.pow_zero, Nat.mul_one] at this
  refine ⟨by show 0 ≤ sizeLine; decide, fun Fs hF => ?_⟩
  have e0 := Ex.new (o := .lst []) hF
  have hF0 : upd H Fs (.lst []) Fs = some (.lst (iV [])) := upd_same
  generalize upd H Fs (.lst []) = H0 at e0 hF0
  refine ⟨_, rfl, true, a, _, rfl, SqK.tup (e0 _ _ ha), for_it (walk_k (K := K) (k := true) (a := a) (xs := as.map V.ref)) (fun i σ H' => ∃ (p : Addr) (rest fs : List Int) (v3 v4 v5 v6 : Option V), σ = [some (.ref a), some (.ref p), some (.ref Fs), v3, v4, v5, v6] ∧ Ex H H' ∧ H' Fs = some (.lst (iV fs)) ∧ H' p = some (.tup (iV rest)) ∧ Hn.Crd n R v B i rest fs)
    ⟨b, v, [], _, _, _, _, rfl, e0, hF0, e0 _ _ hb, Hn.Crd.start hv hvb⟩ (fun i σ H' _ p => by obtain ⟨_, _, _, _, _, _, _, _, e, _⟩ := p; exact SqK.tup (e _ _ ha)) (fun i x σ H' H2 hi p y => ?_) (fun σ H' p => ?_)⟩
  · obtain ⟨p, rest, fs, v3, v4, v5, v6, rfl, ex, hFs, hp, cr⟩ := p
    obtain ⟨rfl, hx⟩ := y
    rw [List.getElem?_map] at hx
    obtain ⟨ra, hra0, rfl⟩ := Option.map_eq_some_iff.mp hx
    have hi' : i < R.length := by rw [← xl]; exact (List.getElem?_eq_some_iff.mp hra0).1
    have hr : R[i]? = some R[i] := List.getElem?_eq_getElem hi'
    generalize R[i] = r at hr
    have hra := hR.2 i ra r hra0 hr
    obtain ⟨c, hc⟩ : ∃ c, cs[i]? = some c := ⟨_, List.getElem?_eq_getElem (by rw [eR.len]; exact hi')⟩
    obtain ⟨r1, r2, r3⟩ := eR.row i c r hc hr
    have hcn := eR.lt c (List.mem_of_getElem? hc)
    refine ⟨_, rfl, true, ra, _, rfl, SqK.tup (ex _ _ hra), fun D hD => ?_⟩
    refine lc_pure (walk_k (K := K) (k := true) (a := ra) (xs := iV r)) hD (fun _ => true) (fun i => .bl (!decide (V.int (r.getD i 0) = V.int 0))) (by rw [List.length_map]; omega) (fun _ e => SqK.tup (e _ _ (ex _ _ hra))) (fun j x Hc Hy hj e y Qe Qn qe qn => ?_) (fun H1 ex1 hL => ?_)
    · obtain ⟨rfl, hx⟩ := y
      obtain ⟨z1, hz1, rfl⟩ := ints_at hx
      have e1 : r.getD j 0 = z1 := by rw [List.getD_eq_getElem?_getD, hz1]; rfl
      rw [e1] at qe
      exact ⟨rfl, _, rfl, .inl ⟨rfl, qe rfl _ (Ex.refl _)⟩⟩
    rw [picked_all, List.length_map, range_ints (fun z => V.bl (!decide (V.int z = V.int 0))) r] at hL
    have ex2 := ex.trans ex1
    have hFs2 := ex1 _ _ hFs
    have hp2 := ex1 _ _ hp
    have atr : ∀ {j : Nat}, j < n → (r.map fun z => V.bl (!decide (V.int z = V.int 0)))[j]? = some (V.bl (!decide (V.int (Hn.fv r j) = V.int 0))) := fun h => by rw [List.getElem?_map, Hn.fv_get (by omega)]; rfl
    refine ⟨.inl ⟨rfl, _, SqL.of hL⟩, D, _, .bl true, c, _, rfl, rfl, SqL.of hL, rfl, ?_, atr hcn, ?_, fun j z' hj hz' => ?_, ?_⟩
    · rw [List.all_map]
      exact List.all_eq_true.mpr fun _ _ => rfl
    · have : ¬ (V.int (Hn.fv r c) = V.int 0) := by simp; omega
      rw [decide_eq_false this]; rfl
    · rw [atr (by omega)] at hz'
      cases hz'
      rw [r2 j hj, decide_eq_true rfl]; rfl
    have iz : (iV rest)[c]? = some (.int (Hn.fv rest c)) := by rw [List.getElem?_map, Hn.fv_get (by rw [cr.len]; exact hcn)]; rfl
    have il : (iV r)[c]? = some (.int (Hn.fv r c)) := by rw [List.getElem?_map, Hn.fv_get (by rw [r1]; exact hcn)]; rfl
    have hra2 := ex2 _ _ hra
    refine ⟨_, rfl, _, rfl, ixt hp2 (atI_nat iz) ⟨_, rfl, _, rfl, ixt hra2 (atI_nat il) ⟨_, _, rfl, rfl, by omega, ?_⟩⟩⟩
    have efd : (Hn.fv rest c).fdiv (Hn.fv r c) = Hn.fv rest c / Hn.fv r c := Int.fdiv_eq_ediv_of_nonneg _ (by omega)
    have fl := cr.fl
    have st := cr.step eR hc hr (hRb r (List.mem_of_getElem? hr))
    rw [← efd] at st
    have qb : ((Hn.fv rest c).fdiv (Hn.fv r c)).natAbs ≤ B * (1 + B) ^ i := by rw [efd]; exact cr.q_le (c := c) (r := r)
    have qb2 : bg (0 - (Hn.fv rest c).fdiv (Hn.fv r c)) := bg_le (by omega) (s8 i (by omega))
    have rb : ∀ y ∈ r, bg y := fun y hy => bg_at s8B (hRb r (List.mem_of_getElem? hr)) hy
    have hll : r.length = rest.length := by rw [cr.len, r1]
    rw [← plus_less hll] at st
    refine ⟨_, rfl, _, _, rfl, rfl, _, rfl, _, rfl, ra, p, _, r, rest, rfl, hra2, hp2, hll, by omega, qb2, rb, fun H4 p4 e4 np4 hp4 => ?_⟩
    have hFs4 := e4 _ _ hFs2
    have ex4 := ex2.trans e4
    have np : p4 ≠ Fs := fun e => by rw [e, hFs4] at hp4; cases hp4
    refine ⟨_, rfl, .inl ⟨rfl, _, SqL.of hFs4⟩, _, rfl, Fs, _, _, rfl, rfl, hFs4, by rw [List.length_map, sizeLine_eq]; omega, ?_⟩
    refine ⟨p4, _, fs ++ [_], _, _, _, _, rfl, fun q o h => (upd_ne (ne_of_none h (Ex.free (fun _ _ z => z) ‹H Fs = none›))).trans (ex4 q o h), ?_, (upd_ne np).trans hp4, st⟩
    rw [upd_same]
    show _ = some (HO.lst (List.map V.int (fs ++ [_])))
    rw [List.map_append]; rfl
  · obtain ⟨p, rest, fs, v3, v4, v5, v6, rfl, ex, hFs, hp, cr⟩ := p
    rw [List.length_map, xl] at cr
    refine ⟨_, rfl, true, p, _, rfl, SqK.tup hp, fun D hD => ?_⟩
    refine lc_pure (walk_k (K := K) (k := true) (a := p) (xs := iV rest)) hD (fun _ => true) (fun i => .bl (!decide (V.int (rest.getD i 0) = V.int 0))) (by rw [List.length_map, cr.len]; omega) (fun _ e => SqK.tup (e _ _ hp)) (fun j x Hc Hy hj e y Qe Qn qe qn => ?_) (fun H1 ex1 hL => ?_)
    · obtain ⟨rfl, hx⟩ := y
      obtain ⟨z1, hz1, rfl⟩ := ints_at hx
      have e1 : rest.getD j 0 = z1 := by rw [List.getD_eq_getElem?_getD, hz1]; rfl
      rw [e1] at qe
      exact ⟨rfl, _, rfl, .inl ⟨rfl, qe rfl _ (Ex.refl _)⟩⟩
    rw [picked_all, List.length_map, range_ints (fun z => V.bl (!decide (V.int z = V.int 0))) rest] at hL
    refine ⟨D, rest.map fun z => !decide (V.int z = V.int 0), rfl, SqL.of (by rw [hL, List.map_map]; rfl), _, rfl, ?_⟩
    by_cases hv0 : Hn.Sp (Hn.RL R) (Hn.fv v)
    · have an : ((rest.map fun z => !decide (V.int z = V.int 0)).any id) = false := by
        rw [List.any_eq_false]
        intro x hx
        obtain ⟨z, hz, rfl⟩ := List.mem_map.mp hx
        obtain ⟨j, hj⟩ := List.mem_iff_getElem?.mp hz
        have := cr.zero hv0 j
        rw [Hn.fv_at hj] at this
        simp [this]
      rw [an]
      refine iteF ⟨_, rfl, Fs, _, rfl, .inl ⟨SqL.of (ex1 _ _ hFs), fun t ht => ?_⟩⟩
      refine ks hv0 _ t fs ((ex.trans ex1).trans (Ex.new ht)) upd_same cr.fl fun j => ?_
      rw [cr.dec j, cr.zero hv0 j, Int.zero_add]
    · have an : ((rest.map fun z => !decide (V.int z = V.int 0)).any id) = true := by
        apply Classical.byContradiction
        intro n0
        have n0 : ((rest.map fun z => !decide (V.int z = V.int 0)).any id) = false := by simpa using n0
        rw [List.any_eq_false] at n0
        refine hv0 (cr.mem fun j => ?_)
        by_cases hj : j < rest.length
        · have := n0 _ (List.mem_map.mpr ⟨rest[j], List.getElem_mem hj, rfl⟩)
          rw [Hn.fv_at (List.getElem?_eq_getElem hj)]
          simpa using this
        · exact Hn.fv_out (by omega)
      rw [an]
      exact iteT (kn hv0 _ (ex.trans ex1))
theorem ok_l_lists_ofS {f_l_lists_of : Addr} {fd : FuncData} (D_l_lists_of : DefK K mg "_law_lists_of" st_l_lists_of ["_law_thing"] f_l_lists_of fd) (Z : Zs mg) (n : Nat) (G_l_lists_of : FnOk P w K mg base CX0 n f_l_lists_of fd ["_law_thing"] (sp_l_lists_ofN K n)) : FnOk P w K mg base CX0 (n + 1) f_l_lists_of fd ["_law_thing"] (sp_l_lists_ofN K (n + 1)) := by
  refine D_l_lists_of.fn.ok sc_l_lists_of (fun vs H Q E h => by rcases h with ⟨_, rfl, _⟩ | ⟨_, _, _, _, rfl, _⟩ | ⟨_, _, _, _, _, rfl, _⟩ <;> rfl) (fun cdv A outer s H vs Q E hr h => ?_)
  have h : _ := h
  rcases h with ⟨i, rfl, kq⟩ | ⟨hn, k, a, ns, rfl, ha, hl, kq⟩ | ⟨hn, k, a, xs, rows, rfl, ha, hrows, hl, hl2, kq⟩
  · refine ⟨_, (pss_cons (ps_if (pt_val (pe_callB (kIsiT (K := K)) (by rfl) Z.isinstance_ PyProof.Rows.Boot.«isinstance» (pa_cons (pv 0) (pa_cons (pe_tup (pa_cons (pe_bltn (v := .ty "tuple") (by rfl) Z.tuple_ PyProof.Rows.Boot.«tuple» rfl) (pa_cons (pe_bltn (v := .ty "list") (by rfl) Z.list_ PyProof.Rows.Boot.«list» rfl) pa_nil))) pa_nil)))) (pss_one (ps_ret (pe_lc (own := [("_law_part", 1)]) rfl sc_l_lists_of.nd (kSeq (K := K) (pv 0)) (blkOk_by (N := ["_law_thing", "_law_part"]) (sc := defScope st_l_lists_of) (by decide +kernel)) (fun _ _ _ _ _ => (pg_name (i := 1) sc_l_lists_of.nd rfl (.inl rfl))) (fun _ _ _ _ _ => pts_nil) (fun _ _ _ _ _ => (pe_call G_l_lists_of (hr.mono (by omega)) rfl D_l_lists_of.mg D_l_lists_of.fn.kp D_l_lists_of.bd .nil pass0 (pa_cons (pv 1) pa_nil)))))) pss_nil)
      (pss_one (ps_ret (pv 0)))), ?_⟩
    refine ⟨_, rfl, by show 2 ≤ sizeLine; decide, fun tp htp => ?_⟩
    dsimp only [tNil]
    refine isi_tl (d := .int i) (.int i) upd_same ⟨_, rfl, ?_⟩
    exact iteF ⟨_, rfl, kq _ (Ex.new htp)⟩
  · refine ⟨_, (pss_cons (ps_if (pt_val (pe_callB (kIsiT (K := K)) (by rfl) Z.isinstance_ PyProof.Rows.Boot.«isinstance» (pa_cons (pv 0) (pa_cons (pe_tup (pa_cons (pe_bltn (v := .ty "tuple") (by rfl) Z.tuple_ PyProof.Rows.Boot.«tuple» rfl) (pa_cons (pe_bltn (v := .ty "list") (by rfl) Z.list_ PyProof.Rows.Boot.«list» rfl) pa_nil))) pa_nil)))) (pss_one (ps_ret (pe_lc (own := [("_law_part", 1)]) rfl sc_l_lists_of.nd (kSeq (K := K) (pv 0)) (blkOk_by (N := ["_law_thing", "_law_part"]) (sc := defScope st_l_lists_of) (by decide +kernel)) (fun _ _ _ _ _ => (pg_name (i := 1) sc_l_lists_of.nd rfl (.inl rfl))) (fun _ _ _ _ _ => pts_nil) (fun _ _ _ _ _ => (pe_call G_l_lists_of (hr.mono (by omega)) rfl D_l_lists_of.mg D_l_lists_of.fn.kp D_l_lists_of.bd .nil pass0 (pa_cons (pv 1) pa_nil)))))) pss_nil)
      (pss_one (ps_ret (pv 0)))), ?_⟩
    refine ⟨_, rfl, by show 2 ≤ sizeLine; decide, fun tp htp => ?_⟩
    have e1 := Ex.new (o := .tup [.ty "tuple", .ty "list"]) htp
    dsimp only [tNil]
    have ha1 := e1.seq ha
    obtain ⟨d, hd, hq⟩ : ∃ d, Dp K (upd H tp (.tup [.ty "tuple", .ty "list"])) (.ref a) d ∧ isSq d = true := by
      cases k with
      | true => exact ⟨_, dp_t ha1, rfl⟩
      | false => exact ⟨_, dp_l ha1, rfl⟩
    refine isi_tl hd upd_same ⟨_, rfl, ?_⟩
    rw [hq]
    refine iteT ⟨_, rfl, k, a, _, rfl, ha1, fun D hD => ?_⟩
    obtain ⟨m, rfl⟩ : ∃ m, n = m + 1 := ⟨n - 1, by omega⟩
    refine lc_pure (walk_k (K := K) (k := k) (a := a) (xs := iV ns)) hD (fun _ => true) (fun i => .int (ns.getD i 0)) (by rw [List.length_map]; omega) (fun _ e => e.seq ha1) (fun i x Hc Hy hi e y Qe Qn qe qn => ?_) (fun H1 ex hL => ?_)
    · obtain ⟨rfl, hx⟩ := y
      obtain ⟨z1, hz1, rfl⟩ := ints_at hx
      have e2 : ns.getD i 0 = z1 := by rw [List.getD_eq_getElem?_getD, hz1]; rfl
      rw [e2] at qe
      exact ⟨rfl, _, rfl, .inl ⟨z1, rfl, fun H' e' => qe rfl _ e'⟩⟩
    · rw [picked_all, List.length_map, map_range ns (fun x => V.int x) _ (fun i x h => by rw [List.getD_eq_getElem?_getD, h]; rfl)] at hL
      exact kq _ D (e1.trans ex) (e1.free hD) hL
  · refine ⟨_, (pss_cons (ps_if (pt_val (pe_callB (kIsiT (K := K)) (by rfl) Z.isinstance_ PyProof.Rows.Boot.«isinstance» (pa_cons (pv 0) (pa_cons (pe_tup (pa_cons (pe_bltn (v := .ty "tuple") (by rfl) Z.tuple_ PyProof.Rows.Boot.«tuple» rfl) (pa_cons (pe_bltn (v := .ty "list") (by rfl) Z.list_ PyProof.Rows.Boot.«list» rfl) pa_nil))) pa_nil)))) (pss_one (ps_ret (pe_lc (own := [("_law_part", 1)]) rfl sc_l_lists_of.nd (kSeq (K := K) (pv 0)) (blkOk_by (N := ["_law_thing", "_law_part"]) (sc := defScope st_l_lists_of) (by decide +kernel)) (fun _ _ _ _ _ => (pg_name (i := 1) sc_l_lists_of.nd rfl (.inl rfl))) (fun _ _ _ _ _ => pts_nil) (fun _ _ _ _ _ => (pe_call G_l_lists_of (hr.mono (by omega)) rfl D_l_lists_of.mg D_l_lists_of.fn.kp D_l_lists_of.bd .nil pass0 (pa_cons (pv 1) pa_nil)))))) pss_nil)
      (pss_one (ps_ret (pv 0)))), ?_⟩
    refine ⟨_, rfl, by show 2 ≤ sizeLine; decide, fun tp htp => ?_⟩
    have e1 := Ex.new (o := .tup [.ty "tuple", .ty "list"]) htp
    dsimp only [tNil]
    have ha1 := e1.seq ha
    have hrows1 := hrows.ex e1
    obtain ⟨d, hd, hq⟩ : ∃ d, Dp K (upd H tp (.tup [.ty "tuple", .ty "list"])) (.ref a) d ∧ isSq d = true := by
      obtain ⟨ds, hds, _⟩ := hrows1.dp
      cases k with
      | true => exact ⟨_, .tup ha1 hds, rfl⟩
      | false => exact ⟨_, .lst ha1 hds, rfl⟩
    refine isi_tl hd upd_same ⟨_, rfl, ?_⟩
    rw [hq]
    refine iteT ⟨_, rfl, k, a, _, rfl, ha1, fun D hD => ?_⟩
    obtain ⟨m, rfl⟩ : ∃ m, n = m + 2 := ⟨n - 2, by omega⟩
    have xl := hrows.1
    refine lc_rows (walk_k (K := K) (k := k) (a := a) (xs := xs)) hD (fun i acc H' => acc.length = i ∧ ∀ (j : Nat) (v : V) (r : List Int), acc[j]? = some v → rows[j]? = some r → ∃ b, v = .ref b ∧ b ≠ D ∧ H b = none ∧ H' b = some (.lst (iV r))) (fun _ => ⟨rfl, fun j v x h => by simp at h⟩)
      (fun i acc G G' e p => ⟨p.1, fun j v x h1 h2 => by obtain ⟨b, q1, q2, q4, q3⟩ := p.2 j v x h1 h2; exact ⟨b, q1, q2, q4, e _ _ q2 q3⟩⟩) (fun i acc G p => Nat.le_of_eq p.1) (by omega) (fun G e => e.seq ha1)
      (fun i x Hc Hy acc hi ex hacc pa y Qe Qn qe qn => ?_) (fun H4 acc ex pa hacc => ?_)
    · obtain ⟨rfl, hx⟩ := y
      obtain ⟨r, hr⟩ : ∃ r, rows[i]? = some r := ⟨_, List.getElem?_eq_getElem (by omega)⟩
      obtain ⟨kr, b, rfl, hb⟩ := (hrows1.ex ex).2 i x r hx hr
      refine ⟨rfl, _, rfl, .inr (.inl ⟨by omega, kr, b, r, rfl, hb, hl2 r (List.mem_of_getElem? hr), fun H' p e' np hp => ?_⟩)⟩
      refine qe _ _ e' ⟨by rw [List.length_append, pa.1]; rfl, fun j v x h1 h2 => ?_⟩
      by_cases hj : j < acc.length
      · rw [List.getElem?_append_left hj] at h1
        obtain ⟨b, q1, q2, q4, q3⟩ := pa.2 j v x h1 h2
        exact ⟨b, q1, q2, q4, e' _ _ q3⟩
      · rw [List.getElem?_append_right (by omega)] at h1
        have : j - acc.length = 0 := by have := (List.getElem?_eq_some_iff.mp h1).1; simp at this; omega
        rw [this] at h1
        have ej : j = i := by have := pa.1; omega
        rw [ej, hr] at h2
        cases h1
        cases h2
        exact ⟨p, rfl, (fun e => by rw [e, hacc] at np; cases np), (e1.trans ex).free np, hp⟩
    · refine kq H4 D acc (e1.trans ex) (e1.free hD) hacc ⟨by rw [pa.1, xl], fun j v r h1 h2 => ?_⟩
      obtain ⟨b, q1, q2, q4, q3⟩ := pa.2 j v r h1 h2
      exact ⟨b, q1, q4, q3⟩
theorem ok_l_lists_ofN {f_l_lists_of : Addr} {fd : FuncData} (D_l_lists_of : DefK K mg "_law_lists_of" st_l_lists_of ["_law_thing"] f_l_lists_of fd) (Z : Zs mg) : ∀ n, FnOk P w K mg base CX0 n f_l_lists_of fd ["_law_thing"] (sp_l_lists_ofN K n)
  | 0 => fn_none
  | n + 1 => ok_l_lists_ofS D_l_lists_of Z n (ok_l_lists_ofN D_l_lists_of Z n)
theorem ok_l_listed {f : Addr} {fd : FuncData} (F : DefK K mg "_law_listed" st_l_listed ["_law_stream", "_law_thing"] f fd) (Z : Zs mg) {f_l_draw : Addr} {fd_l_draw : FuncData} (D_l_draw : DefK K mg "_law_draw" st_l_draw ["_law_stream", "_law_count"] f_l_draw fd_l_draw) (G_l_draw : FnOk P w K mg base CX0 1 f_l_draw fd_l_draw ["_law_stream", "_law_count"] (sp_l_draw K)) {f_l_lists_of : Addr} {fd_l_lists_of : FuncData} (D_l_lists_of : DefK K mg "_law_lists_of" st_l_lists_of ["_law_thing"] f_l_lists_of fd_l_lists_of) (G_l_lists_of : FnOk P w K mg base CX0 3 f_l_lists_of fd_l_lists_of ["_law_thing"] (sp_l_lists_ofN K 3)) :
    FnOk P w K mg base CX0 4 f fd ["_law_stream", "_law_thing"] (sp_l_listedM K) := by
  refine F.fn.ok sc_l_listed (fun vs H Q E h => by first | exact listedM_len h | (obtain ⟨rfl, _⟩ := h; rfl) | (obtain ⟨_, rfl, _⟩ := h; rfl) | (obtain ⟨_, _, rfl, _⟩ := h; rfl) | (obtain ⟨_, _, _, rfl, _⟩ := h; rfl) | (obtain ⟨_, _, _, _, rfl, _⟩ := h; rfl) | (obtain ⟨_, _, _, _, _, rfl, _⟩ := h; rfl) | (obtain ⟨_, _, _, _, _, _, rfl, _⟩ := h; rfl) | (obtain ⟨_, _, _, _, _, _, _, rfl, _⟩ := h; rfl) | (obtain ⟨_, _, _, _, _, _, _, _, rfl, _⟩ := h; rfl) | (obtain ⟨_, _, _, _, _, _, _, _, _, rfl, _⟩ := h; rfl) | (obtain ⟨_, _, _, _, _, _, _, _, _, _, rfl, _⟩ := h; rfl) | (obtain ⟨_, _, _, _, _, _, _, _, _, _, _, rfl, _⟩ := h; rfl) | (obtain ⟨_, _, _, _, _, _, _, _, _, _, _, _, rfl, _⟩ := h; rfl) | (obtain ⟨_, _, _, _, _, _, _, _, _, _, _, _, _, rfl, _⟩ := h; rfl) | (obtain ⟨_, _, _, _, _, _, _, _, _, _, _, _, _, _, rfl, _⟩ := h; rfl) | (obtain ⟨_, _, _, _, _, _, _, _, _, _, _, _, _, _, _, rfl, _⟩ := h; rfl) | (obtain ⟨_, _, _, _, _, _, _, _, _, _, _, _, _, _, _, _, rfl, _⟩ := h; rfl) | (obtain ⟨_, _, _, _, _, _, _, _, _, _, _, _, _, _, _, _, _, rfl, _⟩ := h; rfl) | (obtain ⟨_, _, _, _, _, _, _, _, _, _, _, _, _, _, _, _, _, _, rfl, _⟩ := h; rfl) | (obtain ⟨_, _, _, _, _, _, _, _, _, _, _, _, _, _, _, _, _, _, _, rfl, _⟩ := h; rfl) | (obtain ⟨_, _, _, _, _, _, _, _, _, _, _, _, _, _, _, _, _, _, _, _, rfl, _⟩ := h; rfl) | (obtain ⟨_, _, _, _, _, _, _, _, _, _, _, _, _, _, _, _, _, _, _, _, _, rfl, _⟩ := h; rfl) | (obtain ⟨_, _, _, _, _, _, _, _, _, _, _, _, _, _, _, _, _, _, _, _, _, _, rfl, _⟩ := h; rfl) | (obtain ⟨_, _, _, _, _, _, _, _, _, _, _, _, _, _, _, _, _, _, _, _, _, _, _, rfl, _⟩ := h; rfl)) (fun cdv A outer s H vs Q E hr h => ?_)
  rcases h with h | h
  · obtain ⟨s0, q, B, G, k, a, xs, rows, rfl, O, hB, ha, hrows, hl, hl2, kq⟩ := h
    refine ⟨_, (pss_one (ps_ret (pe_ix (kIx (K := K)) (pe_lst (pa_cons (pv 1) (pa_cons (pe_call G_l_lists_of (hr.mono (by decide)) rfl D_l_lists_of.mg D_l_lists_of.fn.kp D_l_lists_of.bd .nil pass0 (pa_cons (pv 1) pa_nil)) pa_nil))) (pe_call G_l_draw (hr.mono (by decide)) rfl D_l_draw.mg D_l_draw.fn.kp D_l_draw.bd .nil pass0 (pa_cons (pv 0) (pa_cons pe_int pa_nil))) (fun _ _ => rfl)))), ?_⟩
    refine ⟨_, rfl, _, rfl, .inr (.inr ⟨by decide, k, a, xs, rows, rfl, O.sub.seq ha, hrows.ex O.sub, hl, hl2, fun H1 p ys e1 np hp hys => ?_⟩)⟩
    refine ⟨by show 2 ≤ sizeLine; decide, fun l hl0 => ?_⟩
    have O1 := (O.ex e1).drop (o := .lst [.ref a, .ref p]) hl0
    have e2 := e1.trans (Ex.new (o := .lst [.ref a, .ref p]) hl0)
    have nsq : ∀ {b : Addr}, H b = none → b ≠ s0 ∧ b ≠ q := fun hb => O.ns hb
    have nl := (O.ex e1).ns hl0
    refine ⟨_, rfl, s0, q, _, _, 2, rfl, O1.all.1, by omega, by decide, by decide, fun r H3 r0 r1 O2 => ?_⟩
    have O3 := O1.g O2
    have hb : ∀ {b : Addr} {o : HO}, b ≠ s0 → b ≠ q → upd H1 l (.lst [.ref a, .ref p]) b = some o → H3 b = some o := fun n1 n2 h => O2.l n1 n2 h
    have hl3 := hb nl.1 nl.2 upd_same
    have np3 := nsq np
    have hp3 : beside s0 q H3 p = some (.lst ys) := (beside_of np3.1 np3.2).trans (hb np3.1 np3.2 ((Ex.new hl0) _ _ hp))
    obtain ⟨O4, e4⟩ := O3.all
    obtain ⟨v, hv, hm⟩ := menu (n := 2) r0 r1 (vs := [.ref a, .ref p]) rfl
    refine ixl hl3 hv ?_
    simp only [List.mem_cons, List.not_mem_nil, or_false] at hm
    rcases hm with rfl | rfl
    · exact kq _ _ a e4 O4 (.inl rfl)
    · refine kq _ _ p e4 O4 (.inr ⟨ys, O.sub.free np, hp3, hys.1, fun i y r h1 h2 => ?_⟩)
      obtain ⟨b, q1, q2, q3⟩ := hys.2 i y r h1 h2
      have nb := nsq q2
      exact ⟨b, q1, O.sub.free q2, (beside_of nb.1 nb.2).trans (hb nb.1 nb.2 ((Ex.new hl0) _ _ q3))⟩
  · obtain ⟨s0, q, B, G, k, a, ns, rfl, O, hB, ha, hl, kq⟩ := h
    refine ⟨_, (pss_one (ps_ret (pe_ix (kIx (K := K)) (pe_lst (pa_cons (pv 1) (pa_cons (pe_call G_l_lists_of (hr.mono (by decide)) rfl D_l_lists_of.mg D_l_lists_of.fn.kp D_l_lists_of.bd .nil pass0 (pa_cons (pv 1) pa_nil)) pa_nil))) (pe_call G_l_draw (hr.mono (by decide)) rfl D_l_draw.mg D_l_draw.fn.kp D_l_draw.bd .nil pass0 (pa_cons (pv 0) (pa_cons pe_int pa_nil))) (fun _ _ => rfl)))), ?_⟩
    refine ⟨_, rfl, _, rfl, .inr (.inl ⟨by decide, k, a, ns, rfl, O.sub.seq ha, hl, fun H1 p e1 np hp => ?_⟩)⟩
    refine ⟨by show 2 ≤ sizeLine; decide, fun l hl0 => ?_⟩
    have O1 := (O.ex e1).drop (o := .lst [.ref a, .ref p]) hl0
    have e2 := e1.trans (Ex.new (o := .lst [.ref a, .ref p]) hl0)
    have nsq : ∀ {b : Addr}, H b = none → b ≠ s0 ∧ b ≠ q := fun hb => O.ns hb
    have nl := (O.ex e1).ns hl0
    refine ⟨_, rfl, s0, q, _, _, 2, rfl, O1.all.1, by omega, by decide, by decide, fun r H3 r0 r1 O2 => ?_⟩
    have O3 := O1.g O2
    have hb : ∀ {b : Addr} {o : HO}, b ≠ s0 → b ≠ q → upd H1 l (.lst [.ref a, .ref p]) b = some o → H3 b = some o := fun n1 n2 h => O2.l n1 n2 h
    have hl3 := hb nl.1 nl.2 upd_same
    have np3 := nsq np
    have hp3 : beside s0 q H3 p = some (.lst (iV ns)) := (beside_of np3.1 np3.2).trans (hb np3.1 np3.2 ((Ex.new hl0) _ _ hp))
    obtain ⟨O4, e4⟩ := O3.all
    obtain ⟨v, hv, hm⟩ := menu (n := 2) r0 r1 (vs := [.ref a, .ref p]) rfl
    refine ixl hl3 hv ?_
    simp only [List.mem_cons, List.not_mem_nil, or_false] at hm
    rcases hm with rfl | rfl
    · exact kq _ _ a e4 O4 (.inl rfl)
    · exact kq _ _ p e4 O4 (.inr ⟨O.sub.free np, hp3⟩)
end
end K06

set_option maxHeartbeats 4000000
namespace Hg
open PySem PySem.Spec PyProof.Rows L2
/-! ### zip of three of them -/
def ItzK3 (K : PySem.W.Frag) (k l m : Bool) (a b c : Addr) : It :=
  ⟨fun i H => ∃ (xs ys zs : List V) (x y z : V), SqK K k H a xs ∧ SqK K l H b ys ∧ SqK K m H c zs ∧ xs[i]? = some x ∧ ys[i]? = some y ∧ zs[i]? = some z,
    fun i H v H' => ∃ T x y z, v = .ref T ∧ H T = none ∧ H' = upd H T (.tup [x, y, z]) ∧ (∀ xs, SqK K k H a xs → xs[i]? = some x) ∧ (∀ ys, SqK K l H b ys → ys[i]? = some y) ∧ ∀ zs, SqK K m H c zs → zs[i]? = some z,
    fun i H => ∃ xs ys zs : List V, SqK K k H a xs ∧ SqK K l H b ys ∧ SqK K m H c zs ∧ i ≤ xs.length ∧ i ≤ ys.length ∧ i ≤ zs.length ∧ (i = xs.length ∨ i = ys.length ∨ i = zs.length)⟩
def YTri (f g h : Nat → Option V) : Nat → Hp → V → Hp → Prop := fun i H v H' => ∃ T x y z, v = .ref T ∧ H T = none ∧ H' = upd H T (.tup [x, y, z]) ∧ f i = some x ∧ g i = some y ∧ h i = some z
theorem walk_zk3 {K : PySem.W.Frag} {k l m : Bool} {a b c : Addr} {xs ys zs : List V} {n : Nat} (h1 : xs.length = n) (h2 : ys.length = n) (h3 : zs.length = n) : Walk (ItzK3 K k l m a b c) n (fun H => SqK K k H a xs ∧ SqK K l H b ys ∧ SqK K m H c zs) (YTri (fun i => xs[i]?) (fun i => ys[i]?) (fun i => zs[i]?)) := by
  refine ⟨fun i _ hi q => ?_, fun _ q => ⟨xs, ys, zs, q.1, q.2.1, q.2.2, by omega, by omega, by omega, by omega⟩, fun i H v H' _ q y => ?_⟩
  · exact ⟨xs, ys, zs, xs[i]'(by omega), ys[i]'(by omega), zs[i]'(by omega), q.1, q.2.1, q.2.2, by simp, by simp, by simp⟩
  · obtain ⟨T, x, y, z, h1, h2, h3, h4, h5, h6⟩ := y
    exact ⟨T, x, y, z, h1, h2, h3, h4 xs q.1, h5 ys q.2.1, h6 zs q.2.2⟩
abbrev ZipTn3 (k l m : Bool) (z TI TO i1 i2 i3 a b c : Addr) (n : Nat) (h : Heap) : Prop :=
  IsZip h z TI TO .none ∧ IsTupOf3 h TI (.ref i1) (.ref i2) (.ref i3) ∧ (∃ x y u, IsTupOf3 h TO x y u) ∧ IterK k h i1 a n ∧ IterK l h i2 b n ∧ IterK m h i3 c n
theorem turn_zk3 {P : Program} {w : World} {K : PySem.W.Frag} {elts : List Expr} {kk : Nat} {tpos : Pos} {k l m : Bool} {a b c z TI TO i1 i2 i3 : Addr} (D : ZipSep3 z TI TO i1 i2 i3 [i1, a] [i2, b] [i3, c]) (na : a ≠ i1) (nb : b ≠ i2) (nc : c ≠ i3) :
    Turn P w K (.Tuple elts kk tpos) (ItzK3 K k l m a b c) [z, TI, TO, i1, i2, i3] z (ZipTn3 k l m z TI TO i1 i2 i3 a b c) := by
  have six : ∀ {e : Addr}, e ∈ [z, TI, TO, i1, i2, i3] → e = z ∨ e = TI ∨ e = TO ∨ e = i1 ∨ e = i2 ∨ e = i3 := fun {e} he => by simpa using he
  refine ⟨by simp, fun n h st e he => ?_, fun n h h' st q => ?_, ?_, ?_, fun A n s Q E st h => wpAny_pyIter_zip st.1 h⟩
  · obtain ⟨hz, hTI, ⟨x, y, u, hTO⟩, h1, h2, h3⟩ := st
    rcases six he with e | e | e | e | e | e <;> subst e
    · exact ⟨_, hz, fun v q => nomatch q⟩
    · exact ⟨_, hTI, fun v q => nomatch q⟩
    · exact ⟨_, hTO, fun v q => nomatch q⟩
    · exact h1.ob
    · exact h2.ob
    · exact h3.ob
  · obtain ⟨hz, hTI, ⟨x, y, u, hTO⟩, h1, h2, h3⟩ := st
    exact ⟨q z (by simp) _ hz, q TI (by simp) _ hTI, ⟨x, y, u, q TO (by simp) _ hTO⟩, h1.at fun o e => q i1 (by simp) o e, h2.at fun o e => q i2 (by simp) o e, h3.at fun o e => q i3 (by simp) o e⟩
  · intro X hP hw hK hc n pins s σ H E I hf st hg
    subst hP hw hK
    obtain ⟨hz, hTI, ⟨x0, y0, u0, hTO⟩, h1, h2, h3⟩ := st
    obtain ⟨xs, ys, zs, x, y, v, hqx, hqy, hqz, hx, hy, hv⟩ := hg
    obtain ⟨its, rv, p1, _⟩ := at_k I hqx
    obtain ⟨its2, rv2, p2, _⟩ := at_k I hqy
    obtain ⟨its3, rv3, p3, _⟩ := at_k I hqz
    obtain ⟨u, hu, ru⟩ := rv.get hx
    obtain ⟨u2, hu2, ru2⟩ := rv2.get hy
    obtain ⟨u3, hu3, ru3⟩ := rv3.get hv
    have hh : X.A.in1.handled = none := by simpa using I.ok.hd hc
    have b1 : n < its.toArray.size := by simpa using (List.getElem?_eq_some_iff.mp hu).1
    have b2 : n < its2.toArray.size := by simpa using (List.getElem?_eq_some_iff.mp hu2).1
    have b3 : n < its3.toArray.size := by simpa using (List.getElem?_eq_some_iff.mp hu3).1
    refine wpAny_pyNext_zipD3_item D (draw_k k hh i1 a na its.toArray) (draw_k l hh i2 b nb its2.toArray) (draw_k m hh i3 c nc its3.toArray) hz hTI hTO ⟨h1, p1⟩ ⟨h2, p2⟩ ⟨h3, p3⟩ b1 b2 b3 fun x1 x2 x3 h' tk hx1 hx2 hx3 z' TO' st1 st2 st3 hT hsz hk => ?_
    have ex1 : x1 = u := by
      rw [show its.toArray[n]? = some u by simpa using hu] at hx1
      exact (Option.some.inj hx1).symm
    have ex2 : x2 = u2 := by
      rw [show its2.toArray[n]? = some u2 by simpa using hu2] at hx2
      exact (Option.some.inj hx2).symm
    have ex3 : x3 = u3 := by
      rw [show its3.toArray[n]? = some u3 by simpa using hu3] at hx3
      exact (Option.some.inj hx3).symm
    subst ex1 ex2 ex3
    have lz : z < s.heap.objs.size := Heap.lt_size hz
    refine ⟨_, rfl, wpAny_letOwnedTupleGo_zip (s := { s with heap := h', toks := tk }) z' fun h'' z'' sb => ?_⟩
    have hT2 : h''.get? s.heap.objs.size = some { cls := .type "tuple", data := .seq #[x1, x2, x3] } := (sb.2 _ (Nat.ne_of_gt lz)).trans hT
    have new : ObjOk X.prog X.w (upd H s.heap.objs.size (.tup [x, y, v])) h'' s.heap.objs.size (.tup [x, y, v]) :=
      ⟨by show 3 ≤ sizeLine; decide, [x1, x2, x3], .cons ru (.cons ru2 (.cons ru3 .nil)), ⟨_, hT2, rfl, _, rfl⟩⟩
    have I1 : Inv X pins σ (upd H s.heap.objs.size (.tup [x, y, v])) { s with heap := h'', toks := tk } := by
      refine I.turnedNew (t' := tk) (ch := [z, TI, TO, i1, i2, i3]) (fun c o hb q => (sb.2 c fun e => hb (by simp [e])).trans ?_) hf (Nat.le_refl _) new
      exact hk c o (fun e => hb (by simp [e])) (fun e => hb (by simp [e])) (fun e => hb (by simp [e])) (fun e => hb (by simp [e])) (fun e => hb (by simp [e])) q
    refine ⟨.ref s.heap.objs.size, _, I1, rfl, ⟨_, x, y, v, rfl, I.fresh, rfl, fun l hl => by rw [SqK.inj I hl hqx]; exact hx, fun l hl => by rw [SqK.inj I hl hqy]; exact hy, fun l hl => by rw [SqK.inj I hl hqz]; exact hv⟩, ⟨z'', ?_, ⟨x1, x2, x3, (sb.2 _ D.TOz).trans TO'⟩, ?_, ?_, ?_⟩, fun c hcm => ?_⟩
    · exact (sb.2 _ D.TIz).trans (hk _ _ D.TIz D.TITO D.TIi1 D.TIi2 D.TIi3 hTI)
    · exact st1.1.at fun o q => (sb.2 _ (Ne.symm D.zi1)).trans q
    · exact st2.1.at fun o q => (sb.2 _ (Ne.symm D.zi2)).trans q
    · exact st3.1.at fun o q => (sb.2 _ (Ne.symm D.zi3)).trans q
    · have hlt : c < s.heap.objs.size := by
        rcases six hcm with e | e | e | e | e | e <;> subst e
        · exact lz
        · exact Heap.lt_size hTI
        · exact Heap.lt_size hTO
        · obtain ⟨o, e, _⟩ := h1.ob
          exact Heap.lt_size e
        · obtain ⟨o, e, _⟩ := h2.ob
          exact Heap.lt_size e
        · obtain ⟨o, e, _⟩ := h3.ob
          exact Heap.lt_size e
      exact (upd_ne (Nat.ne_of_lt hlt)).trans (hf c hcm).1
  · intro X hP hw hK hc n pins s σ H E I hf st hg
    subst hP hw hK
    obtain ⟨hz, hTI, ⟨x0, y0, u0, hTO⟩, h1, h2, h3⟩ := st
    obtain ⟨xs, ys, zs, hqx, hqy, hqz, l1, l2, l3, le⟩ := hg
    obtain ⟨its, rv, p1, _⟩ := at_k I hqx
    obtain ⟨its2, rv2, p2, _⟩ := at_k I hqy
    obtain ⟨its3, rv3, p3, _⟩ := at_k I hqz
    have e1 : its.toArray.size = xs.length := by rw [List.size_toArray, rv.length]
    have e2 : its2.toArray.size = ys.length := by rw [List.size_toArray, rv2.length]
    have e3 : its3.toArray.size = zs.length := by rw [List.size_toArray, rv3.length]
    have hh : X.A.in1.handled = none := by simpa using I.ok.hd hc
    refine wpAny_pyNext_zipD3_end D (draw_k k hh i1 a na its.toArray) (draw_k l hh i2 b nb its2.toArray) (draw_k m hh i3 c nc its3.toArray) hz hTI hTO ⟨h1, p1⟩ ⟨h2, p2⟩ ⟨h3, p3⟩ (by omega) (by omega) (by omega) (by omega) fun h' tk hk => ⟨rfl, ?_⟩
    refine I.turnedL (t' := tk) (ch := [z, TI, TO, i1, i2, i3]) (fun c o hb q => ?_) hf
    exact hk c o (fun e => hb (by simp [e])) (fun e => hb (by simp [e])) (fun e => hb (by simp [e])) (fun e => hb (by simp [e])) (fun e => hb (by simp [e])) q
def iZipK3 (K : PySem.W.Frag) (ta : TA) : TI := fun σ H R => ta σ H fun vs H1 => ∃ (k l m : Bool) (a b c : Addr) (xs ys zs : List V), vs = [.ref a, .ref b, .ref c] ∧ SqK K k H1 a xs ∧ SqK K l H1 b ys ∧ SqK K m H1 c zs ∧ R (ItzK3 K k l m a b c) H1
theorem pi_zipK3 {X : Cx} {e e2 e3 : Expr} {ta : TA} {p pos tpos : Pos} {elts : List Expr} {kk : Nat} (hg : Gl X "zip") (hm : X.mg "zip" = none) (ha : PA X [e, e2, e3] ta)
    (hs : starEach [e, e2, e3] X.env = (false, eval e X.env) :: starEach [e2, e3] X.env := by rfl) (hpl : (backTo pos (starEach [e2, e3] X.env)).any (·.1) = false := by rfl) :
    PI X (.Tuple elts kk tpos) (.Call (.Name "zip" p) [e, e2, e3] [] pos) (iZipK3 X.K ta) := by
  refine ⟨fun pins s σ H R I h => ?_⟩
  refine Call_ (ld_blt I hg hm PyProof.Rows.boot_zip (PyProof.Rows.callWith_type1 (thn (ha.run pos pins s σ H _ I h) ?_) hs hpl))
  rintro us s1 ⟨vs, H1, I1, r1, k, l, m, a, b, c, xs, ys, zs, rfl, hqx, hqy, hqz, q⟩
  obtain ⟨u1, u2, u3, rfl, r1, r2, r3⟩ : ∃ u1 u2 u3, us = [u1, u2, u3] ∧ RelV (.ref a) u1 ∧ RelV (.ref b) u2 ∧ RelV (.ref c) u3 := by
    cases r1 with
    | cons h1 t => cases t with
      | cons h2 t => cases t with
        | cons h3 t => cases t; exact ⟨_, _, _, rfl, h1, h2, h3⟩
  cases (show u1 = Value.ref a from r1)
  cases (show u2 = Value.ref b from r2)
  cases (show u3 = Value.ref c from r3)
  obtain ⟨its, rv, p1, la⟩ := at_k I1 hqx
  obtain ⟨its2, rv2, p2, lb⟩ := at_k I1 hqy
  obtain ⟨its3, rv3, p3, lc⟩ := at_k I1 hqz
  refine zip_begins3 (begin_k k a its.toArray) (begin_k l b its2.toArray) (begin_k m c its3.toArray) p1 p2 p3 fun h' hz hTI hTO e1 e2 e3 hsz hk => wpAny_pyIter_zip hz ?_
  have i1 : IterK k h' s1.heap.objs.size a 0 := by
    cases k with
    | true => exact ⟨_, e1, rfl, rfl⟩
    | false => exact ⟨_, e1, rfl, rfl⟩
  have i2 : IterK l h' (s1.heap.objs.size + 1) b 0 := by
    cases l with
    | true => exact ⟨_, e2, rfl, rfl⟩
    | false => exact ⟨_, e2, rfl, rfl⟩
  have i3 : IterK m h' (s1.heap.objs.size + 2) c 0 := by
    cases m with
    | true => exact ⟨_, e3, rfl, rfl⟩
    | false => exact ⟨_, e3, rfl, rfl⟩
  have ne1 : a ≠ s1.heap.objs.size := Nat.ne_of_lt la
  have ne2 : b ≠ s1.heap.objs.size + 1 := Nat.ne_of_lt (Nat.lt_succ_of_lt lb)
  have ne3 : c ≠ s1.heap.objs.size + 2 := Nat.ne_of_lt (Nat.lt_succ_of_lt (Nat.lt_succ_of_lt lc))
  refine ⟨_, [s1.heap.objs.size + 5, s1.heap.objs.size + 3, s1.heap.objs.size + 4, s1.heap.objs.size, s1.heap.objs.size + 1, s1.heap.objs.size + 2], _, _, H1, rfl, I1.kept (t' := s1.toks) hk,
    turn_zk3 (zip_sep3 (N := s1.heap.objs.size) (fp1 := [a]) (fp2 := [b]) (fp3 := [c]) (fun d hd => by rw [List.mem_singleton.mp hd]; exact la) (fun d hd => by rw [List.mem_singleton.mp hd]; exact lb) (fun d hd => by rw [List.mem_singleton.mp hd]; exact lc)) ne1 ne2 ne3, ⟨hz, hTI, ⟨_, _, _, hTO⟩, i1, i2, i3⟩, fun d hdm => ?_, q⟩
  have hle : s1.heap.objs.size ≤ d := by
    simp only [List.mem_cons, List.not_mem_nil, or_false] at hdm
    rcases hdm with e | e | e | e | e | e <;> rw [e]
    · exact Nat.le_add_right _ _
    · exact Nat.le_add_right _ _
    · exact Nat.le_add_right _ _
    · exact Nat.le_refl _
    · exact Nat.le_add_right _ _
    · exact Nat.le_add_right _ _
  exact I1.fpOk hle (I1.hok.fresh hle)
theorem kZip3 {X : Cx} {K : PySem.W.Frag} {e e2 e3 : Expr} {ta : TA} {p pos tpos : Pos} {elts : List Expr} {kk : Nat} (hg : Gl X "zip") (hm : X.mg "zip" = none) (ha : PA X [e, e2, e3] ta) (hK : X.K = K := by rfl)
    (hs : starEach [e, e2, e3] X.env = (false, eval e X.env) :: starEach [e2, e3] X.env := by rfl) (hpl : (backTo pos (starEach [e2, e3] X.env)).any (·.1) = false := by rfl) :
    PI X (.Tuple elts kk tpos) (.Call (.Name "zip" p) [e, e2, e3] [] pos) (iZipK3 K ta) := hK ▸ pi_zipK3 hg hm ha hs hpl
open AutoSeq1 (wpAny_loadPart')
theorem tuple_mulW0 (l : Addr) (items : Array Value) (n : Nat) (dd : Option Addr) (sl : Array (Option Value)) (u : Tok) (he : items.isEmpty = false) :
    Meets (Builtin.«tuple.__mul__» ⟨[.ref l, .int 0 u], []⟩) (fun _ R s => s.heap.get? l = some { cls := .type "tuple", dict := dd, data := .seq items n, slots := sl } ∧
      R (.ok (.ret (Value.ref s.heap.objs.size))) { s with heap := s.heap.push { cls := Value.type "tuple", data := Data.seq #[] } }) :=
  .of_wp fun prog w A R s h => by
    obtain ⟨hp, g, d, tk, os⟩ := s
    obtain ⟨hl, h⟩ := h
    have f1 := AutoSeq1.idx_int
    wp_walk using wpAny_loadPart' hl
    have c0 : (decide ((0 : Int) < -(2 ^ 63)) || decide ((0 : Int) ≥ 2 ^ 63)) = false := by decide
    have c1 : (items.isEmpty || (0 : Int) == 1) = false := by rw [he]; rfl
    have c2 : (decide ((0 : Int) ≤ 0) || items.isEmpty) = true := by rw [he]; rfl
    repeat (first
      | (refine wpAny_ite_false (decide_eq_false (by rw [c0]; exact Bool.false_ne_true)) ?_; wp_walk using wpAny_loadPart' hl)
      | (refine wpAny_ite_false (decide_eq_false (by rw [c1]; exact Bool.false_ne_true)) ?_; wp_walk using wpAny_loadPart' hl)
      | (refine wpAny_ite_true (decide_eq_true c2) ?_; wp_walk using wpAny_loadPart' hl))
    exact ⟨_, rfl, h⟩

/-- (x, ..) * k, k from 0 on -/
def rRepZ (K : PySem.W.Frag) : R2 := fun x y H Q => (y = .int 0 ∧ ∃ l xs, x = .ref l ∧ SqT K H l xs ∧ xs ≠ [] ∧ ∀ p, H p = none → Q (.ref p) (upd H p (.tup []))) ∨ rRepU K x y H Q
theorem op_repZ {X : Cx} : OpR X (binaryOp .Mult) (rRepZ X.K) := by
  intro pins s σ H x y v u Q I rx ry h
  rcases h with ⟨rfl, l, xs, rfl, hT, hne, q⟩ | h
  · cases rx
    obtain ⟨t, rfl⟩ := ry
    obtain ⟨its, r, ⟨⟨cls, dd, data, sl⟩, ho, hc, n, hd⟩, hs⟩ := I.tuple hT
    simp only at hc hd
    subst hc hd
    have hi : its.toArray.isEmpty = false := by
      cases its with
      | nil =>
        have := r.length
        exact absurd (List.eq_nil_of_length_eq_zero this) hne
      | cons a b => rfl
    refine wpAny_binaryOp_repeat_ref (T := "tuple") (U := "int") (by decide) ⟨_, ho, rfl⟩ (fun s' => typeIs_int s' 0 t) noFill_tuple_mul F.fills_int_mul F.slot_int_rmul repeat_tuple F.slot_int_index.lookup
      (call_meets F.slot_int_rmul (typeIs_int s 0 t) F.entry_int_rmul (F.args_int_rmul_2 _ _) (int_rmul_tuple 0 t l its.toArray n dd sl)
        ⟨ho, rfl, ⟨_, ho, rfl⟩, call_meets F.slot_tuple_mul ⟨_, ho, rfl⟩ F.entry_tuple_mul (F.args_tuple_mul_2 _ _) (tuple_mulW0 l its.toArray n dd sl t hi) ⟨ho, ?_⟩⟩)
    have hn : H s.heap.objs.size = none := I.hok.fresh (Nat.le_refl _)
    refine ⟨.ref s.heap.objs.size, _, ?_, rfl, q _ hn⟩
    exact I.laid (t' := s.toks) (fun b o e => Heap.get?_push_of_some _ e) (Nat.le_refl _) ⟨by simp, [], .nil, ⟨_, Heap.get?_push_size s.heap rfl, rfl, 0, rfl⟩⟩
  · exact op_repU pins s σ H x y v u Q I rx ry h
theorem kRepZ {X : Cx} {K : PySem.W.Frag} (hK : X.K = K := by rfl) : OpR X (binaryOp .Mult) (rRepZ K) := hK ▸ op_repZ
end Hg

set_option maxHeartbeats 4000000
namespace Hg
open PySem PySem.Spec PyProof.Rows L2
/-! ### the top of a law whose numbers divide by any size -/
def TopOkS (P : Program) (w : World) (K : PySem.W.Frag) (mg : Str → Option Value) (k : Nat) (N : List Str) (x : Str) (st : Stmt) (fa : Addr) (ok : Addr → List Int → Hp → Prop) : Prop :=
  ∀ (cd : Value) (base : Heap) (s : Shared) (H : Hp) (a : Addr) (ns : List Int), K.In base → base.Ns mainGlobals mg → base.NoSeer → Room k (callerA.deeper (topEnv st x s fa cd)) → ok a ns H →
    ∃ t, PSs (topCx P w K mg base N x st fa cd s H).nox (defBody st) t ∧ t { nx := fun _ _ => False, rt := fun v _ => v = .bl true } (start N [.ref a]) H
/-- one run of it -/
theorem TopOkS.run {P : Program} {w : World} {K : PySem.W.Frag} {mg : Str → Option Value} {k : Nat} {N : List Str} {x p : Str} {st : Stmt} {fa : Addr} {ok : Addr → List Int → Hp → Prop} (T : TopOkS P w K mg k N x st fa ok)
    {fd : FuncData} (F : Fun K x x st fa fd) (S : FnScope N [p] (defScope st)) (R : Room (k + 1) callerA) {base : Heap} {s : Shared} {H : Hp} {a : Addr} {ns : List Int} (e0 : Env0 P w K mg base callerA [] s H)
    (hb : BindsTo s fd ⟨[.ref a], []⟩ [(p, .ref a)]) (seer : base.NoSeer) (q : ok a ns H) :
    codeAny (model P w) callerA (.call (.ref fa) ⟨[.ref a], []⟩) (fun r s' => ∃ H', r = .ok (.ret (.bool true)) ∧ s'.os = s.os ∧ AllBare s'.gens ∧ Un [] [] H H' s.heap s'.heap ∧ HOk P w H' s'.heap) s := by
  obtain ⟨oc, od, kV, doc, pm, an, cd, ct, osl, efd, look, code⟩ := F.ex
  subst efd
  have stays : ∀ b o, base.get? b = some o → s.heap.get? b = some o := fun b o e => (e0.bs b o e).1
  have inS : K.In s.heap := e0.mod.kin.keeps stays
  have kinds : ∀ y ∈ [p].zip [Value.ref a], (defScope st).names.lookup y.1 = some .local ∨ ((defScope st).names.lookup y.1 = some .cell ∧ ((cellsFrom (s.heap.objs.size + 1) (defScope st).names []).lookup y.1).isSome = true) := by
    intro y hy
    have ey : y = (p, Value.ref a) := by simpa using hy
    subst ey
    exact (S.par p (by simp)).imp id fun c => ⟨c, PySem.W.cellsFrom_some _ _ _ (.inl c)⟩
  refine codeAny_call_function R.depth (inS _ _ look) rfl S.co S.gen rfl (PySem.W.codeRec_of inS code) (hb _ _ _ _ (wpAny_newFunctionEnv_cells S.kind kinds ?_))
  rintro _ rfl s2 entered
  refine ⟨(e0.mod.nolimit.keeps stays).keeps entered.toInCall.keep, codeAny_func ?_⟩
  obtain ⟨t, ht, hq⟩ := T cd base s H a ns e0.mod.kin e0.mod.glob seer (R.deeper _) q
  have start1 := inv_start (CX := CX0) (E := E0) (us := [.ref a]) (vs := [.ref a]) S R.hd e0 rfl (.cons rfl .nil) entered
  refine wpAny_mono (ht.nox.run [] s2 _ H _ start1 hq) (fun fl s' z => ?_) fun e s' z => ?_
  · rcases fl with _ | _ | _ | u
    · obtain ⟨_, _, _, z⟩ := z
      exact z.elim
    · obtain ⟨_, _, _, z⟩ := z
      exact z.elim
    · obtain ⟨_, _, _, z⟩ := z
      exact z.elim
    · obtain ⟨v, σ', H', J, rv, ev⟩ := z
      subst ev
      cases (show u = Value.bool true from rv)
      exact ⟨H', rfl, J.os, J.bare, J.base, J.hok⟩
  · exact wpAny_mono z (fun _ _ n => (n : False).elim) fun _ _ n => (n : False).elim
/-- at the heap behind the top -/
theorem TopOkS.call {P : Program} {w : World} {K : PySem.W.Frag} {mg mb : Str → Option Value} {k : Nat} {N : List Str} {x p : Str} {st : Stmt} {fa a : Addr} {fd : FuncData} {s : Shared} {vs : List Value} {ns : List Int} {ok : Addr → List Int → Hp → Prop}
    (T : TopOkS P w K mg k N x st fa ok) (F : Fun K x x st fa fd) (S : FnScope N [p] (defScope st)) (R : Room (k + 1) callerA)
    (inS : K.In s.heap) (gl : s.heap.Ns mainGlobals mg) (bl : s.heap.Ns builtinsNs mb) (boot : ∀ y : Str, y ≠ "__name__" → mb y = bootBuiltins y) (nl : s.heap.NoLimit) (seer : s.heap.NoSeer) (gens : s.gens = #[])
    (ha : s.heap.get? a = some { cls := .type "list", data := .seq vs.toArray }) (iv : IntsAre vs ns) (len : ns.length ≤ sizeLine) (bind : ∀ (s : Shared) (u : Value), BindsTo s fd ⟨[u], []⟩ [(p, u)])
    (good : ∀ H : Hp, SqL K H a (ns.map V.int) → ok a ns H) :
    codeAny (model P w) callerA (.call (.ref fa) ⟨[.ref a], []⟩) (fun r s' => r = .ok (.ret (.bool true)) ∧ OldK s.heap s'.heap ∧ s'.os = s.os ∧ AllBare s'.gens) s := by
  have rel := vals_ints iv
  have go : ∀ H : Hp, (∀ b u, H b = some u → b = a ∧ u = .frz { cls := .type "list", data := .seq vs.toArray } (.lst (ns.map V.int)) ∧ K.lookup a = none) → SqL K H a (ns.map V.int) →
      codeAny (model P w) callerA (.call (.ref fa) ⟨[.ref a], []⟩) (fun r s' => r = .ok (.ret (.bool true)) ∧ OldK s.heap s'.heap ∧ s'.os = s.os ∧ AllBare s'.gens) s := by
    intro H only seq
    have hok : HOk P w H s.heap := by
      intro b u z
      obtain ⟨rfl, rfl, _⟩ := only b u z
      exact ⟨ha, by rw [List.length_map]; exact len, vs, _, rel, ha⟩
    have noDict : ∀ {b : Addr} {o : Obj} {es : Array DictEntry} {n : Nat}, s.heap.get? b = some o → o.data = .dict es n → H b = none := by
      intro b o es n e d
      cases z : H b with
      | none => rfl
      | some u =>
        obtain ⟨rfl, _, _⟩ := only b u z
        rw [ha] at e
        cases e
        cases d
    have names : ∀ {b : Addr} {m : Str → Option Value}, s.heap.Ns b m → (hidT s.heap H).Ns b m := by
      rintro b m ⟨o, es, n, e, d, rest⟩
      exact ⟨o, es, n, hidT_get e (noDict e d), d, rest⟩
    have inB : K.In (hidT s.heap H) := by
      intro b o e
      refine hidT_get (inS b o e) ?_
      cases z : H b with
      | none => rfl
      | some u =>
        obtain ⟨rfl, _, z'⟩ := only b u z
        rw [z'] at e
        cases e
    obtain ⟨ml, l1, l2⟩ := nl
    have seerB : (hidT s.heap H).NoSeer := by
      refine ⟨(let ⟨mc, a, b⟩ := seer.statics; ⟨mc, names a, b⟩), (let ⟨mc, a, b⟩ := seer.mods; ⟨mc, names a, b⟩), (let ⟨mc, a, b⟩ := seer.imp; ⟨mc, names a, b⟩), ?_⟩
      obtain ⟨mg', bm, ob, x1, x2, x3, x4, x5⟩ := seer.main
      refine ⟨mg', bm, ob, names x1, x2, hidT_get x3 ?_, x4, x5⟩
      cases z : H bm with
      | none => rfl
      | some u =>
        obtain ⟨rfl, _, _⟩ := only bm u z
        rw [ha] at x3
        cases x3
        simp at x4
    have e0 : Env0 P w K mg (hidT s.heap H) callerA [] s H :=
      { frames := rfl, mod := ⟨inB, names gl, ⟨mb, names bl, boot⟩, ml, names l1, l2⟩, bs := fun b o e => of_hidT e, bsz := by rw [hidT_size]; exact Nat.le_refl _, funs := trivial,
        frf := fun b z => absurd (show b ∈ ([] : List Addr) from z) (by simp), hok := hok, bare := .of_eq gens }
    refine codeAny_mono (T.run F S R e0 (bind s (.ref a)) seerB (good H seq)) ?_
    rintro r s' ⟨H', rfl, eos, bare, un, hok'⟩
    refine ⟨rfl, OldK.of_keep ?_, eos, bare⟩
    intro b o e
    cases z : H b with
    | none => exact un.keep b o e z (by simp) (by simp)
    | some u =>
      obtain ⟨rfl, rfl, _⟩ := only b u z
      obtain ⟨g, _⟩ := hok' b _ (un.frzs b _ _ z)
      rw [ha] at e
      cases e
      exact g
  cases look : K.lookup a with
  | some o =>
    have e := inS a o look
    rw [ha] at e
    cases e
    exact go (fun _ => none) (fun b u z => by cases z) (.inr ⟨_, vs.toArray, _, look, rfl, rfl, rfl, by rw [List.size_toArray, iv.length]; exact len, by simpa using rel⟩)
  | none =>
    refine go (fun b => if b = a then some (.frz { cls := .type "list", data := .seq vs.toArray } (.lst (ns.map V.int))) else none) (fun b u z => ?_) (.inl (.inr ⟨_, if_pos rfl⟩))
    by_cases e : b = a
    · rw [if_pos e] at z
      cases z
      exact ⟨e, rfl, look⟩
    · rw [if_neg e] at z
      cases z
/-- the row's walk -/
theorem top_walkS {l : PySem.W.OpenLaw} {n k : Nat} {q : Program} {loose : List Str} {XP : (Str → Option Value) → Heap → Prop} {YP : World → Heap → Prop} {d : DefRec} {K : Params → PySem.W.Frag} {N : List Str} {p : Str} {st : Stmt} {ok : PySem.W.Frag → Addr → List Int → Hp → Prop}
    (hi : importsNone q = true) (hn : l.most = some n) (hn2 : n ≤ sizeLine) (hdf : d.params.defaults = []) (S : FnScope N [p] (defScope st)) (R : Room (k + 1) callerA) (hY : ∀ (w : World) (h : Heap), YP w h → (K w.params).In h)
    (F : ∀ (w : World) (mg : Str → Option Value) (fa : Addr) (h : Heap), (K w.params).In h → h.Ns mainGlobals mg → mg d.name = some (.ref fa) →
      ∃ fd : FuncData, (∀ (s : Shared) (u : Value), BindsTo s fd ⟨[u], []⟩ [(p, u)]) ∧ Fun (K w.params) d.name d.name st fa fd ∧ TopOkS l.prog w (K w.params) mg k N d.name st fa (ok (K w.params)))
    (good : ∀ (K : PySem.W.Frag) (H : Hp) (a : Addr) (ns : List Int), ns.length ≤ n → SqL K H a (ns.map V.int) → ok K a ns H) :
    PySem.W.WalkO q loose XP YP l.row.toRowW d [] (fun f vs => PySem.call f vs) := by
  refine Att.attach_call hn hdf ?_
  intro w s₀ s mg mb fa o pm cd doc a vs ns G Y _ _ _ name obj iv len gens
  have inS := hY w _ Y
  obtain ⟨fd, bind, fn, T⟩ := F w mg fa _ inS G.T.g name
  exact T.call fn S R inS G.T.g G.T.b G.T.builtins G.T.nolimit (G.T.seer hi) gens obj iv (Nat.le_trans len hn2) bind fun H q => good _ H a ns len q
end Hg

set_option maxHeartbeats 4000000
namespace K06
open PySem PySem.Spec PyProof.Rows L2 Hg
section
variable {P : Program} {w : World} {K : PySem.W.Frag} {mg : Str → Option Value} {base : Heap}
theorem top_law {fa : Addr} (Z : Zs mg) {f_hermite : Addr} {fd_hermite : FuncData} (D_hermite : DefK K mg "hermite" st_hermite ["rows", "size"] f_hermite fd_hermite) (G_hermite : FnOk P w K mg base CX0 37 f_hermite fd_hermite ["rows", "size"] (sp_hermite K)) {f_coordinates : Addr} {fd_coordinates : FuncData} (D_coordinates : DefK K mg "coordinates" st_coordinates ["basis", "vector"] f_coordinates fd_coordinates) (G_coordinates : FnOk P w K mg base CX0 33 f_coordinates fd_coordinates ["basis", "vector"] (sp_coordinates K)) {f_contains : Addr} {fd_contains : FuncData} (D_contains : DefK K mg "contains" st_contains ["basis", "vector"] f_contains fd_contains) (G_contains : FnOk P w K mg base CX0 34 f_contains fd_contains ["basis", "vector"] (sp_contains K)) {f_includes : Addr} {fd_includes : FuncData} (D_includes : DefK K mg "includes" st_includes ["basis", "other"] f_includes fd_includes) (G_includes : FnOk P w K mg base CX0 35 f_includes fd_includes ["basis", "other"] (sp_includes K)) {f_l_draw : Addr} {fd_l_draw : FuncData} (D_l_draw : DefK K mg "_law_draw" st_l_draw ["_law_stream", "_law_count"] f_l_draw fd_l_draw) (G_l_draw : FnOk P w K mg base CX0 1 f_l_draw fd_l_draw ["_law_stream", "_law_count"] (sp_l_draw K)) {f_l_plus : Addr} {fd_l_plus : FuncData} (D_l_plus : DefK K mg "_law_plus" st_l_plus ["_law_factor", "_law_one", "_law_other"] f_l_plus fd_l_plus) (G_l_plus : FnOk P w K mg base CX0 1 f_l_plus fd_l_plus ["_law_factor", "_law_one", "_law_other"] (sp_l_plus K)) {f_l_size : Addr} {fd_l_size : FuncData} (D_l_size : DefK K mg "_law_size" st_l_size ["_law_stream"] f_l_size fd_l_size) (G_l_size : FnOk P w K mg base CX0 2 f_l_size fd_l_size ["_law_stream"] (sp_l_size K)) {f_l_basis : Addr} {fd_l_basis : FuncData} (D_l_basis : DefK K mg "_law_basis" st_l_basis ["_law_stream", "_law_size_here"] f_l_basis fd_l_basis) (G_l_basis : FnOk P w K mg base CX0 2 f_l_basis fd_l_basis ["_law_stream", "_law_size_here"] (sp_l_basisB K)) {f_l_coordinates : Addr} {fd_l_coordinates : FuncData} (D_l_coordinates : DefK K mg "_law_coordinates" st_l_coordinates ["_law_basis_here", "_law_vector"] f_l_coordinates fd_l_coordinates) (G_l_coordinates : FnOk P w K mg base CX0 33 f_l_coordinates fd_l_coordinates ["_law_basis_here", "_law_vector"] (sp_l_coordinates K)) {f_l_listed : Addr} {fd_l_listed : FuncData} (D_l_listed : DefK K mg "_law_listed" st_l_listed ["_law_stream", "_law_thing"] f_l_listed fd_l_listed) (G_l_listed : FnOk P w K mg base CX0 4 f_l_listed fd_l_listed ["_law_stream", "_law_thing"] (sp_l_listedM K)) {cd : Value} {s : Shared} {H : Hp} {a : Addr} {ns : List Int} (hr : Room 37 (callerA.deeper (topEnv st_law "law" s fa cd))) (hS : SqL K H a (ns.map V.int)) :
    ∃ t, PSs (topCx P w K mg base ["_law_script", "_law_stream", "_law_size_here", "_law_basis_here", "_law_vectors", "_law_k", "_law_row", "_law_factors", "_law_vector", "_law_factor", "_law_at", "_law_beside", "_law_due", "_law_rows", "_law_handed", "_law_kept", "_law_found", "_law_other", "_law_inside"] "law" st_law fa cd s H).nox (defBody st_law) t ∧ t { nx := fun _ _ => False, rt := fun v _ => v = .bl true } (start ["_law_script", "_law_stream", "_law_size_here", "_law_basis_here", "_law_vectors", "_law_k", "_law_row", "_law_factors", "_law_vector", "_law_factor", "_law_at", "_law_beside", "_law_due", "_law_rows", "_law_handed", "_law_kept", "_law_found", "_law_other", "_law_inside"] [.ref a]) H := by
  refine ⟨_, (pss_cons (ps_set (i := 1) sc_law.nd rfl (.inr rfl) (pe_lst (pa_cons (pe_callTy (kLst (K := K)) (by rfl) Z.list_ PyProof.Rows.Boot.«list» (pa_cons (pv 0) pa_nil)) (pa_cons pe_int (pa_cons pe_int (pa_cons pe_int pa_nil))))))
      (pss_cons (ps_set (i := 2) sc_law.nd rfl (.inl rfl) (pe_call G_l_size (hr.mono (by decide)) rfl D_l_size.mg D_l_size.fn.kp D_l_size.bd .nil pass0 (pa_cons (pv 1) pa_nil)))
      (pss_cons (ps_set (i := 3) sc_law.nd rfl (.inr rfl) (pe_call G_l_basis (hr.mono (by decide)) rfl D_l_basis.mg D_l_basis.fn.kp D_l_basis.bd .nil pass0 (pa_cons (pv 1) (pa_cons (pv 2) pa_nil))))
      (pss_cons (ps_set (i := 4) sc_law.nd rfl (.inl rfl) (pe_lst pa_nil))
      (pss_cons (ps_for PassesOwn.never rfl (pi_range1 (by rfl) Z.range_ (pa_cons pe_int pa_nil)) (pg_name (i := 5) sc_law.nd rfl (.inl rfl)) (pss_cons (ps_set (i := 7) sc_law.nd rfl (.inl rfl) (pe_callTy (kTup (K := K)) (by rfl) Z.tuple_ PyProof.Rows.Boot.«tuple» (pa_cons (pe_lc (own := [("_law_row", 6)]) rfl sc_law.nd (kSeq (K := K) (pv 3)) (blkOk_by (N := ["_law_script", "_law_stream", "_law_size_here", "_law_basis_here", "_law_vectors", "_law_k", "_law_row", "_law_factors", "_law_vector", "_law_factor", "_law_at", "_law_beside", "_law_due", "_law_rows", "_law_handed", "_law_kept", "_law_found", "_law_other", "_law_inside"]) (sc := defScope st_law) (by decide +kernel)) (fun _ _ _ _ _ => (pg_name (i := 6) sc_law.nd rfl (.inl rfl))) (fun _ _ _ _ _ => pts_nil) (fun _ _ _ _ _ => (pe_op op_sub (pe_call G_l_draw (hr.mono (by decide)) rfl D_l_draw.mg D_l_draw.fn.kp D_l_draw.bd .nil pass0 (pa_cons (pv 1) (pa_cons (pe_ix (kIx (K := K)) (pe_lst (pa_cons pe_int (pa_cons (pe_op op_pow pe_int pe_int) pa_nil))) (pe_call G_l_draw (hr.mono (by decide)) rfl D_l_draw.mg D_l_draw.fn.kp D_l_draw.bd .nil pass0 (pa_cons (pv 1) (pa_cons pe_int pa_nil))) (fun _ _ => rfl)) pa_nil))) pe_int))) pa_nil)))
      (pss_cons (ps_set (i := 8) sc_law.nd rfl (.inl rfl) (pe_op (kRepZ (K := K)) (pe_tup (pa_cons pe_int pa_nil)) (pv 2)))
      (pss_cons (ps_for PassesOwn.never rfl (kZip (K := K) (by rfl) Z.zip_ (pa_cons (pv 7) (pa_cons (pv 3) pa_nil))) (kPgT (K := K) (n := 2) rfl (pgs_cons (pg_name (i := 9) sc_law.nd rfl (.inl rfl)) (pgs_cons (pg_name (i := 6) sc_law.nd rfl (.inl rfl)) pgs_nil))) (pss_one (ps_set (i := 8) sc_law.nd rfl (.inl rfl) (pe_call G_l_plus (hr.mono (by decide)) rfl D_l_plus.mg D_l_plus.fn.kp D_l_plus.bd .nil pass0 (pa_cons (pv 9) (pa_cons (pv 6) (pa_cons (pv 8) pa_nil)))))))
      (pss_cons (ps_if (PW.pt (pw_or (pt_cmpR (kNe (K := K) hr.units) (pe_call G_coordinates (hr.mono (by decide)) rfl D_coordinates.mg D_coordinates.fn.kp D_coordinates.bd .nil pass0 (pa_cons (pv 3) (pa_cons (pv 8) pa_nil))) (pv 7) (nomark _)) (pw_or1 (pt_cmpR op_isnot_bl (pe_call G_contains (hr.mono (by decide)) rfl D_contains.mg D_contains.fn.kp D_contains.bd .nil pass0 (pa_cons (pv 3) (pa_cons (pv 8) pa_nil))) pe_bl (nomark _))))) (pss_one (ps_ret pe_bl)) pss_nil)
      (pss_cons (ps_set (i := 10) sc_law.nd rfl (.inl rfl) (pe_call G_l_draw (hr.mono (by decide)) rfl D_l_draw.mg D_l_draw.fn.kp D_l_draw.bd .nil pass0 (pa_cons (pv 1) (pa_cons (pv 2) pa_nil))))
      (pss_cons (ps_set (i := 11) sc_law.nd rfl (.inl rfl) (pe_op (kAdd (K := K)) (pe_op (kAdd (K := K)) (pe_slice (kSl (K := K)) (pv 8) po_none (po_some (pv 10))) (pe_tup (pa_cons (pe_op (kAdd (K := K)) (pe_ix (kIx (K := K)) (pv 8) (pv 10) (fun _ _ => rfl)) (pe_ix (kIx (K := K)) (pe_lst (pa_cons pe_int (pa_cons (pe_un un_neg pe_int) (pa_cons pe_int (pa_cons pe_int pa_nil))))) (pe_call G_l_draw (hr.mono (by decide)) rfl D_l_draw.mg D_l_draw.fn.kp D_l_draw.bd .nil pass0 (pa_cons (pv 1) (pa_cons pe_int pa_nil))) (fun _ _ => rfl))) pa_nil))) (pe_slice (kSl (K := K)) (pv 8) (po_some (pe_op (kAdd (K := K)) (pv 10) pe_int)) po_none)))
      (pss_cons (ps_set (i := 12) sc_law.nd rfl (.inl rfl) (pe_call G_l_coordinates (hr.mono (by decide)) rfl D_l_coordinates.mg D_l_coordinates.fn.kp D_l_coordinates.bd .nil pass0 (pa_cons (pv 3) (pa_cons (pv 11) pa_nil))))
      (pss_cons (ps_par (i := 13) (j := 14) (by rfl) sc_law.nd rfl rfl (by decide) rfl rfl (pa_cons (pe_call G_l_listed (hr.mono (by decide)) rfl D_l_listed.mg D_l_listed.fn.kp D_l_listed.bd .nil pass0 (pa_cons (pv 1) (pa_cons (pv 3) pa_nil))) (pa_cons (pe_call G_l_listed (hr.mono (by decide)) rfl D_l_listed.mg D_l_listed.fn.kp D_l_listed.bd .nil pass0 (pa_cons (pv 1) (pa_cons (pv 11) pa_nil))) pa_nil)) (by rfl))
      (pss_cons (ps_set (i := 15) sc_law.nd rfl (.inl rfl) (pe_callTy (kStr (K := K) rfl hr.units) (by rfl) Z.str_ PyProof.Rows.Boot.«str» (pa_cons (pe_lst (pa_cons (pv 13) (pa_cons (pv 14) pa_nil))) pa_nil)))
      (pss_cons (ps_set (i := 16) sc_law.nd rfl (.inl rfl) (pe_call G_contains (hr.mono (by decide)) rfl D_contains.mg D_contains.fn.kp D_contains.bd .nil pass0 (pa_cons (pv 13) (pa_cons (pv 14) pa_nil))))
      (pss_cons (ps_if (PW.pt (pw_or (pt_cmpR (kNe (K := K) hr.units) (pe_call G_coordinates (hr.mono (by decide)) rfl D_coordinates.mg D_coordinates.fn.kp D_coordinates.bd .nil pass0 (pa_cons (pv 13) (pa_cons (pv 14) pa_nil))) (pv 12) (nomark _)) (pw_or (pt_not (pt_val (pe_callB (kIsi (K := K)) (by rfl) Z.isinstance_ PyProof.Rows.Boot.«isinstance» (pa_cons (pv 16) (pa_cons (pe_bltn (v := .ty "bool") (by rfl) Z.bool_ PyProof.Rows.Boot.«bool» rfl) pa_nil))))) (pw_or1 (pt_cmpR (kNe (K := K) hr.units) (pv 16) (pe_cmpR op_notN (pv 12) pe_non (nomark _)) (nomark _)))))) (pss_one (ps_ret pe_bl)) pss_nil)
      (pss_cons (ps_if (pt_cmpR (kNe (K := K) hr.units) (pe_callTy (kStr (K := K) rfl hr.units) (by rfl) Z.str_ PyProof.Rows.Boot.«str» (pa_cons (pe_lst (pa_cons (pv 13) (pa_cons (pv 14) pa_nil))) pa_nil)) (pv 15) (nomark _)) (pss_one (ps_ret pe_bl)) pss_nil)
      (pss_one (ps_expr (pe_bm PySem.F.plainAttrs_list PySem.F.slot_list_append PySem.F.type_list_append mt_append (pv 4) (pa_cons (pe_ix (kIx (K := K)) (pe_lst (pa_cons (pv 8) (pa_cons (pv 11) pa_nil))) (pe_callTy call_int1 (by rfl) Z.int_ PyProof.Rows.Boot.«int» (pa_cons (pe_cmpR (kEq (K := K) hr.units) (pe_call G_l_draw (hr.mono (by decide)) rfl D_l_draw.mg D_l_draw.fn.kp D_l_draw.bd .nil pass0 (pa_cons (pv 1) (pa_cons pe_int pa_nil))) pe_int (nomark _)) pa_nil)) (fun _ _ => rfl)) pa_nil)))))))))))))))))
      (pss_cons (ps_set (i := 17) sc_law.nd rfl (.inl rfl) (pe_call G_hermite (hr.mono (by decide)) rfl D_hermite.mg D_hermite.fn.kp D_hermite.bd .nil pass0 (pa_cons (pv 4) (pa_cons (pv 2) pa_nil))))
      (pss_cons (ps_set (i := 18) sc_law.nd rfl (.inl rfl) (pe_callB (kAll (K := K) rfl) (by rfl) Z.all_ PyProof.Rows.Boot.«all» (pa_cons (pe_lc (own := [("_law_vector", 8)]) rfl sc_law.nd (kSeq (K := K) (pv 4)) (blkOk_by (N := ["_law_script", "_law_stream", "_law_size_here", "_law_basis_here", "_law_vectors", "_law_k", "_law_row", "_law_factors", "_law_vector", "_law_factor", "_law_at", "_law_beside", "_law_due", "_law_rows", "_law_handed", "_law_kept", "_law_found", "_law_other", "_law_inside"]) (sc := defScope st_law) (by decide +kernel)) (fun _ _ _ _ _ => (pg_name (i := 8) sc_law.nd rfl (.inl rfl))) (fun _ _ _ _ _ => pts_nil) (fun _ _ _ _ _ => (pe_cmpR op_notN (pe_call G_l_coordinates (hr.mono (by decide)) rfl D_l_coordinates.mg D_l_coordinates.fn.kp D_l_coordinates.bd .nil pass0 (pa_cons (pv 3) (pa_cons (pv 8) pa_nil))) pe_non (nomark _)))) pa_nil)))
      (pss_cons (ps_par (i := 13) (j := 14) (by rfl) sc_law.nd rfl rfl (by decide) rfl rfl (pa_cons (pe_call G_l_listed (hr.mono (by decide)) rfl D_l_listed.mg D_l_listed.fn.kp D_l_listed.bd .nil pass0 (pa_cons (pv 1) (pa_cons (pv 3) pa_nil))) (pa_cons (pe_call G_l_listed (hr.mono (by decide)) rfl D_l_listed.mg D_l_listed.fn.kp D_l_listed.bd .nil pass0 (pa_cons (pv 1) (pa_cons (pv 17) pa_nil))) pa_nil)) (by rfl))
      (pss_cons (ps_set (i := 15) sc_law.nd rfl (.inl rfl) (pe_callTy (kStr (K := K) rfl hr.units) (by rfl) Z.str_ PyProof.Rows.Boot.«str» (pa_cons (pe_lst (pa_cons (pv 13) (pa_cons (pv 14) pa_nil))) pa_nil)))
      (pss_cons (ps_set (i := 16) sc_law.nd rfl (.inl rfl) (pe_call G_includes (hr.mono (by decide)) rfl D_includes.mg D_includes.fn.kp D_includes.bd .nil pass0 (pa_cons (pv 13) (pa_cons (pv 14) pa_nil))))
      (pss_cons (ps_if (PW.pt (pw_or (pt_not (pt_val (pe_callB (kIsi (K := K)) (by rfl) Z.isinstance_ PyProof.Rows.Boot.«isinstance» (pa_cons (pv 16) (pa_cons (pe_bltn (v := .ty "bool") (by rfl) Z.bool_ PyProof.Rows.Boot.«bool» rfl) pa_nil))))) (pw_or (pt_cmpR (kNe (K := K) hr.units) (pv 16) (pv 18) (nomark _)) (pw_or1 (pt_cmpR op_isnot_bl (pe_call G_includes (hr.mono (by decide)) rfl D_includes.mg D_includes.fn.kp D_includes.bd .nil pass0 (pa_cons (pv 17) (pa_cons (pv 17) pa_nil))) pe_bl (nomark _)))))) (pss_one (ps_ret pe_bl)) pss_nil)
      (pss_cons (ps_if (pt_cmpR (kNe (K := K) hr.units) (pe_callTy (kStr (K := K) rfl hr.units) (by rfl) Z.str_ PyProof.Rows.Boot.«str» (pa_cons (pe_lst (pa_cons (pv 13) (pa_cons (pv 14) pa_nil))) pa_nil)) (pv 15) (nomark _)) (pss_one (ps_ret pe_bl)) pss_nil)
      (pss_one (ps_ret (pe_and (pe_cmpR (kEq (K := K) hr.units) (pe_call G_coordinates (hr.mono (by decide)) rfl D_coordinates.mg D_coordinates.fn.kp D_coordinates.bd .nil pass0 (pa_cons (pv 3) (pa_cons (pe_op (kRepZ (K := K)) (pe_tup (pa_cons pe_int pa_nil)) (pv 2)) pa_nil))) (pe_op (kRepZ (K := K)) (pe_tup (pa_cons pe_int pa_nil)) (pe_callB (kLen (K := K)) (by rfl) Z.len_ PyProof.Rows.Boot.«len» (pa_cons (pv 3) pa_nil))) (nomark _)) (pe_one (pe_cmpR op_isBl (pe_call G_includes (hr.mono (by decide)) rfl D_includes.mg D_includes.fn.kp D_includes.bd .nil pass0 (pa_cons (pv 3) (pa_cons (pe_tup pa_nil) pa_nil))) pe_bl (nomark _)))))))))))))))))), ?_⟩
  refine ⟨_, rfl, a, _, rfl, .inl hS, fun q0 hq => ⟨by show 4 ≤ sizeLine; decide, fun s0 hs => ?_⟩⟩
  have O := strm_new hq hs
  generalize upd (upd H q0 (.lst (ns.map V.int))) s0 (.lst [.ref q0, .int 0, .int 0, .int 0]) = H0 at O
  obtain ⟨OO, _⟩ := O.all
  dsimp only [gName]
  refine ⟨_, rfl, s0, q0, _, _, rfl, OO, by omega, fun n H1 n1 n7 O1 => ?_⟩
  dsimp only [gName]
  refine ⟨_, rfl, _, rfl, s0, q0, _, n, _, rfl, n1, n7, O1, by omega, fun pb as cs R G2 H2 e2 O2 hpb hR eR hnR bR => ?_⟩
  dsimp only [gName]
  refine ⟨by show 0 ≤ sizeLine; exact Nat.zero_le _, fun L0 hL0 => ?_⟩
  have gL : G2 L0 = none := O2.sub.free hL0
  have O3 := O2.new (o := .lst []) hL0
  have e3 : Ex G2 (upd G2 L0 (.lst [])) := Ex.new gL
  have L3 : upd G2 L0 (.lst []) L0 = some (.lst (([] : List Addr).map V.ref)) := upd_same
  generalize upd G2 L0 (.lst []) = G3 at O3 e3 L3
  generalize upd H2 L0 (.lst []) = H3 at O3
  clear O O1 O2 OO hq hs
  have Rn := hnR.le
  have rl : ∀ r ∈ R, r.length = n := hnR.rlen
  have asl := hR.1
  dsimp only [gName]
  have smb : sm8 (2 ^ 537 * (1 + 2 ^ 537) ^ R.length) := sm_ech (by have : (537 + 1) * R.length ≤ (537 + 1) * 7 := Nat.mul_le_mul_left _ (by omega); omega)
  have bR' : ∀ r ∈ R, Hn.bnd (2 ^ 537) (Hn.fv r) := fun r hr => Hn.bnd_mono (Nat.pow_le_pow_right (by decide) (by decide)) (bR r hr)
  refine ⟨3, rfl, by decide, by decide, for_it (walk_range (lo := 0) (n := 3)) (fun i σ H' => ∃ (v5 v6 v7 v8 v9 v10 v11 v12 v13 v14 v15 v16 v17 v18 : Option V) (Gc : Hp) (vs : List Addr) (Vr : List (List Int)), σ = [some (.ref a), some (.ref s0), some (.int (n : Nat)), some (.ref pb), some (.ref L0), v5, v6, v7, v8, v9, v10, v11, v12, v13, v14, v15, v16, v17, v18] ∧ Ov s0 q0 (400 + 30 * i) Gc H' ∧ Ex G2 Gc ∧ Gc L0 = some (.lst (vs.map V.ref)) ∧ RowsIn Gc vs Vr ∧ Vr.length = i ∧ ∀ v ∈ Vr, v.length = n ∧ Hn.bnd (2 ^ 537) (Hn.fv v))
    ⟨_, _, _, _, _, _, _, _, _, _, _, _, _, _, G3, [], [], rfl, O3.more (by omega), e3, L3, RowsIn.nil, rfl, by simp⟩ (fun _ _ _ _ _ => trivial) (fun i x σ H' H4 hi p y => ?_) (fun σ H' p => ?_)⟩
  · obtain ⟨v5, v6, v7, v8, v9, v10, v11, v12, v13, v14, v15, v16, v17, v18, Gc, vs, Vr, rfl, Oc, ec, hLc, hVc, Vl, Vb⟩ := p
    obtain ⟨rfl, rfl⟩ := y
    have i3 : i < 3 := hi
    dsimp only [gName]
    have hpbc := ec _ _ hpb
    have hRc : RowsIn Gc as R := hR.mono fun _ _ h => ec _ _ h
    refine ⟨_, rfl, true, pb, _, rfl, SqK.tup (Oc.sub _ _ hpbc), fun D3 hD3 => ?_⟩
    refine lc_grow (walk_k (K := K) (k := true) (a := pb) (xs := as.map V.ref)) (c := 2) Oc hD3 (fun j acc G' => ∃ t : List Int, acc = iV t ∧ t.length = j ∧ ∀ x ∈ t, x.natAbs ≤ 10 ^ 20) ⟨[], rfl, rfl, by simp⟩
      (fun j acc G G' k p => p) (fun j acc G' _ p => by obtain ⟨t, rfl, h2, _⟩ := p; rw [List.length_map]; omega) (by rw [List.length_map]; omega) (fun i H G' _ e o => SqK.tup (o.sub _ _ (e _ _ hpbc)))
      (fun j x Hd Hz acc2 G2' hj ex2 pa2 oc2 y Qe' Qn' qe' qn' => ?_) (fun H17 xs2 G17 e17 pa2 hxs2 O17 => ?_)
    · obtain ⟨rfl, _⟩ := y
      obtain ⟨t, rfl, htl, htb⟩ := pa2
      rw [List.length_map] at hj
      refine ⟨rfl, _, rfl, 10, 20, rfl, rfl, ⟨by decide, by decide, by decide⟩, by show 2 ≤ sizeLine; decide, fun l1 hl1 => ⟨_, rfl, s0, q0, _, _, 2, rfl, oc2.new hl1, by omega, by decide, by decide, fun r H15 r0 r1 O15 => ?_⟩⟩
      obtain ⟨rv, hrv, hrm⟩ := menu (n := 2) r0 r1 (vs := [.int 5, .int (10 ^ 20)]) rfl
      obtain ⟨z, rfl, z0, z9⟩ : ∃ z : Int, rv = .int z ∧ 0 < z ∧ z ≤ 10 ^ 20 := by
        simp only [List.mem_cons, List.not_mem_nil, or_false] at hrm
        rcases hrm with h | h
        · exact ⟨5, h, by decide, by decide⟩
        · exact ⟨10 ^ 20, h, by decide, by decide⟩
      refine ixl (O15.sub _ _ upd_same) hrv ?_
      have O16 := O15.weak (Ex.new (oc2.sub.free hl1))
      refine ⟨s0, q0, _, _, z, rfl, O16, by omega, by omega, Nat.lt_of_le_of_lt (show z.natAbs ≤ 10 ^ 20 by omega) (by decide), fun r5 H8 s1 s2 O8 => ?_⟩
      refine ⟨_, _, rfl, rfl, qe' _ _ _ (Ex.refl _) ⟨t ++ [r5 - 2], by show _ = List.map V.int (t ++ [r5 - 2]); rw [List.map_append]; rfl, by rw [List.length_append, htl]; rfl, fun x hx => ?_⟩ (O8.more (by omega))⟩
      rcases List.mem_append.mp hx with hx | hx
      · exact htb x hx
      · have : x = r5 - 2 := by simpa using hx
        have : (10 : Int) ^ 20 = 100000000000000000000 := by decide
        have : (10 : Nat) ^ 20 = 100000000000000000000 := by decide
        omega
    obtain ⟨fs, rfl, fsl, fsb⟩ := pa2
    rw [List.length_map, asl] at fsl
    refine ⟨D3, _, rfl, .inl ⟨SqL.of (O17.sub _ _ hxs2), fun fp hfp => ?_⟩⟩
    have O18 := O17.new (o := .tup (iV fs)) hfp
    have e18 := e17.trans (Ex.new (o := .tup (iV fs)) (O17.sub.free hfp))
    have f18 : upd G17 fp (.tup (iV fs)) fp = some (.tup (iV fs)) := upd_same
    rw [List.length_map] at O18
    generalize upd G17 fp (.tup (iV fs)) = G18 at O18 e18 f18
    generalize upd H17 fp (.tup (iV fs)) = H18 at O18
    dsimp only [gName]
    refine ⟨by show 1 ≤ sizeLine; decide, fun l0 hl0 => ⟨_, rfl, .inr (rep_t upd_same n1 (by omega) fun p0 H19 e19 hp0 => ?_)⟩⟩
    have hp0 : H19 p0 = some (.tup (iV (List.replicate n (0 : Int)))) := by rw [hp0]; show _ = some (HO.tup (List.map V.int _)); rw [List.map_replicate]
    have e189 := (Ex.new (o := .tup [.int 0]) hl0).trans e19
    have O19 := O18.ex e189
    dsimp only [gName]
    have hmin : R.length = min (iV fs).length (as.map V.ref).length := by rw [List.length_map, List.length_map, asl, fsl]; omega
    have g18 : Ex Gc H19 := (e18.trans O18.sub).trans e189
    have hfp19 := e189 _ _ (O18.sub _ _ f18)
    have hpb19 := g18 _ _ hpbc
    have hR19 : RowsIn H19 as R := hRc.mono fun _ _ h => g18 _ _ h
    refine ⟨_, rfl, _, rfl, true, true, fp, pb, _, _, rfl, SqK.tup hfp19, SqK.tup hpb19, ?_⟩
    refine for_it (walk_zk (K := K) (k := true) (l := true) (a := fp) (b := pb) (xs := iV fs) (ys := as.map V.ref) hmin) (fun t σ H' => ∃ (v6 v9 : Option V) (pv : Addr) (v : List Int), σ = [some (.ref a), some (.ref s0), some (.int (n : Nat)), some (.ref pb), some (.ref L0), some (.int (0 + (i : Int))), v6, some (.ref fp), some (.ref pv), v9, v10, v11, v12, v13, v14, v15, v16, v17, v18] ∧ Ex H19 H' ∧ H' pv = some (.tup (iV v)) ∧ v.length = n ∧ ∀ j, Hn.fv v j = Hn.sm t fun s => fs.getD s 0 * Hn.gt R s j)
      ⟨_, _, p0, _, rfl, Ex.refl _, hp0, List.length_replicate, fun j => ?_⟩ (fun t σ H' _ p => by obtain ⟨_, _, _, _, _, e, _⟩ := p; exact ⟨SqK.tup (e _ _ hfp19), SqK.tup (e _ _ hpb19)⟩) (fun t x σ H' H20 ht p y => ?_) (fun σ H' p => ?_)
    · show _ = (0 : Int)
      by_cases hj : j < n
      · exact Hn.fv_at (by rw [List.getElem?_replicate, if_pos hj])
      · exact Hn.fv_out (by rw [List.length_replicate]; omega)
    · obtain ⟨v6, v9, pv, v, rfl, e, hv, vl, vj⟩ := p
      obtain ⟨T, x1, y1, rfl, hT, rfl, hx, hy⟩ := y
      obtain ⟨f, hf, rfl⟩ := ints_at hx
      have hy : (as.map V.ref)[t]? = some y1 := hy
      rw [List.getElem?_map] at hy
      obtain ⟨ra, hra, rfl⟩ := Option.map_eq_some_iff.mp hy
      have hr : R[t]? = some (R[t]'(by omega)) := List.getElem?_eq_getElem _
      generalize R[t]'(by omega) = r at hr
      have rm' := List.mem_of_getElem? hr
      have eT := Ex.new (o := .tup [.int f, .ref ra]) hT
      have h1 := eT _ _ (e _ _ (hR19.2 t ra r hra hr))
      have h2 := eT _ _ hv
      refine ⟨T, _, rfl, SqT.of upd_same, rfl, _, _, rfl, _, _, rfl, rfl, ?_⟩
      have ff := fsb f (List.mem_of_getElem? hf)
      refine ⟨_, rfl, _, rfl, _, rfl, ra, pv, f, r, v, rfl, h1, h2, by rw [rl r rm', vl], by rw [rl r rm']; omega, bg_le (B := 2 ^ 67) (Nat.le_trans ff (by decide)) (by rw [Nat.log2_two_pow]; decide), fun z hz => bg_at (B := 2 ^ 466) (sm8_2 (by decide)) (bR r rm') hz, fun H21 p e21 _ hp => ?_⟩
      refine ⟨_, _, p, _, rfl, (e.trans eT).trans e21, hp, by rw [Hn.len_plus (by rw [rl r rm', vl]), vl], fun j => ?_⟩
      rw [Hn.fv_plus (by rw [rl r rm', vl]), vj j]
      show _ = Hn.sm t (fun s => fs.getD s 0 * Hn.gt R s j) + fs.getD t 0 * Hn.gt R t j
      have ef : fs.getD t 0 = f := by rw [List.getD_eq_getElem?_getD, hf]; rfl
      rw [ef, Hn.gt_at hr]
      omega
    · obtain ⟨v6, v9, pv, v, rfl, e, hv, vl, vj⟩ := p
      have vS : Hn.Sp (Hn.RL R) (Hn.fv v) := Hn.Lat.cast (Hn.Lat.sum (Hn.Lat.sp (Hn.RL R)) (T := fun s => Hn.gt R s) (fun s => fs.getD s 0) (m := R.length) fun s hs => by
        obtain ⟨w, hw, e⟩ := Hn.gt_mem hs
        exact .of ⟨w, hw, e⟩) fun j => (vj j).symm
      have vb : Hn.bnd (2 ^ 536) (Hn.fv v) := fun j => by
        rw [vj j]
        refine Nat.le_trans (Hn.sm_abs (B := 2 ^ 67 * 2 ^ 466) fun s hs => ?_) ?_
        · rw [Int.natAbs_mul]
          obtain ⟨w, hw, e⟩ := Hn.gt_mem hs
          rw [e]
          refine Nat.mul_le_mul ?_ (bR w hw j)
          have : fs.getD s 0 ∈ fs := by
            rw [List.getD_eq_getElem?_getD, List.getElem?_eq_getElem (by omega)]
            exact List.getElem_mem _
          exact Nat.le_trans (fsb _ this) (by decide)
        · rw [← Nat.pow_add]
          exact Nat.le_trans (Nat.mul_le_mul_right _ (show R.length ≤ 2 ^ 3 by omega)) (by rw [← Nat.pow_add]; exact Nat.le_refl _)
      have vb7 : Hn.bnd (2 ^ 537) (Hn.fv v) := Hn.bnd_mono (Nat.pow_le_pow_right (by decide) (by decide)) vb
      have hpb20 := e _ _ hpb19
      have hR20 : RowsIn H' as R := hR19.mono fun _ _ h => e _ _ h
      refine ⟨_, rfl, _, rfl, true, true, pb, pv, n, 2 ^ 537, cs, as.map V.ref, R, v, rfl, SqK.tup hpb20, hR20.k, SqK.tup hv, eR, vl, by omega, by omega, bR', vb7, smb, fun hn => absurd vS hn, fun _ H21 cp fs' e21 hcp fl' hf' => ?_⟩
      have ef : fs' = fs := crd_uniq eR fl' fsl fun j => (hf' j).symm.trans (vj j)
      subst ef
      refine ⟨_, rfl, ne_ints hcp (e21 _ _ (e _ _ hfp19)) ⟨_, rfl, iteNF rfl ?_⟩⟩
      have hpb21 := e21 _ _ hpb20
      have hR21 : RowsIn H21 as R := hR20.mono fun _ _ h => e21 _ _ h
      refine ⟨_, rfl, _, rfl, true, true, pb, pv, n, 2 ^ 537, cs, as.map V.ref, R, v, rfl, SqK.tup hpb21, hR21.k, SqK.tup (e21 _ _ hv), eR, vl, by omega, by omega, bR', vb7, smb, fun c H22 e22 hc => ?_⟩
      have : c = true := hc.mpr vS
      subst this
      refine ⟨true, true, rfl, rfl, _, rfl, iteNF rfl ?_⟩
      have e22' := (e.trans e21).trans e22
      have O22 := O19.ex e22'
      obtain ⟨OA, eA⟩ := O22.all
      have hv22 := O22.tup (e22 _ _ (e21 _ _ hv))
      generalize beside s0 q0 H22 = G22 at OA eA hv22
      have gc22 := e18.trans eA
      refine ⟨_, rfl, _, rfl, s0, q0, _, _, (n : Int), rfl, OA, by omega, by omega, by have : ((n : Nat) : Int).natAbs < 100 := (by omega); exact Nat.lt_of_lt_of_le this (by decide), fun kz H23 k0 k1 O23 => ?_⟩
      obtain ⟨k, rfl⟩ := Int.eq_ofNat_of_zero_le k0
      have kn : k < n := by omega
      dsimp only [gName]
      refine ⟨_, rfl, _, rfl, _, rfl, sl_t (O23.sub _ _ hv22) fun p1 H24 e24 hp1 => ?_⟩
      rw [cut_to (by rw [List.length_map]; omega)] at hp1
      have hp1 : H24 p1 = some (.tup (iV (v.take k))) := by rw [hp1]; show _ = some (HO.tup (List.map V.int _)); rw [List.map_take]
      have O24 := O23.ex e24
      obtain ⟨OB, eB⟩ := O24.all
      have hp1B := O24.tup hp1
      generalize beside s0 q0 H24 = GB at OB eB hp1B
      have gcB := gc22.trans eB
      have hvB := eB _ _ hv22
      have ik : (iV v)[k]? = some (.int (v.getD k 0)) := by
        rw [List.getElem?_map, List.getD_eq_getElem?_getD, List.getElem?_eq_getElem (by omega)]; rfl
      have vk : (v.getD k 0).natAbs ≤ 2 ^ 536 := by
        have := vb k
        rwa [Hn.fv_at (x := v.getD k 0) (by rw [List.getD_eq_getElem?_getD, List.getElem?_eq_getElem (by omega)]; rfl)] at this
      refine ⟨_, rfl, _, rfl, ixt (OB.sub _ _ hvB) (atI_nat ik) ⟨1, rfl, by show 4 ≤ sizeLine; decide, fun l1 hl1 => ⟨_, rfl, s0, q0, _, _, 4, rfl, OB.new hl1, by omega, by decide, by decide, fun r H25 r0 r1 O25 => ?_⟩⟩⟩
      obtain ⟨dv, hdv, hdm⟩ := menu (n := 4) r0 r1 (vs := [.int 1, .int (-1), .int 2, .int 6]) rfl
      obtain ⟨d, rfl, d6⟩ : ∃ d : Int, dv = .int d ∧ d.natAbs ≤ 6 := by
        simp only [List.mem_cons, List.not_mem_nil, or_false] at hdm
        rcases hdm with h | h | h | h
        · exact ⟨1, h, by decide⟩
        · exact ⟨-1, h, by decide⟩
        · exact ⟨2, h, by decide⟩
        · exact ⟨6, h, by decide⟩
      refine ixl (O25.sub _ _ upd_same) hdv (.inl ⟨_, _, rfl, rfl, by show 1 ≤ sizeLine; decide, fun p2 hp2 => ?_⟩)
      have O26 := O25.weak (Ex.new (OB.sub.free hl1))
      have e26 := Ex.new (o := .tup [.int (v.getD k 0 + d)]) hp2
      refine cat_tupB (e26 _ _ (O26.sub _ _ hp1B)) (ys := [v.getD k 0 + d]) upd_same (by rw [List.length_take]; show _ + 1 ≤ 1000; omega) fun p3 H27 e27 hp3 => ?_
      have e267 := e26.trans e27
      refine ⟨_, rfl, _, rfl, .inl ⟨_, _, rfl, rfl, _, rfl, sl_t (e267 _ _ (O26.sub _ _ hvB)) fun p4 H28 e28 hp4 => ?_⟩⟩
      have ek : ((k : Nat) : Int) + 1 = ((k + 1 : Nat) : Int) := by omega
      rw [ek, cut_from (by rw [List.length_map]; omega)] at hp4
      have hp4 : H28 p4 = some (.tup (iV (v.drop (k + 1)))) := by rw [hp4]; show _ = some (HO.tup (List.map V.int _)); rw [List.map_drop]
      refine cat_tupB (e28 _ _ hp3) hp4 (by rw [List.length_append, List.length_take, List.length_drop]; show _ + 1 + _ ≤ 1000; omega) fun p5 H29 e29 hp5 => ?_
      obtain ⟨bl, bb⟩ := beside_l (k := k) (d := d) (B := 0) vl kn vb d6
      generalize v.take k ++ [v.getD k 0 + d] ++ v.drop (k + 1) = b at hp5 bl bb
      have O29 := O26.ex ((e267.trans e28).trans e29)
      obtain ⟨OC, eC⟩ := O29.all
      have hp5C := O29.tup hp5
      have sCC := OC.sub
      generalize beside s0 q0 H29 = GC at OC eC hp5C sCC
      have gcC := gcB.trans eC
      have hvC := eC _ _ hvB
      have hpbC := gcC _ _ hpbc
      have hRC : RowsIn GC as R := hRc.mono fun _ _ h => gcC _ _ h
      dsimp only [gName]
      refine cut (fun σ' Hx => ∃ dv : V, σ' = [some (.ref a), some (.ref s0), some (.int (n : Nat)), some (.ref pb), some (.ref L0), some (.int (0 + (i : Int))), v6, some (.ref fp), some (.ref pv), v9, some (.int (k : Nat)), some (.ref p5), some dv, v13, v14, v15, v16, v17, v18] ∧ Ex H29 Hx ∧ ((¬ Hn.Sp (Hn.RL R) (Hn.fv b) ∧ dv = .non) ∨ (Hn.Sp (Hn.RL R) (Hn.fv b) ∧ ∃ (p : Addr) (gs : List Int), dv = .ref p ∧ Hx p = some (.tup (iV gs)) ∧ gs.length = R.length ∧ ∀ j, Hn.fv b j = Hn.sm R.length fun s => gs.getD s 0 * Hn.gt R s j))) ?_ ?_
      · rintro σ' H30 ⟨dv, rfl, e30, due⟩
        have OD0 := OC.ex e30
        obtain ⟨OD, eD⟩ := OD0.all
        have due : (¬ Hn.Sp (Hn.RL R) (Hn.fv b) ∧ dv = .non) ∨ (Hn.Sp (Hn.RL R) (Hn.fv b) ∧ ∃ (p : Addr) (gs : List Int), dv = .ref p ∧ beside s0 q0 H30 p = some (.tup (iV gs)) ∧ gs.length = R.length ∧ ∀ j, Hn.fv b j = Hn.sm R.length fun s => gs.getD s 0 * Hn.gt R s j) := by
          rcases due with h | ⟨h, p, gs, h1, h2, h3, h4⟩
          · exact .inl h
          · exact .inr ⟨h, p, gs, h1, OD0.tup h2, h3, h4⟩
        generalize beside s0 q0 H30 = GD at OD eD due
        have gcD := gcC.trans eD
        have hp5D := eD _ _ hp5C
        have hRD : RowsIn GD as R := hRc.mono fun _ _ h => gcD _ _ h
        refine ⟨_, rfl, _, rfl, .inl ⟨s0, q0, _, GD, true, pb, as.map V.ref, R, rfl, OD, by omega, SqK.tup (gcD _ _ hpbc), hRD.k, by omega, fun r hr => by rw [rl r hr]; omega, fun GE HE rp eE OE hrp => ?_⟩⟩
        obtain ⟨kr, rys, hr1, hr2⟩ := lst_or (K := K) hrp eE (SqK.tup (gcD _ _ hpbc)) hRD.k
        refine ⟨_, rfl, _, rfl, .inr ⟨s0, q0, _, GE, true, p5, b, rfl, OE, by omega, SqK.tup (eE _ _ hp5D), by omega, fun GF HF hp eF OF hhp => ?_⟩⟩
        obtain ⟨kh, hh1⟩ := flat_or (K := K) hhp eF (SqK.tup (eE _ _ hp5D))
        dsimp only [gName]
        refine ⟨_, _, rfl, ?_⟩
        refine ⟨_, rfl, _, rfl, by show 2 ≤ sizeLine; decide, fun l5 hl5 => ?_⟩
        have OG := OF.drop (o := .lst [.ref rp, .ref hp]) hl5
        have hr1' := OG.sub.seq (eF.seq hr1)
        have hr2' := (hr2.ex eF).ex OG.sub
        have hh1' := OG.sub.seq hh1
        obtain ⟨d1, dp1, s1, t1⟩ := rows_dp16 hr1' hr2' (by omega) fun r hr => ⟨by rw [rl r hr]; omega, Hn.bnd_mono (Nat.pow_le_pow_right (by decide) (by decide)) (bR r hr)⟩
        obtain ⟨d2, dp2, s2, t2⟩ := row_dp16 hh1' (by omega) (Hn.bnd_mono (Nat.pow_le_pow_right (by decide) (by decide)) bb)
        obtain ⟨q1, q2, q3, q4⟩ := shw_pair16 ⟨s1, t1⟩ ⟨s2, t2⟩
        have dpL : ∀ {Hx : Hp} {l : Addr}, Ex (upd HF l5 (.lst [.ref rp, .ref hp])) Hx → Hx l = some (.lst [.ref rp, .ref hp]) → Dp K Hx (.ref l) (.list [d1, d2]) := fun e h => .lst (SqL.of h) (.cons (dp_ex e _ _ dp1) (.cons (dp_ex e _ _ dp2) .nil))
        have l5s : upd HF l5 (.lst [.ref rp, .ref hp]) l5 = some (.lst [.ref rp, .ref hp]) := upd_same
        generalize PyData.list [d1, d2] = dd at q1 q2 q3 q4 dpL
        generalize upd HF l5 (.lst [.ref rp, .ref hp]) = HG at OG hr1' hr2' hh1' dpL l5s dp1 dp2
        refine ⟨l5, dd, rfl, dpL (Ex.refl _) l5s, q1, q2, q3, q4, ?_⟩
        dsimp only [gName]
        refine ⟨_, rfl, _, rfl, kr, kh, rp, hp, n, 2 ^ 537, cs, rys, R, b, rfl, hr1', hr2', hh1', eR, bl, by omega, by omega, bR', bb, smb, fun c H35 e35 hc => ?_⟩
        dsimp only [gName]
        apply joinH (C := fun H => Ex H35 H)
        · intro next
          refine ⟨_, rfl, _, rfl, kr, kh, rp, hp, n, 2 ^ 537, cs, rys, R, b, rfl, e35.seq hr1', hr2'.ex e35, e35.seq hh1', eR, bl, by omega, by omega, bR', bb, smb, fun hn H36 e36 => ?_, fun hs' H36 cp gs' e36 hcp gl' hg' => ?_⟩
          · have hdv : dv = .non := by
              rcases id due with ⟨_, h⟩ | ⟨h, _⟩
              · exact h
              · exact absurd h hn
            refine ⟨_, rfl, ne_nonV hdv ⟨_, rfl, iteNF rfl ?_⟩⟩
            exact next H36 e36
          · obtain ⟨p, gs, hdv, h2, h3, h4⟩ : ∃ (p : Addr) (gs : List Int), dv = .ref p ∧ GD p = some (.tup (iV gs)) ∧ gs.length = R.length ∧ ∀ j, Hn.fv b j = Hn.sm R.length fun s => gs.getD s 0 * Hn.gt R s j := by
              rcases id due with ⟨h, _⟩ | ⟨_, h⟩
              · exact absurd hs' h
              · exact h
            have eg : gs' = gs := crd_uniq eR gl' h3 fun j => (hg' j).symm.trans (h4 j)
            have g36 : Ex GD H36 := ((((eE.trans eF).trans OG.sub).trans e35).trans e36)
            refine ⟨_, rfl, ne_refV hdv hcp (g36 _ _ h2) ⟨_, rfl, iteNF eg ?_⟩⟩
            exact next H36 e36
        · intro H36 e36
          have key : c = !decide (dv = V.non) := by
            rcases id due with ⟨h, hd⟩ | ⟨h, p, gs, hd, _⟩
            · rw [hd, decide_eq_true rfl]
              cases c with
              | true => exact absurd (hc.mp rfl) h
              | false => rfl
            · rw [hd, decide_eq_false (by intro h; cases h)]
              exact hc.mpr h
          refine ⟨_, rfl, .bl c, .ty "bool", .type "bool", .type "bool", _, rfl, .ty "bool", (Kd.bl (H := H36) c).ty, kit_ty (kit_bool "bool" (Kd.bl (H := H36) c).mem), _, rfl, iteF ?_⟩
          refine ⟨_, rfl, _, rfl, rfl, .inl ⟨rfl, _, rfl, iteNF (by rw [← key]) ?_⟩⟩
          refine ⟨_, rfl, _, rfl, by show 2 ≤ sizeLine; decide, fun l6 hl6 => ?_⟩
          have e37 := Ex.new (o := .lst [.ref rp, .ref hp]) hl6
          have e357 := (e35.trans e36).trans e37
          refine ⟨l6, dd, rfl, dpL e357 upd_same, q1, q2, q3, q4, ?_⟩
          refine ⟨_, rfl, .inl ⟨rfl, _, rfl, iteNF rfl ?_⟩⟩
          have O37 := OG.ex e357
          generalize upd H36 l6 (.lst [.ref rp, .ref hp]) = H37 at O37 ⊢
          clear dpL
          have gcF := (gcD.trans eE).trans eF
          have hLF := gcF _ _ hLc
          have gDF := eE.trans eF
          have hvF := gDF _ _ (eD _ _ hvC)
          have hpF := gDF _ _ hp5D
          have gLF : G2 L0 = none := gL
          refine ⟨_, rfl, .inl ⟨rfl, _, SqL.of (O37.sub _ _ hLF)⟩, _, rfl, _, rfl, by show 2 ≤ sizeLine; decide, fun l7 hl7 => ⟨_, rfl, s0, q0, _, _, 3, rfl, O37.new hl7, by omega, by decide, by decide, fun r2 H38 r20 r21 O38 => .inl ⟨rfl, .inr ⟨_, rfl, ?_⟩⟩⟩⟩
          have O39 := O38.weak (Ex.new (O37.sub.free hl7))
          have l7s := O38.sub _ _ (upd_same (H := GF) (a := l7) (o := .lst [.ref pv, .ref p5]))
          have fin : ∀ (pz : Addr) (z : List Int), GF pz = some (.tup (iV z)) → z.length = n → Hn.bnd (2 ^ 537) (Hn.fv z) → ∃ (v5' v6' v7' v8' v9' v10' v11' v12' v13' v14' v15' v16' v17' v18' : Option V) (Gc' : Hp) (vs' : List Addr) (Vr' : List (List Int)), [some (.ref a), some (.ref s0), some (.int (n : Nat)), some (.ref pb), some (.ref L0), some (.int (0 + (i : Int))), v6, some (.ref fp), some (.ref pv), v9, some (.int (k : Nat)), some (.ref p5), some dv, some (.ref rp), some (.ref hp), some (.str dd.shown), some (.bl c), v17, v18] = [some (.ref a), some (.ref s0), some (.int (n : Nat)), some (.ref pb), some (.ref L0), v5', v6', v7', v8', v9', v10', v11', v12', v13', v14', v15', v16', v17', v18'] ∧ Ov s0 q0 (400 + 30 * (i + 1)) Gc' (upd H38 L0 (.lst (vs.map V.ref ++ [.ref pz]))) ∧ Ex G2 Gc' ∧ Gc' L0 = some (.lst (vs'.map V.ref)) ∧ RowsIn Gc' vs' Vr' ∧ Vr'.length = i + 1 ∧ ∀ v ∈ Vr', v.length = n ∧ Hn.bnd (2 ^ 537) (Hn.fv v) := fun pz z hz zl zb => by
            have keep : ∀ b xs, GF b = some (.tup xs) → upd GF L0 (.lst (vs.map V.ref ++ [.ref pz])) b = some (.tup xs) := fun b xs h => (upd_ne (fun e => by rw [e, hLF] at h; cases h)).trans h
            refine ⟨_, _, _, _, _, _, _, _, _, _, _, _, _, _, upd GF L0 (.lst (vs.map V.ref ++ [.ref pz])), vs ++ [pz], Vr ++ [z], rfl, (O39.put hLF).more (by omega), (ec.trans gcF).up gLF, by rw [upd_same, List.map_append]; rfl, ((hVc.mono fun _ _ h => gcF _ _ h).mono keep).snoc (keep _ _ hz), by rw [List.length_append, Vl]; rfl, fun v hv => ?_⟩
            rcases List.mem_append.mp hv with hv | hv
            · exact Vb v hv
            · rw [List.mem_singleton.mp hv]; exact ⟨zl, zb⟩
          have lenOk : (vs.map V.ref).length < sizeLine := by rw [List.length_map, hVc.1, Vl, sizeLine_eq]; omega
          by_cases hr2 : V.int r2 = V.int 0
          · rw [decide_eq_true hr2]
            refine ixl l7s (atI_nat (j := 1) (v := .ref p5) rfl) ⟨L0, _, _, rfl, rfl, O39.sub _ _ hLF, lenOk, ?_⟩
            exact fin p5 b hpF bl bb
          · rw [decide_eq_false hr2]
            refine ixl l7s (atI_nat (j := 0) (v := .ref pv) rfl) ⟨L0, _, _, rfl, rfl, O39.sub _ _ hLF, lenOk, ?_⟩
            exact fin pv v hvF vl vb7
      · intro N hN
        refine ⟨_, rfl, _, rfl, pb, p5, n, 2 ^ 537, cs, as, R, b, rfl, sCC _ _ hpbC, hRC.mono fun _ _ h => sCC _ _ h, sCC _ _ hp5C, eR, bl, by omega, by omega, bR', bb, smb, fun hn H30 e30 => hN _ _ ⟨.non, rfl, e30, .inl ⟨hn, rfl⟩⟩, fun hs' H30 cp gs e30 hcp gl hg => hN _ _ ⟨.ref cp, rfl, e30, .inr ⟨hs', cp, gs, rfl, hcp, gl, hg⟩⟩⟩
  · obtain ⟨v5, v6, v7, v8, v9, v10, v11, v12, v13, v14, v15, v16, v17, v18, Gc, vs, Vr, rfl, Oc, ec, hLc, hVc, Vl, Vb⟩ := p
    have vsl := hVc.1
    have hpbc := ec _ _ hpb
    have hRc : RowsIn Gc as R := hR.mono fun _ _ h => ec _ _ h
    have rm5 : rm n (2 ^ 537) := rm_pow (N' := 7) (x := 537) n7 (by decide) (Nat.le_refl _) (by decide +kernel)
    refine ⟨_, rfl, _, rfl, false, L0, n, 2 ^ 537, _, _, rfl, SqK.lst (Oc.sub _ _ hLc), (hVc.mono fun _ _ h => Oc.sub _ _ h).k, by omega, by omega, Vb, Nat.one_le_two_pow, rm5, fun H5 ob os C e5 hob hC hnC0 _ => ?_⟩
    have hnC : Hn.Hnf n (Hn.Sp (Hn.RL C)) C := hnC0.congr hnC0.span
    obtain ⟨qs, eC⟩ := hnC.ech
    have Cn := hnC.le
    have cl : ∀ r ∈ C, r.length = n := hnC.rlen
    have bC : ∀ r ∈ C, Hn.bnd (2 ^ 1620) (Hn.fv r) := fun r hr => by
      refine Hn.bnd_mono ?_ (Hn.hnf_few (B := 2 ^ 537) Nat.one_le_two_pow (fun v hv => (Vb v hv).2) hnC0 r hr)
      rw [Vl]
      decide +kernel
    dsimp only [gName]
    have O5 := Oc.ex e5
    obtain ⟨O6, e6⟩ := O5.all
    have hob6 := O5.tup hob
    have hC6 := RowsIn.beside O5 hC
    generalize beside s0 q0 H5 = G6 at O6 e6 hob6 hC6
    have hL6 := e6 _ _ hLc
    have hV6 : RowsIn G6 vs Vr := hVc.mono fun _ _ h => e6 _ _ h
    have hpb6 := e6 _ _ hpbc
    have hR6 : RowsIn G6 as R := hRc.mono fun _ _ h => e6 _ _ h
    refine ⟨_, rfl, false, L0, _, rfl, SqK.lst (O6.sub _ _ hL6), fun D hD => ?_⟩
    refine lc_pure (walk_k (K := K) (k := false) (a := L0) (xs := vs.map V.ref)) hD (fun _ => true) (fun i => .bl (inB R (Vr.getD i []))) (by rw [List.length_map]; omega) (fun _ e => SqK.lst (e _ _ (O6.sub _ _ hL6))) (fun i x Hc Hy hi e' y Qe Qn qe qn => ?_) (fun H7 e7 hL7 => ?_)
    · obtain ⟨rfl, hx⟩ := y
      rw [List.getElem?_map] at hx
      obtain ⟨va, hva, rfl⟩ := Option.map_eq_some_iff.mp hx
      rw [List.length_map] at hi
      have hv : Vr[i]? = some (Vr[i]'(by omega)) := List.getElem?_eq_getElem _
      generalize Vr[i]'(by omega) = v at hv
      have ev : Vr.getD i [] = v := by rw [List.getD_eq_getElem?_getD, hv]; rfl
      rw [ev] at qe
      obtain ⟨vl, vb⟩ := Vb v (List.mem_of_getElem? hv)
      have g' : Ex G6 Hy := O6.sub.trans e'
      refine ⟨rfl, _, rfl, _, rfl, pb, va, n, 2 ^ 537, cs, as, R, v, rfl, g' _ _ hpb6, hR6.mono fun _ _ h => g' _ _ h, g' _ _ (hV6.2 i va v hva hv), eR, vl, by omega, by omega, bR', vb, smb, fun hn H8 e8 => ⟨rfl, ?_⟩, fun hs' H8 p gs e8 _ _ _ => ⟨rfl, ?_⟩⟩
      · have : inB R v = false := by
          cases h : inB R v with
          | false => rfl
          | true => exact absurd (inB_iff.mp h) hn
        rw [this] at qe
        rw [decide_eq_true (rfl : V.non = V.non)]
        exact qe rfl H8 e8
      · rw [inB_iff.mpr hs'] at qe
        rw [decide_eq_false (by intro h; cases h)]
        exact qe rfl H8 e8
    have hL7 : H7 D = some (.lst ((Vr.map fun v => inB R v).map V.bl)) := by
      rw [hL7, picked_all, List.length_map, vsl, List.map_map]
      congr 2
      refine List.ext_getElem (by simp) fun i h1 h2 => ?_
      simp at h1
      simp [List.getD_eq_getElem?_getD, List.getElem?_eq_getElem h1]
    refine ⟨D, _, rfl, SqL.of hL7, ?_⟩
    generalize hins : List.all (Vr.map fun v => inB R v) id = ins
    have insI : ins = true ↔ ∀ r ∈ C, Hn.Sp (Hn.RL R) (Hn.fv r) := by
      rw [← hins, List.all_eq_true]
      constructor
      · intro h r hr
        refine ((hnC0.span _).mpr (.of ⟨r, hr, rfl⟩)).trans fun u ⟨v, hv, e⟩ => ?_
        subst e
        exact inB_iff.mp (h _ (List.mem_map.mpr ⟨v, hv, rfl⟩))
      · intro h x hx
        obtain ⟨v, hv, rfl⟩ := List.mem_map.mp hx
        refine inB_iff.mpr (((hnC0.span _).mp (.of ⟨v, hv, rfl⟩)).trans fun u ⟨r, hr, e⟩ => ?_)
        subst e
        exact h r hr
    dsimp only [gName]
    have O7 := O6.ex e7
    refine ⟨_, rfl, _, rfl, .inl ⟨s0, q0, _, G6, true, pb, as.map V.ref, R, rfl, O7, by omega, SqK.tup hpb6, hR6.k, by omega, fun r hr => by rw [rl r hr]; omega, fun G8 H8 rp e8 O8 hrp => ?_⟩⟩
    obtain ⟨kr, rys, hr1, hr2⟩ := lst_or (K := K) hrp e8 (SqK.tup hpb6) hR6.k
    have hob8 : SqK K true G8 ob (os.map V.ref) := SqK.tup (e8 _ _ hob6)
    have hC8 : RowsIn G8 os C := hC6.mono fun _ _ h => e8 _ _ h
    refine ⟨_, rfl, _, rfl, .inl ⟨s0, q0, _, G8, true, ob, os.map V.ref, C, rfl, O8, by omega, hob8, hC8.k, by omega, fun r hr => by rw [cl r hr]; omega, fun G9 H9 hp e9 O9 hhp => ?_⟩⟩
    obtain ⟨kh, hys, hh1, hh2⟩ := lst_or (K := K) hhp e9 hob8 hC8.k
    refine ⟨_, _, rfl, ?_⟩
    refine ⟨_, rfl, _, rfl, by show 2 ≤ sizeLine; decide, fun l5 hl5 => ?_⟩
    have OG := O9.drop (o := .lst [.ref rp, .ref hp]) hl5
    have hr1' := OG.sub.seq (e9.seq hr1)
    have hr2' := (hr2.ex e9).ex OG.sub
    have hh1' := OG.sub.seq hh1
    have hh2' := hh2.ex OG.sub
    obtain ⟨d1, dp1, s1, t1⟩ := rows_dp16 hr1' hr2' (by omega) fun r hr => ⟨by rw [rl r hr]; omega, Hn.bnd_mono (Nat.pow_le_pow_right (by decide) (by decide)) (bR r hr)⟩
    obtain ⟨d2, dp2, s2, t2⟩ := rows_dp16 hh1' hh2' (by omega) fun r hr => ⟨by rw [cl r hr]; omega, Hn.bnd_mono (Nat.pow_le_pow_right (by decide) (by decide)) (bC r hr)⟩
    obtain ⟨q1, q2, q3, q4⟩ := shw_pair16 ⟨s1, t1⟩ ⟨s2, t2⟩
    have dpL : ∀ {Hx : Hp} {l : Addr}, Ex (upd H9 l5 (.lst [.ref rp, .ref hp])) Hx → Hx l = some (.lst [.ref rp, .ref hp]) → Dp K Hx (.ref l) (.list [d1, d2]) := fun e h => .lst (SqL.of h) (.cons (dp_ex e _ _ dp1) (.cons (dp_ex e _ _ dp2) .nil))
    have l5s : upd H9 l5 (.lst [.ref rp, .ref hp]) l5 = some (.lst [.ref rp, .ref hp]) := upd_same
    generalize PyData.list [d1, d2] = dd at q1 q2 q3 q4 dpL
    generalize upd H9 l5 (.lst [.ref rp, .ref hp]) = HG at OG hr1' hr2' hh1' hh2' dpL l5s dp1 dp2
    refine ⟨l5, dd, rfl, dpL (Ex.refl _) l5s, q1, q2, q3, q4, ?_⟩
    dsimp only [gName]
    have b16 : ∀ r ∈ R, Hn.bnd (2 ^ 1620) (Hn.fv r) := fun r hr => Hn.bnd_mono (Nat.pow_le_pow_right (by decide) (by decide)) (bR r hr)
    have smL : ∀ m, m ≤ 7 → sm8 (2 ^ 1620 * (1 + 2 ^ 1620) ^ m) := fun m hm => sm_ech (by have : (1620 + 1) * m ≤ (1620 + 1) * 7 := Nat.mul_le_mul_left _ hm; omega)
    refine ⟨_, rfl, _, rfl, kr, kh, rp, hp, n, 2 ^ 1620, cs, rys, hys, R, C, rfl, hr1', hr2', hh1', hh2', eR, by omega, by omega, by omega, b16, fun r hr => ⟨cl r hr, bC r hr⟩, smL _ (by omega), fun c H10 e10 hc => ?_⟩
    have ec2 : c = ins := by rw [Bool.eq_iff_iff, hc, insI]
    subst ec2
    dsimp only [gName]
    refine ⟨_, rfl, .bl c, .ty "bool", .type "bool", .type "bool", _, rfl, .ty "bool", (Kd.bl (H := H10) c).ty, kit_ty (kit_bool "bool" (Kd.bl (H := H10) c).mem), _, rfl, iteF ?_⟩
    refine ⟨_, rfl, _, rfl, .inl ⟨rfl, _, rfl, iteNF rfl ?_⟩⟩
    have g9G : Ex G9 HG := OG.sub
    have gob : Ex G6 H10 := ((e8.trans e9).trans g9G).trans e10
    have hob10 : SqK K true H10 ob (os.map V.ref) := SqK.tup (gob _ _ hob6)
    have hC10 : RowsIn H10 os C := hC6.mono fun _ _ h => gob _ _ h
    refine ⟨_, rfl, _, rfl, true, true, ob, ob, n, 2 ^ 1620, qs, os.map V.ref, os.map V.ref, C, C, rfl, hob10, hC10.k, hob10, hC10.k, eC, by omega, by omega, by omega, bC, fun r hr => ⟨cl r hr, bC r hr⟩, smL _ (by omega), fun c2 H11 e11 hc2 => ?_⟩
    have : c2 = true := hc2.mpr fun r hr => .of ⟨r, hr, rfl⟩
    subst this
    refine ⟨true, true, rfl, rfl, _, rfl, iteNF rfl ?_⟩
    refine ⟨_, rfl, _, rfl, by show 2 ≤ sizeLine; decide, fun l6 hl6 => ?_⟩
    have e12 := Ex.new (o := .lst [.ref rp, .ref hp]) hl6
    have eG12 := (e10.trans e11).trans e12
    refine ⟨l6, dd, rfl, dpL eG12 upd_same, q1, q2, q3, q4, ?_⟩
    refine ⟨_, rfl, .inl ⟨rfl, _, rfl, iteNF rfl ?_⟩⟩
    have gpb : Ex G6 (upd H11 l6 (.lst [.ref rp, .ref hp])) := ((e8.trans e9).trans g9G).trans eG12
    have hpb12 := gpb _ _ hpb6
    have hR12 : RowsIn (upd H11 l6 (.lst [.ref rp, .ref hp])) as R := hR6.mono fun _ _ h => gpb _ _ h
    generalize upd H11 l6 (.lst [.ref rp, .ref hp]) = H12 at hpb12 hR12 ⊢
    refine ⟨_, rfl, by show 1 ≤ sizeLine; decide, fun l0 hl0 => ⟨_, rfl, .inr (rep_t upd_same n1 (by omega) fun p0 H13 e13 hp0 => ?_)⟩⟩
    have hp0 : H13 p0 = some (.tup (iV (List.replicate n (0 : Int)))) := by rw [hp0]; show _ = some (HO.tup (List.map V.int _)); rw [List.map_replicate]
    have e123 := (Ex.new (o := .tup [.int 0]) hl0).trans e13
    have hpb13 := e123 _ _ hpb12
    have hR13 : RowsIn H13 as R := hR12.mono fun _ _ h => e123 _ _ h
    have z0 : ∀ j, Hn.fv (List.replicate n (0 : Int)) j = 0 := fun j => by
      by_cases hj : j < n
      · exact Hn.fv_at (by rw [List.getElem?_replicate, if_pos hj])
      · exact Hn.fv_out (by rw [List.length_replicate]; omega)
    have zS : Hn.Sp (Hn.RL R) (Hn.fv (List.replicate n (0 : Int))) := Hn.Sp.zero.cast fun j => (z0 j).symm
    refine ⟨true, true, pb, p0, n, 2 ^ 537, cs, as.map V.ref, R, _, rfl, SqK.tup hpb13, hR13.k, SqK.tup hp0, eR, List.length_replicate, by omega, by omega, bR', fun j => by rw [z0 j]; exact Nat.zero_le _, smb, fun hn => absurd zS hn, fun _ H14 cp gs e14 hcp gl hg => ?_⟩
    have eg : gs = List.replicate R.length (0 : Int) := crd_uniq eR gl List.length_replicate fun j => by
      refine ((hg j).symm.trans (z0 j)).trans (Hn.sm_zero fun s hs => ?_).symm
      rw [List.getD_eq_getElem?_getD, List.getElem?_replicate, if_pos hs]
      simp
    subst eg
    have hpb14 := e14 _ _ hpb13
    have hR14 : RowsIn H14 as R := hR13.mono fun _ _ h => e14 _ _ h
    apply joinA (α := Addr) (C := fun p2 H15 => Ex H14 H15 ∧ H15 p2 = some (.tup (iV (List.replicate R.length (0 : Int)))))
    · intro next
      refine ⟨by show 1 ≤ sizeLine; decide, fun l2 hl2 => ⟨_, rfl, pb, _, rfl, .inr (SqT.of ((Ex.new hl2) _ _ hpb14)), ?_⟩⟩
      have eN := Ex.new (o := .tup [.int 0]) hl2
      have el : ((as.map V.ref).length : Int) = (R.length : Nat) := by rw [List.length_map, asl]
      rw [el]
      by_cases h1 : 1 ≤ R.length
      · refine .inr (rep_t upd_same h1 (by omega) fun p2 H15 e15 hp2 => ?_)
        exact next p2 H15 ⟨eN.trans e15, by rw [hp2]; show _ = some (HO.tup (List.map V.int _)); rw [List.map_replicate]⟩
      · have h0 : R.length = 0 := by omega
        refine .inl ⟨by rw [h0]; rfl, l2, _, rfl, SqT.of upd_same, by simp, fun p2 hp2 => ?_⟩
        exact next p2 _ ⟨eN.trans (Ex.new hp2), by rw [upd_same, h0]; rfl⟩
    · rintro p2 H15 ⟨e15, hp2⟩
      have sh := shaped_t (List.replicate R.length (0 : Int))
      refine .inr ⟨_, _, dp_t (SqT.of (e15 _ _ hcp)), dp_t (SqT.of hp2), sh, sh, ?_⟩
      rw [SeqAt.eqv_refl _ (SeqAt.canLay_of_shaped sh)]
      refine ⟨true, rfl, ?_⟩
      refine iteT ⟨_, rfl, by show 0 ≤ sizeLine; exact Nat.zero_le _, fun et het => ?_⟩
      have eE := e15.trans (Ex.new (o := .tup []) het)
      refine ⟨true, true, pb, et, n, 2 ^ 537, cs, as.map V.ref, [], R, [], rfl, SqK.tup (eE _ _ hpb14), (hR14.mono fun _ _ h => eE _ _ h).k, SqK.tup upd_same, ⟨rfl, fun i x r h => by simp at h⟩, eR, by omega, by omega, by simp, bR', fun r hr => by simp at hr, smb, fun c3 H16 e16 hc3 => ?_⟩
      have : c3 = true := hc3.mpr fun r hr => by simp at hr
      subst this
      exact ⟨true, true, rfl, rfl, rfl⟩

end
end K06

set_option maxHeartbeats 4000000
namespace K06
open PySem PySem.Spec PyProof.Rows L2 Hg

theorem all_mk {P : Program} {w : World} {K : PySem.W.Frag} {h : Heap} {mg : Str → Option Value} {fa : Addr} (X : K.In h) (G : h.Ns mainGlobals mg) (hfa : mg "law" = some (.ref fa))
    {f_bezout : Addr} {od_bezout an_bezout : Option Addr} {sl_bezout : Array (Option Value)} {oc_bezout kV_bezout dc_bezout pm_bezout cd_bezout ct_bezout : Value}
    {f_hermite : Addr} {od_hermite an_hermite : Option Addr} {sl_hermite : Array (Option Value)} {oc_hermite kV_hermite dc_hermite pm_hermite cd_hermite ct_hermite : Value}
    {f_coordinates : Addr} {od_coordinates an_coordinates : Option Addr} {sl_coordinates : Array (Option Value)} {oc_coordinates kV_coordinates dc_coordinates pm_coordinates cd_coordinates ct_coordinates : Value}
    {f_contains : Addr} {od_contains an_contains : Option Addr} {sl_contains : Array (Option Value)} {oc_contains kV_contains dc_contains pm_contains cd_contains ct_contains : Value}
    {f_includes : Addr} {od_includes an_includes : Option Addr} {sl_includes : Array (Option Value)} {oc_includes kV_includes dc_includes pm_includes cd_includes ct_includes : Value}
    {f_pivot_column : Addr} {od_pivot_column an_pivot_column : Option Addr} {sl_pivot_column : Array (Option Value)} {oc_pivot_column kV_pivot_column dc_pivot_column pm_pivot_column cd_pivot_column ct_pivot_column : Value}
    {f__combined : Addr} {od__combined an__combined : Option Addr} {sl__combined : Array (Option Value)} {oc__combined kV__combined dc__combined pm__combined cd__combined ct__combined : Value}
    {f__less : Addr} {od__less an__less : Option Addr} {sl__less : Array (Option Value)} {oc__less kV__less dc__less pm__less cd__less ct__less : Value}
    {f__tails : Addr} {od__tails an__tails : Option Addr} {sl__tails : Array (Option Value)} {oc__tails kV__tails dc__tails pm__tails cd__tails ct__tails : Value}
    {f__enter : Addr} {od__enter an__enter : Option Addr} {sl__enter : Array (Option Value)} {oc__enter kV__enter dc__enter pm__enter cd__enter ct__enter : Value}
    {f__merge : Addr} {od__merge an__merge : Option Addr} {sl__merge : Array (Option Value)} {oc__merge kV__merge dc__merge pm__merge cd__merge ct__merge : Value}
    {f__lowered : Addr} {od__lowered an__lowered : Option Addr} {sl__lowered : Array (Option Value)} {oc__lowered kV__lowered dc__lowered pm__lowered cd__lowered ct__lowered : Value}
    {f_l_draw : Addr} {od_l_draw an_l_draw : Option Addr} {sl_l_draw : Array (Option Value)} {oc_l_draw kV_l_draw dc_l_draw pm_l_draw cd_l_draw ct_l_draw : Value}
    {f_l_plus : Addr} {od_l_plus an_l_plus : Option Addr} {sl_l_plus : Array (Option Value)} {oc_l_plus kV_l_plus dc_l_plus pm_l_plus cd_l_plus ct_l_plus : Value}
    {f_l_size : Addr} {od_l_size an_l_size : Option Addr} {sl_l_size : Array (Option Value)} {oc_l_size kV_l_size dc_l_size pm_l_size cd_l_size ct_l_size : Value}
    {f_l_basis : Addr} {od_l_basis an_l_basis : Option Addr} {sl_l_basis : Array (Option Value)} {oc_l_basis kV_l_basis dc_l_basis pm_l_basis cd_l_basis ct_l_basis : Value}
    {f_l_coordinates : Addr} {od_l_coordinates an_l_coordinates : Option Addr} {sl_l_coordinates : Array (Option Value)} {oc_l_coordinates kV_l_coordinates dc_l_coordinates pm_l_coordinates cd_l_coordinates ct_l_coordinates : Value}
    {f_l_lists_of : Addr} {od_l_lists_of an_l_lists_of : Option Addr} {sl_l_lists_of : Array (Option Value)} {oc_l_lists_of kV_l_lists_of dc_l_lists_of pm_l_lists_of cd_l_lists_of ct_l_lists_of : Value}
    {f_l_listed : Addr} {od_l_listed an_l_listed : Option Addr} {sl_l_listed : Array (Option Value)} {oc_l_listed kV_l_listed dc_l_listed pm_l_listed cd_l_listed ct_l_listed : Value}
    {f_law : Addr} {od_law an_law : Option Addr} {sl_law : Array (Option Value)} {oc_law kV_law dc_law pm_law cd_law ct_law : Value}
     
    (a_bezout : PySem.W.nsIn K mainGlobals "bezout" = some (some (.ref f_bezout)))
    (l_bezout : K.lookup f_bezout = some ⟨oc_bezout, od_bezout, .func (PySem.W.fnOf "bezout" "bezout" (defArgs st_bezout) (defBody st_bezout) (defScope st_bezout) .none kV_bezout dc_bezout pm_bezout an_bezout cd_bezout ct_bezout), sl_bezout⟩)
    (c_bezout : PySem.W.codeIn K cd_bezout "bezout" = true)
    (k_bezout : PySem.W.keepIn K (.ref f_bezout) = true)
    (a_hermite : PySem.W.nsIn K mainGlobals "hermite" = some (some (.ref f_hermite)))
    (l_hermite : K.lookup f_hermite = some ⟨oc_hermite, od_hermite, .func (PySem.W.fnOf "hermite" "hermite" (defArgs st_hermite) (defBody st_hermite) (defScope st_hermite) .none kV_hermite dc_hermite pm_hermite an_hermite cd_hermite ct_hermite), sl_hermite⟩)
    (c_hermite : PySem.W.codeIn K cd_hermite "hermite" = true)
    (k_hermite : PySem.W.keepIn K (.ref f_hermite) = true)
    (a_coordinates : PySem.W.nsIn K mainGlobals "coordinates" = some (some (.ref f_coordinates)))
    (l_coordinates : K.lookup f_coordinates = some ⟨oc_coordinates, od_coordinates, .func (PySem.W.fnOf "coordinates" "coordinates" (defArgs st_coordinates) (defBody st_coordinates) (defScope st_coordinates) .none kV_coordinates dc_coordinates pm_coordinates an_coordinates cd_coordinates ct_coordinates), sl_coordinates⟩)
    (c_coordinates : PySem.W.codeIn K cd_coordinates "coordinates" = true)
    (k_coordinates : PySem.W.keepIn K (.ref f_coordinates) = true)
    (a_contains : PySem.W.nsIn K mainGlobals "contains" = some (some (.ref f_contains)))
    (l_contains : K.lookup f_contains = some ⟨oc_contains, od_contains, .func (PySem.W.fnOf "contains" "contains" (defArgs st_contains) (defBody st_contains) (defScope st_contains) .none kV_contains dc_contains pm_contains an_contains cd_contains ct_contains), sl_contains⟩)
    (c_contains : PySem.W.codeIn K cd_contains "contains" = true)
    (k_contains : PySem.W.keepIn K (.ref f_contains) = true)
    (a_includes : PySem.W.nsIn K mainGlobals "includes" = some (some (.ref f_includes)))
    (l_includes : K.lookup f_includes = some ⟨oc_includes, od_includes, .func (PySem.W.fnOf "includes" "includes" (defArgs st_includes) (defBody st_includes) (defScope st_includes) .none kV_includes dc_includes pm_includes an_includes cd_includes ct_includes), sl_includes⟩)
    (c_includes : PySem.W.codeIn K cd_includes "includes" = true)
    (k_includes : PySem.W.keepIn K (.ref f_includes) = true)
    (a_pivot_column : PySem.W.nsIn K mainGlobals "pivot_column" = some (some (.ref f_pivot_column)))
    (l_pivot_column : K.lookup f_pivot_column = some ⟨oc_pivot_column, od_pivot_column, .func (PySem.W.fnOf "pivot_column" "pivot_column" (defArgs st_pivot_column) (defBody st_pivot_column) (defScope st_pivot_column) .none kV_pivot_column dc_pivot_column pm_pivot_column an_pivot_column cd_pivot_column ct_pivot_column), sl_pivot_column⟩)
    (c_pivot_column : PySem.W.codeIn K cd_pivot_column "pivot_column" = true)
    (k_pivot_column : PySem.W.keepIn K (.ref f_pivot_column) = true)
    (a__combined : PySem.W.nsIn K mainGlobals "_combined" = some (some (.ref f__combined)))
    (l__combined : K.lookup f__combined = some ⟨oc__combined, od__combined, .func (PySem.W.fnOf "_combined" "_combined" (defArgs st__combined) (defBody st__combined) (defScope st__combined) .none kV__combined dc__combined pm__combined an__combined cd__combined ct__combined), sl__combined⟩)
    (c__combined : PySem.W.codeIn K cd__combined "_combined" = true)
    (k__combined : PySem.W.keepIn K (.ref f__combined) = true)
    (a__less : PySem.W.nsIn K mainGlobals "_less" = some (some (.ref f__less)))
    (l__less : K.lookup f__less = some ⟨oc__less, od__less, .func (PySem.W.fnOf "_less" "_less" (defArgs st__less) (defBody st__less) (defScope st__less) .none kV__less dc__less pm__less an__less cd__less ct__less), sl__less⟩)
    (c__less : PySem.W.codeIn K cd__less "_less" = true)
    (k__less : PySem.W.keepIn K (.ref f__less) = true)
    (a__tails : PySem.W.nsIn K mainGlobals "_tails" = some (some (.ref f__tails)))
    (l__tails : K.lookup f__tails = some ⟨oc__tails, od__tails, .func (PySem.W.fnOf "_tails" "_tails" (defArgs st__tails) (defBody st__tails) (defScope st__tails) .none kV__tails dc__tails pm__tails an__tails cd__tails ct__tails), sl__tails⟩)
    (c__tails : PySem.W.codeIn K cd__tails "_tails" = true)
    (k__tails : PySem.W.keepIn K (.ref f__tails) = true)
    (a__enter : PySem.W.nsIn K mainGlobals "_enter" = some (some (.ref f__enter)))
    (l__enter : K.lookup f__enter = some ⟨oc__enter, od__enter, .func (PySem.W.fnOf "_enter" "_enter" (defArgs st__enter) (defBody st__enter) (defScope st__enter) .none kV__enter dc__enter pm__enter an__enter cd__enter ct__enter), sl__enter⟩)
    (c__enter : PySem.W.codeIn K cd__enter "_enter" = true)
    (k__enter : PySem.W.keepIn K (.ref f__enter) = true)
    (a__merge : PySem.W.nsIn K mainGlobals "_merge" = some (some (.ref f__merge)))
    (l__merge : K.lookup f__merge = some ⟨oc__merge, od__merge, .func (PySem.W.fnOf "_merge" "_merge" (defArgs st__merge) (defBody st__merge) (defScope st__merge) .none kV__merge dc__merge pm__merge an__merge cd__merge ct__merge), sl__merge⟩)
    (c__merge : PySem.W.codeIn K cd__merge "_merge" = true)
    (k__merge : PySem.W.keepIn K (.ref f__merge) = true)
    (a__lowered : PySem.W.nsIn K mainGlobals "_lowered" = some (some (.ref f__lowered)))
    (l__lowered : K.lookup f__lowered = some ⟨oc__lowered, od__lowered, .func (PySem.W.fnOf "_lowered" "_lowered" (defArgs st__lowered) (defBody st__lowered) (defScope st__lowered) .none kV__lowered dc__lowered pm__lowered an__lowered cd__lowered ct__lowered), sl__lowered⟩)
    (c__lowered : PySem.W.codeIn K cd__lowered "_lowered" = true)
    (k__lowered : PySem.W.keepIn K (.ref f__lowered) = true)
    (a_l_draw : PySem.W.nsIn K mainGlobals "_law_draw" = some (some (.ref f_l_draw)))
    (l_l_draw : K.lookup f_l_draw = some ⟨oc_l_draw, od_l_draw, .func (PySem.W.fnOf "_law_draw" "_law_draw" (defArgs st_l_draw) (defBody st_l_draw) (defScope st_l_draw) .none kV_l_draw dc_l_draw pm_l_draw an_l_draw cd_l_draw ct_l_draw), sl_l_draw⟩)
    (c_l_draw : PySem.W.codeIn K cd_l_draw "_law_draw" = true)
    (k_l_draw : PySem.W.keepIn K (.ref f_l_draw) = true)
    (a_l_plus : PySem.W.nsIn K mainGlobals "_law_plus" = some (some (.ref f_l_plus)))
    (l_l_plus : K.lookup f_l_plus = some ⟨oc_l_plus, od_l_plus, .func (PySem.W.fnOf "_law_plus" "_law_plus" (defArgs st_l_plus) (defBody st_l_plus) (defScope st_l_plus) .none kV_l_plus dc_l_plus pm_l_plus an_l_plus cd_l_plus ct_l_plus), sl_l_plus⟩)
    (c_l_plus : PySem.W.codeIn K cd_l_plus "_law_plus" = true)
    (k_l_plus : PySem.W.keepIn K (.ref f_l_plus) = true)
    (a_l_size : PySem.W.nsIn K mainGlobals "_law_size" = some (some (.ref f_l_size)))
    (l_l_size : K.lookup f_l_size = some ⟨oc_l_size, od_l_size, .func (PySem.W.fnOf "_law_size" "_law_size" (defArgs st_l_size) (defBody st_l_size) (defScope st_l_size) .none kV_l_size dc_l_size pm_l_size an_l_size cd_l_size ct_l_size), sl_l_size⟩)
    (c_l_size : PySem.W.codeIn K cd_l_size "_law_size" = true)
    (k_l_size : PySem.W.keepIn K (.ref f_l_size) = true)
    (a_l_basis : PySem.W.nsIn K mainGlobals "_law_basis" = some (some (.ref f_l_basis)))
    (l_l_basis : K.lookup f_l_basis = some ⟨oc_l_basis, od_l_basis, .func (PySem.W.fnOf "_law_basis" "_law_basis" (defArgs st_l_basis) (defBody st_l_basis) (defScope st_l_basis) .none kV_l_basis dc_l_basis pm_l_basis an_l_basis cd_l_basis ct_l_basis), sl_l_basis⟩)
    (c_l_basis : PySem.W.codeIn K cd_l_basis "_law_basis" = true)
    (k_l_basis : PySem.W.keepIn K (.ref f_l_basis) = true)
    (a_l_coordinates : PySem.W.nsIn K mainGlobals "_law_coordinates" = some (some (.ref f_l_coordinates)))
    (l_l_coordinates : K.lookup f_l_coordinates = some ⟨oc_l_coordinates, od_l_coordinates, .func (PySem.W.fnOf "_law_coordinates" "_law_coordinates" (defArgs st_l_coordinates) (defBody st_l_coordinates) (defScope st_l_coordinates) .none kV_l_coordinates dc_l_coordinates pm_l_coordinates an_l_coordinates cd_l_coordinates ct_l_coordinates), sl_l_coordinates⟩)
    (c_l_coordinates : PySem.W.codeIn K cd_l_coordinates "_law_coordinates" = true)
    (k_l_coordinates : PySem.W.keepIn K (.ref f_l_coordinates) = true)
    (a_l_lists_of : PySem.W.nsIn K mainGlobals "_law_lists_of" = some (some (.ref f_l_lists_of)))
    (l_l_lists_of : K.lookup f_l_lists_of = some ⟨oc_l_lists_of, od_l_lists_of, .func (PySem.W.fnOf "_law_lists_of" "_law_lists_of" (defArgs st_l_lists_of) (defBody st_l_lists_of) (defScope st_l_lists_of) .none kV_l_lists_of dc_l_lists_of pm_l_lists_of an_l_lists_of cd_l_lists_of ct_l_lists_of), sl_l_lists_of⟩)
    (c_l_lists_of : PySem.W.codeIn K cd_l_lists_of "_law_lists_of" = true)
    (k_l_lists_of : PySem.W.keepIn K (.ref f_l_lists_of) = true)
    (a_l_listed : PySem.W.nsIn K mainGlobals "_law_listed" = some (some (.ref f_l_listed)))
    (l_l_listed : K.lookup f_l_listed = some ⟨oc_l_listed, od_l_listed, .func (PySem.W.fnOf "_law_listed" "_law_listed" (defArgs st_l_listed) (defBody st_l_listed) (defScope st_l_listed) .none kV_l_listed dc_l_listed pm_l_listed an_l_listed cd_l_listed ct_l_listed), sl_l_listed⟩)
    (c_l_listed : PySem.W.codeIn K cd_l_listed "_law_listed" = true)
    (k_l_listed : PySem.W.keepIn K (.ref f_l_listed) = true)
    (a_law : PySem.W.nsIn K mainGlobals "law" = some (some (.ref f_law)))
    (l_law : K.lookup f_law = some ⟨oc_law, od_law, .func (PySem.W.fnOf "law" "law" (defArgs st_law) (defBody st_law) (defScope st_law) .none kV_law dc_law pm_law an_law cd_law ct_law), sl_law⟩)
    (c_law : PySem.W.codeIn K cd_law "law" = true)
    (k_law : PySem.W.keepIn K (.ref f_law) = true)
    (z_all : PySem.W.nsIn K mainGlobals "all" = some none)
    (z_any : PySem.W.nsIn K mainGlobals "any" = some none)
    (z_bool : PySem.W.nsIn K mainGlobals "bool" = some none)
    (z_divmod : PySem.W.nsIn K mainGlobals "divmod" = some none)
    (z_enumerate : PySem.W.nsIn K mainGlobals "enumerate" = some none)
    (z_int : PySem.W.nsIn K mainGlobals "int" = some none)
    (z_isinstance : PySem.W.nsIn K mainGlobals "isinstance" = some none)
    (z_len : PySem.W.nsIn K mainGlobals "len" = some none)
    (z_list : PySem.W.nsIn K mainGlobals "list" = some none)
    (z_range : PySem.W.nsIn K mainGlobals "range" = some none)
    (z_reversed : PySem.W.nsIn K mainGlobals "reversed" = some none)
    (z_str : PySem.W.nsIn K mainGlobals "str" = some none)
    (z_tuple : PySem.W.nsIn K mainGlobals "tuple" = some none)
    (z_zip : PySem.W.nsIn K mainGlobals "zip" = some none)
    (hP : P.given.tree = none)
    : ∃ fd : FuncData, (∀ (s : Shared) (v : Value), BindsTo s fd ⟨[v], []⟩ [("_law_script", v)]) ∧ Fun K "law" "law" st_law fa fd ∧ TopOkS P w K mg 37 ["_law_script", "_law_stream", "_law_size_here", "_law_basis_here", "_law_vectors", "_law_k", "_law_row", "_law_factors", "_law_vector", "_law_factor", "_law_at", "_law_beside", "_law_due", "_law_rows", "_law_handed", "_law_kept", "_law_found", "_law_other", "_law_inside"] "law" st_law fa (fun a ns H => SqL K H a (ns.map V.int)) := by
  have e := hfa.symm.trans (PySem.W.mg_of X G a_law)
  cases e
  have Z : Zs mg := ⟨PySem.W.mg_none_of X G z_all, PySem.W.mg_none_of X G z_any, PySem.W.mg_none_of X G z_bool, PySem.W.mg_none_of X G z_divmod, PySem.W.mg_none_of X G z_enumerate, PySem.W.mg_none_of X G z_int, PySem.W.mg_none_of X G z_isinstance, PySem.W.mg_none_of X G z_len, PySem.W.mg_none_of X G z_list, PySem.W.mg_none_of X G z_range, PySem.W.mg_none_of X G z_reversed, PySem.W.mg_none_of X G z_str, PySem.W.mg_none_of X G z_tuple, PySem.W.mg_none_of X G z_zip⟩
  have F_bezout := fun_mk (st := st_bezout) l_bezout c_bezout k_bezout
  have D_bezout : DefK K mg "bezout" st_bezout ["one", "other"] f_bezout _ := ⟨PySem.W.mg_of X G a_bezout, F_bezout, F_bezout.binds (ps := ["one", "other"]) fun _ _ _ _ _ _ us hl => match us, hl with | [_, _], _ => rfl⟩
  have F_hermite := fun_mk (st := st_hermite) l_hermite c_hermite k_hermite
  have D_hermite : DefK K mg "hermite" st_hermite ["rows", "size"] f_hermite _ := ⟨PySem.W.mg_of X G a_hermite, F_hermite, F_hermite.binds (ps := ["rows", "size"]) fun _ _ _ _ _ _ us hl => match us, hl with | [_, _], _ => rfl⟩
  have F_coordinates := fun_mk (st := st_coordinates) l_coordinates c_coordinates k_coordinates
  have D_coordinates : DefK K mg "coordinates" st_coordinates ["basis", "vector"] f_coordinates _ := ⟨PySem.W.mg_of X G a_coordinates, F_coordinates, F_coordinates.binds (ps := ["basis", "vector"]) fun _ _ _ _ _ _ us hl => match us, hl with | [_, _], _ => rfl⟩
  have F_contains := fun_mk (st := st_contains) l_contains c_contains k_contains
  have D_contains : DefK K mg "contains" st_contains ["basis", "vector"] f_contains _ := ⟨PySem.W.mg_of X G a_contains, F_contains, F_contains.binds (ps := ["basis", "vector"]) fun _ _ _ _ _ _ us hl => match us, hl with | [_, _], _ => rfl⟩
  have F_includes := fun_mk (st := st_includes) l_includes c_includes k_includes
  have D_includes : DefK K mg "includes" st_includes ["basis", "other"] f_includes _ := ⟨PySem.W.mg_of X G a_includes, F_includes, F_includes.binds (ps := ["basis", "other"]) fun _ _ _ _ _ _ us hl => match us, hl with | [_, _], _ => rfl⟩
  have F_pivot_column := fun_mk (st := st_pivot_column) l_pivot_column c_pivot_column k_pivot_column
  have D_pivot_column : DefK K mg "pivot_column" st_pivot_column ["row"] f_pivot_column _ := ⟨PySem.W.mg_of X G a_pivot_column, F_pivot_column, F_pivot_column.binds (ps := ["row"]) fun _ _ _ _ _ _ us hl => match us, hl with | [_], _ => rfl⟩
  have F__combined := fun_mk (st := st__combined) l__combined c__combined k__combined
  have D__combined : DefK K mg "_combined" st__combined ["factor", "row", "other_factor", "other"] f__combined _ := ⟨PySem.W.mg_of X G a__combined, F__combined, F__combined.binds (ps := ["factor", "row", "other_factor", "other"]) fun _ _ _ _ _ _ us hl => match us, hl with | [_, _, _, _], _ => rfl⟩
  have F__less := fun_mk (st := st__less) l__less c__less k__less
  have D__less : DefK K mg "_less" st__less ["row", "factor", "other"] f__less _ := ⟨PySem.W.mg_of X G a__less, F__less, F__less.binds (ps := ["row", "factor", "other"]) fun _ _ _ _ _ _ us hl => match us, hl with | [_, _, _], _ => rfl⟩
  have F__tails := fun_mk (st := st__tails) l__tails c__tails k__tails
  have D__tails : DefK K mg "_tails" st__tails ["rows", "left", "size"] f__tails _ := ⟨PySem.W.mg_of X G a__tails, F__tails, F__tails.binds (ps := ["rows", "left", "size"]) fun _ _ _ _ _ _ us hl => match us, hl with | [_, _, _], _ => rfl⟩
  have F__enter := fun_mk (st := st__enter) l__enter c__enter k__enter
  have D__enter : DefK K mg "_enter" st__enter ["steps", "row"] f__enter _ := ⟨PySem.W.mg_of X G a__enter, F__enter, F__enter.binds (ps := ["steps", "row"]) fun _ _ _ _ _ _ us hl => match us, hl with | [_, _], _ => rfl⟩
  have F__merge := fun_mk (st := st__merge) l__merge c__merge k__merge
  have D__merge : DefK K mg "_merge" st__merge ["steps", "column", "row"] f__merge _ := ⟨PySem.W.mg_of X G a__merge, F__merge, F__merge.binds (ps := ["steps", "column", "row"]) fun _ _ _ _ _ _ us hl => match us, hl with | [_, _, _], _ => rfl⟩
  have F__lowered := fun_mk (st := st__lowered) l__lowered c__lowered k__lowered
  have D__lowered : DefK K mg "_lowered" st__lowered ["row", "column", "steps"] f__lowered _ := ⟨PySem.W.mg_of X G a__lowered, F__lowered, F__lowered.binds (ps := ["row", "column", "steps"]) fun _ _ _ _ _ _ us hl => match us, hl with | [_, _, _], _ => rfl⟩
  have F_l_draw := fun_mk (st := st_l_draw) l_l_draw c_l_draw k_l_draw
  have D_l_draw : DefK K mg "_law_draw" st_l_draw ["_law_stream", "_law_count"] f_l_draw _ := ⟨PySem.W.mg_of X G a_l_draw, F_l_draw, F_l_draw.binds (ps := ["_law_stream", "_law_count"]) fun _ _ _ _ _ _ us hl => match us, hl with | [_, _], _ => rfl⟩
  have F_l_plus := fun_mk (st := st_l_plus) l_l_plus c_l_plus k_l_plus
  have D_l_plus : DefK K mg "_law_plus" st_l_plus ["_law_factor", "_law_one", "_law_other"] f_l_plus _ := ⟨PySem.W.mg_of X G a_l_plus, F_l_plus, F_l_plus.binds (ps := ["_law_factor", "_law_one", "_law_other"]) fun _ _ _ _ _ _ us hl => match us, hl with | [_, _, _], _ => rfl⟩
  have F_l_size := fun_mk (st := st_l_size) l_l_size c_l_size k_l_size
  have D_l_size : DefK K mg "_law_size" st_l_size ["_law_stream"] f_l_size _ := ⟨PySem.W.mg_of X G a_l_size, F_l_size, F_l_size.binds (ps := ["_law_stream"]) fun _ _ _ _ _ _ us hl => match us, hl with | [_], _ => rfl⟩
  have F_l_basis := fun_mk (st := st_l_basis) l_l_basis c_l_basis k_l_basis
  have D_l_basis : DefK K mg "_law_basis" st_l_basis ["_law_stream", "_law_size_here"] f_l_basis _ := ⟨PySem.W.mg_of X G a_l_basis, F_l_basis, F_l_basis.binds (ps := ["_law_stream", "_law_size_here"]) fun _ _ _ _ _ _ us hl => match us, hl with | [_, _], _ => rfl⟩
  have F_l_coordinates := fun_mk (st := st_l_coordinates) l_l_coordinates c_l_coordinates k_l_coordinates
  have D_l_coordinates : DefK K mg "_law_coordinates" st_l_coordinates ["_law_basis_here", "_law_vector"] f_l_coordinates _ := ⟨PySem.W.mg_of X G a_l_coordinates, F_l_coordinates, F_l_coordinates.binds (ps := ["_law_basis_here", "_law_vector"]) fun _ _ _ _ _ _ us hl => match us, hl with | [_, _], _ => rfl⟩
  have F_l_lists_of := fun_mk (st := st_l_lists_of) l_l_lists_of c_l_lists_of k_l_lists_of
  have D_l_lists_of : DefK K mg "_law_lists_of" st_l_lists_of ["_law_thing"] f_l_lists_of _ := ⟨PySem.W.mg_of X G a_l_lists_of, F_l_lists_of, F_l_lists_of.binds (ps := ["_law_thing"]) fun _ _ _ _ _ _ us hl => match us, hl with | [_], _ => rfl⟩
  have F_l_listed := fun_mk (st := st_l_listed) l_l_listed c_l_listed k_l_listed
  have D_l_listed : DefK K mg "_law_listed" st_l_listed ["_law_stream", "_law_thing"] f_l_listed _ := ⟨PySem.W.mg_of X G a_l_listed, F_l_listed, F_l_listed.binds (ps := ["_law_stream", "_law_thing"]) fun _ _ _ _ _ _ us hl => match us, hl with | [_, _], _ => rfl⟩
  have F_law := fun_mk (st := st_law) l_law c_law k_law
  have D_law : DefK K mg "law" st_law ["_law_script"] fa _ := ⟨PySem.W.mg_of X G a_law, F_law, F_law.binds (ps := ["_law_script"]) fun _ _ _ _ _ _ us hl => match us, hl with | [_], _ => rfl⟩

  refine ⟨PySem.W.fnOf "law" "law" (defArgs st_law) (defBody st_law) (defScope st_law) .none kV_law dc_law pm_law an_law cd_law ct_law, fun s v => .of_eq rfl, F_law, fun cd base s H a ns KB NB NS hr hS => ?_⟩

  have G__less : FnOk P w K mg base CX0 1 f__less _ ["row", "factor", "other"] (sp__less K) := ok__less (P := P) (w := w) (base := base)  D__less Z  
  have G_bezout : FnOk P w K mg base CX0 33 f_bezout _ ["one", "other"] (sp_bezout K) := ok_bezout (P := P) (w := w) (base := base)  D_bezout Z  NS hP
  have G__combined : FnOk P w K mg base CX0 1 f__combined _ ["factor", "row", "other_factor", "other"] (sp__combined K) := ok__combined (P := P) (w := w) (base := base)  D__combined Z  
  have G__lowered : FnOk P w K mg base CX0 33 f__lowered _ ["row", "column", "steps"] (sp__lowered K) := ok__lowered (P := P) (w := w) (base := base)  D__lowered Z D__less G__less NS hP
  have G__merge : FnOk P w K mg base CX0 34 f__merge _ ["steps", "column", "row"] (sp__merge K) := ok__merge (P := P) (w := w) (base := base)  D__merge Z D_bezout G_bezout D__combined G__combined D__lowered G__lowered NS hP
  have G__enter : FnOk P w K mg base CX0 35 f__enter _ ["steps", "row"] (sp__enter K) := ok__enter (P := P) (w := w) (base := base)  D__enter Z D__less G__less D__merge G__merge D__lowered G__lowered NS hP
  have G__tails : FnOk P w K mg base CX0 36 f__tails _ ["rows", "left", "size"] (sp__tails K) := ok__tails (P := P) (w := w) (base := base)  D__tails Z D__enter G__enter D__lowered G__lowered NS hP
  have G_hermite : FnOk P w K mg base CX0 37 f_hermite _ ["rows", "size"] (sp_hermite K) := ok_hermite (P := P) (w := w) (base := base)  D_hermite Z D__tails G__tails 
  have G_pivot_column : FnOk P w K mg base CX0 1 f_pivot_column _ ["row"] (sp_pivot_columnN K) := ok_pivot_column (P := P) (w := w) (base := base)  D_pivot_column Z  
  have G_coordinates : FnOk P w K mg base CX0 33 f_coordinates _ ["basis", "vector"] (sp_coordinates K) := ok_coordinates (P := P) (w := w) (base := base)  D_coordinates Z D_pivot_column G_pivot_column D__less G__less NS hP
  have G_contains : FnOk P w K mg base CX0 34 f_contains _ ["basis", "vector"] (sp_contains K) := ok_contains (P := P) (w := w) (base := base)  D_contains Z D_coordinates G_coordinates 
  have G_includes : FnOk P w K mg base CX0 35 f_includes _ ["basis", "other"] (sp_includes K) := ok_includes (P := P) (w := w) (base := base)  D_includes Z D_contains G_contains 
  have G_l_draw : FnOk P w K mg base CX0 1 f_l_draw _ ["_law_stream", "_law_count"] (sp_l_draw K) := ok_l_draw (P := P) (w := w) (base := base)  D_l_draw Z  
  have G_l_plus : FnOk P w K mg base CX0 1 f_l_plus _ ["_law_factor", "_law_one", "_law_other"] (sp_l_plus K) := ok_l_plus (P := P) (w := w) (base := base)  D_l_plus Z  
  have G_l_size : FnOk P w K mg base CX0 2 f_l_size _ ["_law_stream"] (sp_l_size K) := ok_l_size (P := P) (w := w) (base := base)  D_l_size Z D_l_draw G_l_draw 
  have G_l_basis : FnOk P w K mg base CX0 2 f_l_basis _ ["_law_stream", "_law_size_here"] (sp_l_basisB K) := ok_l_basis (P := P) (w := w) (base := base)  D_l_basis Z D_l_draw G_l_draw D_l_plus G_l_plus 
  have G_l_coordinates : FnOk P w K mg base CX0 33 f_l_coordinates _ ["_law_basis_here", "_law_vector"] (sp_l_coordinates K) := ok_l_coordinates (P := P) (w := w) (base := base)  D_l_coordinates Z D_l_plus G_l_plus NS hP
  have G_l_lists_of : FnOk P w K mg base CX0 3 f_l_lists_of _ ["_law_thing"] (sp_l_lists_ofN K 3) := ok_l_lists_ofN (P := P) (w := w) (base := base) D_l_lists_of Z 3
  have G_l_listed : FnOk P w K mg base CX0 4 f_l_listed _ ["_law_stream", "_law_thing"] (sp_l_listedM K) := ok_l_listed (P := P) (w := w) (base := base)  D_l_listed Z D_l_draw G_l_draw D_l_lists_of G_l_lists_of 
  exact top_law (P := P) (w := w) (base := base)  Z D_hermite G_hermite D_coordinates G_coordinates D_contains G_contains D_includes G_includes D_l_draw G_l_draw D_l_plus G_l_plus D_l_size G_l_size D_l_basis G_l_basis D_l_coordinates G_l_coordinates D_l_listed G_l_listed  hr hS
theorem walk {l : PySem.W.OpenLaw} {q : Program} {loose : List Str} {XP : (Str → Option Value) → Heap → Prop} {YP : World → Heap → Prop} {d : DefRec} {K : Params → PySem.W.Frag} (hn : l.most = some 63) (hdf : d.params.defaults = []) (hnm : d.name = "law") (hi : importsNone q = true)
    (hY : ∀ (w : World) (h : Heap), YP w h → (K w.params).In h)
    (F : ∀ (w : World) (mg : Str → Option Value) (fa : Addr) (h : Heap), (K w.params).In h → h.Ns mainGlobals mg → mg "law" = some (.ref fa) →
      ∃ fd : FuncData, (∀ (s : Shared) (v : Value), BindsTo s fd ⟨[v], []⟩ [("_law_script", v)]) ∧ Fun (K w.params) "law" "law" st_law fa fd ∧ TopOkS l.prog w (K w.params) mg 37 ["_law_script", "_law_stream", "_law_size_here", "_law_basis_here", "_law_vectors", "_law_k", "_law_row", "_law_factors", "_law_vector", "_law_factor", "_law_at", "_law_beside", "_law_due", "_law_rows", "_law_handed", "_law_kept", "_law_found", "_law_other", "_law_inside"] "law" st_law fa (fun a ns H => SqL (K w.params) H a (ns.map V.int))) :
    PySem.W.WalkO q loose XP YP l.row.toRowW d [] (fun f vs => PySem.call f vs) :=
  top_walkS hi (n := 63) (k := 37) (N := ["_law_script", "_law_stream", "_law_size_here", "_law_basis_here", "_law_vectors", "_law_k", "_law_row", "_law_factors", "_law_vector", "_law_factor", "_law_at", "_law_beside", "_law_due", "_law_rows", "_law_handed", "_law_kept", "_law_found", "_law_other", "_law_inside"]) (p := "_law_script") (st := st_law) (ok := fun K a ns H => SqL K H a (ns.map V.int)) hn (by decide) hdf sc_law ⟨rfl, by decide, by decide⟩ hY (fun w mg fa h a b c => by rw [hnm] at c ⊢; exact F w mg fa h a b c) fun _ _ _ _ _ h => h
end K06
open PySem PySem.W PyProof.Rows in
set_option maxRecDepth 100000 in
set_option maxHeartbeats 0 in
theorem PySem.Challenge.cw_hushgrain_k06_members_of_a_lattice_holds : PySem.Challenge.rw_hushgrain_k06_members_of_a_lattice.Holds := by
  w_on; o_law; k_head; (case hw => w_witness2)
  k_fill
  refine K06.walk (l := PySem.Challenge.rw_hushgrain_k06_members_of_a_lattice) rfl rfl rfl (by decide) (fun w h Y => PySem.W.kIn_of Y) ?F
  case F =>
    intro w mg fa h KX G hmg
    refine' K06.all_mk KX G hmg ?a_bezout ?l_bezout ?c_bezout ?k_bezout ?a_hermite ?l_hermite ?c_hermite ?k_hermite ?a_coordinates ?l_coordinates ?c_coordinates ?k_coordinates ?a_contains ?l_contains ?c_contains ?k_contains ?a_includes ?l_includes ?c_includes ?k_includes ?a_pivot_column ?l_pivot_column ?c_pivot_column ?k_pivot_column ?a__combined ?l__combined ?c__combined ?k__combined ?a__less ?l__less ?c__less ?k__less ?a__tails ?l__tails ?c__tails ?k__tails ?a__enter ?l__enter ?c__enter ?k__enter ?a__merge ?l__merge ?c__merge ?k__merge ?a__lowered ?l__lowered ?c__lowered ?k__lowered ?a_l_draw ?l_l_draw ?c_l_draw ?k_l_draw ?a_l_plus ?l_l_plus ?c_l_plus ?k_l_plus ?a_l_size ?l_l_size ?c_l_size ?k_l_size ?a_l_basis ?l_l_basis ?c_l_basis ?k_l_basis ?a_l_coordinates ?l_l_coordinates ?c_l_coordinates ?k_l_coordinates ?a_l_lists_of ?l_l_lists_of ?c_l_lists_of ?k_l_lists_of ?a_l_listed ?l_l_listed ?c_l_listed ?k_l_listed ?a_law ?l_law ?c_law ?k_law ?z_all ?z_any ?z_bool ?z_divmod ?z_enumerate ?z_int ?z_isinstance ?z_len ?z_list ?z_range ?z_reversed ?z_str ?z_tuple ?z_zip ?hP
    (case a_bezout => k_is)
    (case l_bezout => k_is)
    (case c_bezout => k_is)
    (case k_bezout => k_is)
    (case a_hermite => k_is)
    (case l_hermite => k_is)
    (case c_hermite => k_is)
    (case k_hermite => k_is)
    (case a_coordinates => k_is)
    (case l_coordinates => k_is)
    (case c_coordinates => k_is)
    (case k_coordinates => k_is)
    (case a_contains => k_is)
    (case l_contains => k_is)
    (case c_contains => k_is)
    (case k_contains => k_is)
    (case a_includes => k_is)
    (case l_includes => k_is)
    (case c_includes => k_is)
    (case k_includes => k_is)
    (case a_pivot_column => k_is)
    (case l_pivot_column => k_is)
    (case c_pivot_column => k_is)
    (case k_pivot_column => k_is)
    (case a__combined => k_is)
    (case l__combined => k_is)
    (case c__combined => k_is)
    (case k__combined => k_is)
    (case a__less => k_is)
    (case l__less => k_is)
    (case c__less => k_is)
    (case k__less => k_is)
    (case a__tails => k_is)
    (case l__tails => k_is)
    (case c__tails => k_is)
    (case k__tails => k_is)
    (case a__enter => k_is)
    (case l__enter => k_is)
    (case c__enter => k_is)
    (case k__enter => k_is)
    (case a__merge => k_is)
    (case l__merge => k_is)
    (case c__merge => k_is)
    (case k__merge => k_is)
    (case a__lowered => k_is)
    (case l__lowered => k_is)
    (case c__lowered => k_is)
    (case k__lowered => k_is)
    (case a_l_draw => k_is)
    (case l_l_draw => k_is)
    (case c_l_draw => k_is)
    (case k_l_draw => k_is)
    (case a_l_plus => k_is)
    (case l_l_plus => k_is)
    (case c_l_plus => k_is)
    (case k_l_plus => k_is)
    (case a_l_size => k_is)
    (case l_l_size => k_is)
    (case c_l_size => k_is)
    (case k_l_size => k_is)
    (case a_l_basis => k_is)
    (case l_l_basis => k_is)
    (case c_l_basis => k_is)
    (case k_l_basis => k_is)
    (case a_l_coordinates => k_is)
    (case l_l_coordinates => k_is)
    (case c_l_coordinates => k_is)
    (case k_l_coordinates => k_is)
    (case a_l_lists_of => k_is)
    (case l_l_lists_of => k_is)
    (case c_l_lists_of => k_is)
    (case k_l_lists_of => k_is)
    (case a_l_listed => k_is)
    (case l_l_listed => k_is)
    (case c_l_listed => k_is)
    (case k_l_listed => k_is)
    (case a_law => k_is)
    (case l_law => k_is)
    (case c_law => k_is)
    (case k_law => k_is)
    (case z_all => k_is)
    (case z_any => k_is)
    (case z_bool => k_is)
    (case z_divmod => k_is)
    (case z_enumerate => k_is)
    (case z_int => k_is)
    (case z_isinstance => k_is)
    (case z_len => k_is)
    (case z_list => k_is)
    (case z_range => k_is)
    (case z_reversed => k_is)
    (case z_str => k_is)
    (case z_tuple => k_is)
    (case z_zip => k_is)
    (case hP => rfl)
#print axioms PySem.Challenge.cw_hushgrain_k06_members_of_a_lattice_holds
