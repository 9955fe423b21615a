import PyProof.Rows.All
import Wide.All
import OpenK.AllK
import Wide.FinOn
import KE.KExcInit
import KE.KExcIs
import HandS.ForExc
import HandS.ExcInit
import HandS.IsInst
import HandS.ExcValue
import HandS.ForMost
import HandS.EndBits
import HandS.Conv
import HandS.Evl
import KE.GoesEnum
import HandS.Text
import HandS.Iter
import HandS.Comp
import HandS.Walk
import PySem.Challenge.RW_holdhouse_k05_rows_that_are_none
import HandS.ExcCtx
import HandS.HotCalls
import HandS.Words
import HandS.FStr
import HandS.Star
import HandS.Defaults
import HandS.Property
import HandS.RaiseMore
import KE.KTryMore
import HandS.Lambda
import KE.KNestM
import HandS.Head0
import HandS.Head1
import HandS.Head2
import HandS.HeadHook1
import HandS.HeadHook2
import HandS.HeadHook3
import HandS.HeadHook4
set_option Elab.async false
set_option maxRecDepth 100000
set_option maxHeartbeats 4000000
/-! An own exception class whose __init__ stores its parameters, called with positional values or by keywords. -/
namespace XC
open PySem PySem.W PySem.Calls
section
variable {prog : Program} {w : World} {A : Around} {E : Value → Shared → Prop} {R : Result → Shared → Prop}
  {h : Heap} {g : Array GenState} {d : Drawn} {t : Nat} {os : OsState} {nm q : Str} {C N : Addr}
  {bs bm bmB : List Value} {hdct : Bool} {sn : List Str} {sub : List Value} {ab : Bool} {col : Option Bool}
  {dd : Option Addr} {k0 k1 k2 k3 k5 : Option Value} {B newId initId : String} {rest : List Value}
  {kw : List (Str × Value)}

theorem newChecked (F : ExcBaseFacts B newId initId bmB)
    (hT : ∀ X : String, bm.contains (.type X) = bmB.contains (.type X)) {Q : Unit → Shared → Prop}
    (hC : h.get? C = some (excClassObj nm q C N bs bm hdct sn sub ab col dd k0 k1 k2 k3 k5 newId))
    (hq : Q () ⟨h, g, d, t, os⟩) :
    wpAny (model prog w) A (checkBuiltinCall newId ⟨.ref C :: rest, kw⟩) Q E ⟨h, g, d, t, os⟩ := by
  have inB : (Value.ref C :: bm).contains (.type B) = true := by
    rw [List.contains_cons, hT, F.hasB, Bool.or_true]
  have hns := F.noStar
  simp only [checkBuiltinCall, F.newKind, F.newSplit, F.newRow]
  repeat (first
    | refine wpAny_loadPart_at hC ?_
    | (refine wpAny_isSubtype_exc hC ?_; rw [inB])
    | refine wpAny_staticBase_exc hC ?_
    | refine wpAny_madeBy_exc hC ?_
    | simp only [bne_self_eq_false, Bool.false_eq_true, if_false]
    | wp_step)
  exact hq

theorem newMade (F : ExcBaseFacts B newId initId bmB)
    (hT : ∀ X : String, bm.contains (.type X) = bmB.contains (.type X))
    (hC : h.get? C = some (excClassObj nm q C N bs bm hdct sn sub ab col dd k0 k1 k2 k3 k5 newId))
    (hq : R (.ok (.ret (.ref (h.objs.size + 1))))
      ⟨(h.push (kdv_tup rest)).push (HandSPX.excO C h.objs.size), g, d, t, os⟩)
    (hrest : rest.length ≤ sizeLine) :
    codeAny (model prog w) A (.builtin newId ⟨.ref C :: rest, kw⟩) R ⟨h, g, d, t, os⟩ := by
  have hends := F.ends
  have inB : (Value.ref C :: bm).contains (.type B) = true := by
    rw [List.contains_cons, hT, F.hasB, Bool.or_true]
  have noA : (Value.ref C :: bm).contains (.type "AttributeError") = false := by
    rw [List.contains_cons, hT, F.noAttr]
    rfl
  have noN : (Value.ref C :: bm).contains (.type "NameError") = false := by
    rw [List.contains_cons, hT, F.noName]
    rfl
  refine codeAny_builtinAt F.entry ?_
  unfold Builtin.«BaseException.__new__»
  refine PySem.wpAt_bind ?_
  show wpAt _ _ _ (stack >>= _) _ _ _
  refine PySem.wpAt_bind (PySem.wpAt_stack fun p below => PySem.wpAt_of_wpAny ?_)
  wp_walk
  refine PySem.wpAt_of_wpAny ?_
  rw [F.owner]
  repeat (first
    | with_reducible refine wpAny_madeHere_exc F.canon hC ?_
    | with_reducible refine wpAny_loadPart_at hC ?_
    | (with_reducible refine wpAny_isSubtype_exc hC ?_; first | rw [inB] | rw [noA] | rw [noN])
    | wp_step)
  show R _ _
  rw [Heap.size_push]
  exact hq

theorem typeCalled (F : ExcBaseFacts B newId initId bmB)
    (hT : ∀ X : String, bm.contains (.type X) = bmB.contains (.type X)) {fI : Addr} {Q : Fin → Shared → Prop}
    (hC : h.get? C = some (excClassObj nm q C N bs bm hdct sn sub ab col dd k0 k1 k2 k3 k5 newId))
    (hi : Looks (model prog w) h (typeLookup (.ref C) "__init__") (some (.ref fI)))
    (hb : ∀ self, Looks (model prog w) h (bindSpecial (.ref fI) self) (.ref fI, [self]))
    (hrest : rest.length ≤ sizeLine)
    (hq : codeAny (model prog w) A (.call (.ref fI) ⟨.ref (h.objs.size + 1) :: rest, kw⟩)
      (fun r s' => match r with
        | .ok (.ret v) => v = .none ∧ Q (.done (.ret (.ref (h.objs.size + 1)))) s'
        | .ok _ => False
        | .error e => E e s')
      ⟨(h.push (kdv_tup rest)).push (HandSPX.excO C h.objs.size), g, d, t, os⟩) :
    wpAny (model prog w) A (Builtin.«type.__call__» ⟨.ref C :: rest, kw⟩) Q E ⟨h, g, d, t, os⟩ := by
  repeat (first
    | with_reducible refine wpAny_loadPart_at hC ?_
    | with_reducible refine wpAny_madeBy_exc hC ?_
    | wp_step)
  refine codeAny_call_builtin_code (Code.quiet_builtin _ F.quiet) (newChecked F hT hC ?_)
  refine newMade F hT hC ?_ hrest
  show wpAny _ _ _ _ _ _
  have k : ∀ b o, h.get? b = some o →
      ((h.push (kdv_tup rest)).push (HandSPX.excO C h.objs.size)).get? b = some o :=
    fun b o e => Heap.get?_push_of_some _ (Heap.get?_push_of_some _ e)
  have hC2 := k _ _ hC
  have there : ((h.push (kdv_tup rest)).push (HandSPX.excO C h.objs.size)).get? (h.objs.size + 1) =
      some (HandSPX.excO C h.objs.size) := by heap_get
  have selfIn : (Value.ref C :: bm).contains (.ref C) = true := by simp
  have i1 := hi.keeps k
  have b1 := (hb (.ref (h.objs.size + 1))).keeps k
  unfold isInstance
  repeat (first
    | with_reducible refine wpAny_loadPart_at there ?_
    | (with_reducible refine wpAny_isSubtype_exc hC2 ?_; rw [selfIn])
    | wp_step)
  show wpAny _ _ (typeLookup (.ref C) _) _ _ _
  refine i1.at ?_
  refine wpAny_holding (wpAny_bind (b1.at ?_))
  refine wpAny_bind (wpAny_call (codeAny_mono hq fun r s' z => ?_))
  rcases r with e | (v | _ | _ | _) <;> first | exact z | exact z.elim | skip
  obtain ⟨rfl, z⟩ := z
  first
    | exact wpAny_pure (wpAny_pure z)
    | (wp_walk; exact z)

theorem typeChecked {M : Model} {Q : Unit → Shared → Prop}
    (hC : h.get? C = some (excClassObj nm q C N bs bm hdct sn sub ab col dd k0 k1 k2 k3 k5 newId))
    (hq : Q () ⟨h, g, d, t, os⟩) :
    wpAny M A (checkBuiltinCall "type.__call__" ⟨.ref C :: rest, kw⟩) Q E ⟨h, g, d, t, os⟩ := by
  have f3 := tc_sub
  have hty : (⟨h, g, d, t, os⟩ : Shared).TypeIs (.ref C) "type" := ⟨_, hC, rfl⟩
  simp only [checkBuiltinCall, tc_kind, tc_split]
  repeat (any_goals (first
    | assumption
    | with_reducible refine wpAny_loadPart_at hC ?_
    | with_reducible refine wpAny_onRaise ?_
    | with_reducible refine wpAny_map ?_
    | wp_step))

theorem called (F : ExcBaseFacts B newId initId bmB)
    (hT : ∀ X : String, bm.contains (.type X) = bmB.contains (.type X)) {fI : Addr}
    (hC : h.get? C = some (excClassObj nm q C N bs bm hdct sn sub ab col dd k0 k1 k2 k3 k5 newId))
    (hi : Looks (model prog w) h (typeLookup (.ref C) "__init__") (some (.ref fI)))
    (hb : ∀ self, Looks (model prog w) h (bindSpecial (.ref fI) self) (.ref fI, [self]))
    (hrest : rest.length ≤ sizeLine)
    (hq : codeAny (model prog w) (A.under (.builtin "type.__call__" ⟨.ref C :: rest, kw⟩))
      (.call (.ref fI) ⟨.ref (h.objs.size + 1) :: rest, kw⟩) (InitBack (h.objs.size + 1) R)
      ⟨(h.push (kdv_tup rest)).push (HandSPX.excO C h.objs.size), g, d, t, os⟩) :
    codeAny (model prog w) A (.call (.ref C) ⟨rest, kw⟩) R ⟨h, g, d, t, os⟩ := by
  have f1 := tc_lookup
  have f2 := tc_bind (.ref C)
  have hty : (⟨h, g, d, t, os⟩ : Shared).TypeIs (.ref C) "type" := ⟨_, hC, rfl⟩
  refine codeAny_of_tree ?_
  show wpAny _ _ (callAny (.ref C) _) _ _ _
  repeat (any_goals (first
    | assumption
    | with_reducible refine wpAny_loadPart_at hC ?_
    | wp_step))
  refine ⟨rfl, ?_⟩
  refine codeAny_call_builtin_at (Code.quiet_builtin _ (by decide +kernel)) entry_typeCall
    (typeChecked hC (typeCalled F hT hC hi hb hrest ?_))
  refine codeAny_mono hq fun r s' z => ?_
  rcases r with e | (v | _ | _ | _) <;> exact z
end
end XC

set_option Elab.async false
set_option maxRecDepth 100000
set_option maxHeartbeats 4000000
namespace XC
open PySem PySem.W PySem.Calls PyProof.Rows
open Builtin.ObjectAttr
/-- what the written part says of an own exception class at C, over the built-in class B -/
structure EC (K : Frag) (C : Addr) (B newId initId : String) (bmB : List Value) : Prop where
  base : ExcBaseFacts B newId initId bmB
  store : StoreFacts B bmB "object.__setattr__" "object"
  ini : excInitIn K C bmB newId = true
  over : excOver K C bmB = true
  sa : findIn K (.ref C) "__setattr__" = some (some (.builtin "object.__setattr__"))
  ga : findIn K (.ref C) "__getattribute__" = some (some (.builtin "BaseException.__getattribute__"))
  gg : findIn K (.ref C) "__getattr__" = some none
  kC : keepIn K (.ref C) = true
  exC : subIn K (.ref C) (.type "BaseException") = some true
  hd : hasDictIn K C = true
section
variable {prog : Program} {w : World} {A : Around} {E : Value → Shared → Prop} {R : Result → Shared → Prop}
  {K : Frag} {C : Addr} {B newId initId : String} {bmB : List Value} {s : Shared}
  {hp : Heap} {g : Array GenState} {d : Drawn} {t : Nat} {os : OsState}

/-- the first field of an exception without a dict -/
theorem storeNew (T : EC K C B newId initId bmB) {name : Str} {tk : Tok} {v : Value} {x : Addr} {fv : Array Value}
    (X : K.In hp) (hx : hp.get? x = some { cls := .ref C, data := .fields fv })
    (ha : findIn K (.ref C) name = some none)
    (hq : ∀ h' tk' dx, (∀ b o, b ≠ x → hp.get? b = some o → h'.get? b = some o) → hp.objs.size ≤ dx → dx ≠ x →
      h'.get? x = some { cls := .ref C, dict := some dx, data := .fields fv } →
      h'.Ns1 dx (fun y => if y = name then some v else none) → R (.ok (.ret .none)) ⟨h', g, d, tk', os⟩) :
    codeAny (model prog w) A (.call (.builtin "object.__setattr__") ⟨[.ref x, .str name tk, v], []⟩) R ⟨hp, g, d, t, os⟩ := by
  have I : InstAt hp x { cls := .ref C, data := .fields fv } C none := ⟨hx, rfl, rfl, trivial⟩
  have hxs : x ≠ hp.objs.size := Nat.ne_of_lt (Heap.lt_size hx)
  obtain ⟨cd, hcd, hh⟩ := any_some T.hd
  have hcls : Looks (model prog w) hp (classData C) cd := looks_clsIn X hcd
  refine osa_openX (r := none) T.store X I T.over (by unfold takerIn; rw [ha]; rfl) fun b => ?_
  show wpAny _ _ (storeInOwnDict (.ref x) (.ref C) (.str name tk) name v b) _ _ _
  obtain ⟨nm, bs, mro, ns, qn, hd, sn, sb, ab, col, del⟩ := cd
  dsimp only at hh
  subst hh
  unfold storeInOwnDict ownDictForStores
  repeat (first
    | with_reducible refine HandSPX.store_in_new ?_ ?_
    | with_reducible refine wpAny_loadPart_at hx ?_
    | with_reducible refine hcls.at ?_
    | wp_step)
  · exact ⟨_, #[], _, (Heap.get?_update_ne _ _ _ _ hxs.symm).trans (Heap.get?_push_at rfl rfl), rfl,
      fun e he => absurd he (by simp), fun _ => rfl⟩
  · intro h' tk' hn' hs
    have hx1 : (hp.push { cls := .type "dict", data := .dict #[] }).get? x = some { cls := .ref C, data := .fields fv } :=
      Heap.get?_push_of_some _ hx
    refine hq h' tk' hp.objs.size (fun b o hb ho => ?_) (Nat.le_refl _) hxs.symm ?_ hn'
    · refine (hs.2 b (Nat.ne_of_lt (Heap.lt_size ho))).trans ?_
      exact (Heap.get?_update_ne _ _ _ _ hb).trans (Heap.get?_push_of_some _ ho)
    · refine (hs.2 x hxs).trans ?_
      exact Heap.get?_update_self _ hx1 rfl

/-- a further field -/
theorem storeMore (T : EC K C B newId initId bmB) {name : Str} {tk : Tok} {v : Value} {x dx : Addr} {fv : Array Value}
    {m0 : Str → Option Value} {nl : List Str}
    (X : K.In hp) (hx : hp.get? x = some { cls := .ref C, dict := some dx, data := .fields fv }) (hns : hp.Ns1 dx m0)
    (hw : Within m0 nl) (hz : nl.length ≤ 1000) (ha : findIn K (.ref C) name = some none)
    (hq : ∀ h' tk', (∀ b o, b ≠ dx → hp.get? b = some o → h'.get? b = some o) →
      h'.Ns1 dx (fun y => if y = name then some v else m0 y) → R (.ok (.ret .none)) ⟨h', g, d, tk', os⟩) :
    codeAny (model prog w) A (.call (.builtin "object.__setattr__") ⟨[.ref x, .str name tk, v], []⟩) R ⟨hp, g, d, t, os⟩ := by
  obtain ⟨oD, esD, epD, hoD, hdD, _⟩ := hns.count hw
  have I : InstAt hp x { cls := .ref C, dict := some dx, data := .fields fv } C (some oD) := ⟨hx, rfl, rfl, hoD⟩
  obtain ⟨cd, hcd, hh⟩ := any_some T.hd
  have hcls : Looks (model prog w) hp (classData C) cd := looks_clsIn X hcd
  refine osa_openX (r := none) T.store X I T.over (by unfold takerIn; rw [ha]; rfl) fun b => ?_
  show wpAny _ _ (storeInOwnDict (.ref x) (.ref C) (.str name tk) name v b) _ _ _
  obtain ⟨nm, bs, mro, ns, qn, hd, sn, sb, ab, col, del⟩ := cd
  dsimp only at hh
  subst hh
  unfold storeInOwnDict ownDictForStores
  repeat (first
    | with_reducible refine OEX.store_in_old hns hw hz ?_
    | with_reducible refine wpAny_loadPart_at hx ?_
    | with_reducible refine hcls.at ?_
    | wp_step)
  intro h' tk' hn' hs
  exact hq h' tk' (fun b o hb ho => (hs.2 b hb).trans ho) hn'

/-- the call of the class, down to its __init__ -/
theorem madeBy {fI : Addr} {rest : List Value} {kw : List (Str × Value)} (T : EC K C B newId initId bmB) (X : K.In s.heap)
    (iC : findIn K (.ref C) "__init__" = some (some (.ref fI))) (tC : typeIn K (.ref fI) = some (.type "function"))
    (hrest : rest.length ≤ sizeLine)
    (hq : codeAny (model prog w) (A.under (.builtin "type.__call__" ⟨.ref C :: rest, kw⟩))
      (.call (.ref fI) ⟨.ref (s.heap.objs.size + 1) :: rest, kw⟩) (InitBack (s.heap.objs.size + 1) R)
      { s with heap := (s.heap.push (kdv_tup rest)).push (HandSPX.excO C s.heap.objs.size) }) :
    codeAny (model prog w) A (.call (.ref C) ⟨rest, kw⟩) R s := by
  obtain ⟨hp, g, dr, tk, os⟩ := s
  obtain ⟨nm, N, qn, bs, bm, hdct, sn, sub, ab, col, dd, k0, k1, k2, k3, k5, hC, hT⟩ := excInit_of X T.ini
  exact called T.base hT hC (looks_findIn X iC) (fun self => bind_fn X self tC) hrest hq

theorem noneOf {a : Addr} (X : K.In hp) (h : hp.objs.size ≤ a) : K.lookup a = none := by
  cases e : K.lookup a with
  | none => rfl
  | some o => exact absurd (Nat.lt_of_lt_of_le (Heap.lt_size (X _ _ e)) h) (Nat.lt_irrefl _)
end

/-- an exception of the class at C that has been made: at e, its fields m in its own dict at d -/
structure Made (h h' : Heap) (e C d : Addr) (m : Str → Option Value) : Prop where
  keep : ∀ b o, h.get? b = some o → h'.get? b = some o
  new : h.objs.size ≤ e
  obj : ∃ t1 : Addr, h'.get? e = some { cls := .ref C, dict := some d, data := .fields #[.ref t1, .none, .none, .none, .bool false, .none] }
  dbig : h.objs.size ≤ d
  dne : d ≠ e
  ns : h'.Ns1 d m

theorem ldLoc {M : Model} {s : Shared} {name : Str} {scope : Scope} {L a : Addr} {cd : Value} {m : Str → Option Value} {x : Str}
    {pos : Pos} {v : Value} {Q : Value → Shared → Prop} {A : Around} {E : Value → Shared → Prop}
    (hn : s.heap.Ns L m) (hv : m x = some v) (h : Q v s) (hk : scope.kind = .function := by rfl)
    (hl : (envOfC name scope L a cd).kindOf x = some .local := by rfl)
    (hd : (x == ("__debug__" : Str)) = false := by decide) :
    wpAny M A (eval (.Name x pos) (envOfC name scope L a cd)) Q E s :=
  wpAny_Name (wpAny_loadName_local hk hl hn hv h) hd
def argsGv (p0 p1 : Pos) : Arguments := { posonlyargs := [], args := [{ arg := "self", annotation := none, pos := p0 }, { arg := "given", annotation := none, pos := p1 }], vararg := none, kwonlyargs := [], kw_defaults := [], kwarg := none, defaults := [] }
def bodyGv (q00 q01 q02 q03 : Pos) : List Stmt := [.Assign [.Attribute (.Name "self" q00) "given" q01] (.Name "given" q02) q03]
def scopeGv : Scope := { kind := .function, names := [(PySem.Str.ofString "self", .local), (PySem.Str.ofString "given", .local)], isGenerator := false, isCoroutine := false, more := [] }
/-- the class at C, its __init__ at fI -/
structure ClsGv (K : Frag) (C fI : Addr) (B newId initId : String) (bmB : List Value) : Prop extends EC K C B newId initId bmB where
  iC : findIn K (.ref C) "__init__" = some (some (.ref fI))
  tC : typeIn K (.ref fI) = some (.type "function")
  n0 : findIn K (.ref C) "given" = some none
  fn : ∃ (oc : Value) (od : Option Addr) (doc pm kV : Value) (an : Option Addr) (cdv ct : Value) (osl : Array (Option Value)) (qual : Str) (p0 p1 q00 q01 q02 q03 : Pos),
    K.lookup fI = some ⟨oc, od, .func (fnOf "__init__" qual (argsGv p0 p1) (bodyGv q00 q01 q02 q03) scopeGv .none kV doc pm an cdv ct), osl⟩ ∧ codeIn K cdv qual = true
theorem initGvP {prog : Program} {w : World} {A : Around} {R : Result → Shared → Prop} {s : Shared} {K : Frag} {C fI x t0 : Addr} {B newId initId : String} {bmB : List Value} {v0 : Value}
    (T : ClsGv K C fI B newId initId bmB) (X : K.In s.heap) (hlim : s.heap.NoLimit) (hx : s.heap.get? x = some (HandSPX.excO C t0)) (hnx : K.lookup x = none) (hroom : A.depth < recursionLimit)
    (hq : ∀ h' tk dx, (∀ b o, b ≠ x → s.heap.get? b = some o → h'.get? b = some o) → h'.get? x = some { cls := .ref C, dict := some dx, data := .fields #[.ref t0, .none, .none, .none, .bool false, .none] } → s.heap.objs.size ≤ dx → dx ≠ x → h'.Ns1 dx (fun (y : Str) => if y = "given" then some v0 else none) → R (.ok (.ret .none)) { s with heap := h', toks := tk }) :
    codeAny (model prog w) A (.call (.ref fI) ⟨[.ref x, v0], []⟩) R s := by
  obtain ⟨oc, od, doc, pm, kV, an, cdv, ct, osl, qual, p0, p1, q00, q01, q02, q03, ho, hcd⟩ := T.fn
  refine Att.call_fn (binds := [("self", .ref x), ("given", v0)]) X hlim ho hcd hroom (PySem.BindsTo.of_eq (by first | rfl | with_unfolding_all rfl)) (by first | rfl | decide | with_unfolding_all rfl) (fun s1 IC => ?_) rfl rfl rfl
  obtain ⟨h1, tk1, rfl⟩ := IC.toInCall.same
  have k : ∀ b o, s.heap.get? b = some o → h1.get? b = some o := IC.toInCall.keep
  have hn0 := IC.toInCall.ns
  have hxL : s.heap.objs.size ≠ x := Nat.ne_of_gt (Heap.lt_size hx)
  have X0 : K.In h1 := X.keeps k
  have hx0 := k _ _ hx
  show wpAny _ _ (execs _ _) _ _ _
  refine wpAny_execs_cons (plainObj_wpAny_Assign_Attribute ?_)
  refine ldLoc (v := v0) hn0 (by first | rfl | with_unfolding_all rfl | kernel_rfl) (ldLoc (v := .ref x) hn0 (by first | rfl | with_unfolding_all rfl | kernel_rfl) ?_)
  refine set_plain X0 (ox := HandSPX.excO C t0) (od := none) ⟨hx0, rfl, rfl, trivial⟩ T.sa ?_
  refine storeNew T.toEC X0 hx0 T.n0 (fun h2 tk2 dx k2 dn dne hx1 ns1 => ?_)
  have X1 : K.In h2 := fun a o e => k2 a o (fun z => by rw [z, hnx] at e; cases e) (X0 a o e)
  have hn1 : h2.Ns s.heap.objs.size _ := let ⟨o, es, ep, e, r⟩ := hn0; ⟨o, es, ep, k2 _ _ hxL e, r⟩
  show wpAny _ _ (execs _ _) _ _ _
  exact wpAny_execs_nil (hq h2 tk2 dx (fun b o hb e => k2 b o hb (k b o e)) hx1 (Nat.le_of_lt (Nat.lt_of_lt_of_le hn0.lt dn)) dne ns1)
theorem madeGvP {prog : Program} {w : World} {A : Around} {R : Result → Shared → Prop} {s : Shared} {K : Frag} {C fI : Addr} {B newId initId : String} {bmB : List Value} {v0 : Value}
    (T : ClsGv K C fI B newId initId bmB) (X : K.In s.heap) (hlim : s.heap.NoLimit) (hroom : A.depth + 1 < recursionLimit)
    (hq : ∀ h' tk e d, Made s.heap h' e C d (fun (y : Str) => if y = "given" then some v0 else none) → R (.ok (.ret (.ref e))) { s with heap := h', toks := tk }) :
    codeAny (model prog w) A (.call (.ref C) ⟨[v0], []⟩) R s := by
  obtain ⟨hp, g, dr, tk, os⟩ := s
  have k : ∀ b o, hp.get? b = some o → ((hp.push (kdv_tup [v0])).push (HandSPX.excO C hp.objs.size)).get? b = some o := fun b o e => Heap.get?_push_of_some _ (Heap.get?_push_of_some _ e)
  have hget : ((hp.push (kdv_tup [v0])).push (HandSPX.excO C hp.objs.size)).get? (hp.objs.size + 1) = some (HandSPX.excO C hp.objs.size) := by heap_get
  refine madeBy T.toEC X T.iC T.tC (by rw [sizeLine_eq]; simp) ?_
  refine initGvP (s := ⟨(hp.push (kdv_tup [v0])).push (HandSPX.excO C hp.objs.size), g, dr, tk, os⟩) T (X.keeps k) (hlim.keeps k) hget (noneOf X (Nat.le_succ _)) ?_ (fun h' tk' dx k' hx dn dne hns => ?_)
  · show A.depth + 1 < recursionLimit
    exact hroom
  · have old : ∀ b o, hp.get? b = some o → h'.get? b = some o := fun b o e => k' b o (Nat.ne_of_lt (Nat.lt_succ_of_lt (Heap.lt_size e))) (k b o e)
    have z : hp.objs.size ≤ dx := by
      have q := dn
      simp only [Heap.size_push] at q
      omega
    exact ⟨rfl, hq h' tk' (hp.objs.size + 1) dx ⟨old, Nat.le_succ _, ⟨_, hx⟩, z, dne, hns⟩⟩
theorem initGvK {prog : Program} {w : World} {A : Around} {R : Result → Shared → Prop} {s : Shared} {K : Frag} {C fI x t0 : Addr} {B newId initId : String} {bmB : List Value} {v0 : Value}
    (T : ClsGv K C fI B newId initId bmB) (X : K.In s.heap) (hlim : s.heap.NoLimit) (hx : s.heap.get? x = some (HandSPX.excO C t0)) (hnx : K.lookup x = none) (hroom : A.depth < recursionLimit)
    (hq : ∀ h' tk dx, (∀ b o, b ≠ x → s.heap.get? b = some o → h'.get? b = some o) → h'.get? x = some { cls := .ref C, dict := some dx, data := .fields #[.ref t0, .none, .none, .none, .bool false, .none] } → s.heap.objs.size ≤ dx → dx ≠ x → h'.Ns1 dx (fun (y : Str) => if y = "given" then some v0 else none) → R (.ok (.ret .none)) { s with heap := h', toks := tk }) :
    codeAny (model prog w) A (.call (.ref fI) ⟨[.ref x], [("given", v0)]⟩) R s := by
  obtain ⟨oc, od, doc, pm, kV, an, cdv, ct, osl, qual, p0, p1, q00, q01, q02, q03, ho, hcd⟩ := T.fn
  refine Att.call_fn (binds := [("self", .ref x), ("given", v0)]) X hlim ho hcd hroom (PySem.BindsTo.of_eq (by first | rfl | with_unfolding_all rfl)) (by first | rfl | decide | with_unfolding_all rfl) (fun s1 IC => ?_) rfl rfl rfl
  obtain ⟨h1, tk1, rfl⟩ := IC.toInCall.same
  have k : ∀ b o, s.heap.get? b = some o → h1.get? b = some o := IC.toInCall.keep
  have hn0 := IC.toInCall.ns
  have hxL : s.heap.objs.size ≠ x := Nat.ne_of_gt (Heap.lt_size hx)
  have X0 : K.In h1 := X.keeps k
  have hx0 := k _ _ hx
  show wpAny _ _ (execs _ _) _ _ _
  refine wpAny_execs_cons (plainObj_wpAny_Assign_Attribute ?_)
  refine ldLoc (v := v0) hn0 (by first | rfl | with_unfolding_all rfl | kernel_rfl) (ldLoc (v := .ref x) hn0 (by first | rfl | with_unfolding_all rfl | kernel_rfl) ?_)
  refine set_plain X0 (ox := HandSPX.excO C t0) (od := none) ⟨hx0, rfl, rfl, trivial⟩ T.sa ?_
  refine storeNew T.toEC X0 hx0 T.n0 (fun h2 tk2 dx k2 dn dne hx1 ns1 => ?_)
  have X1 : K.In h2 := fun a o e => k2 a o (fun z => by rw [z, hnx] at e; cases e) (X0 a o e)
  have hn1 : h2.Ns s.heap.objs.size _ := let ⟨o, es, ep, e, r⟩ := hn0; ⟨o, es, ep, k2 _ _ hxL e, r⟩
  show wpAny _ _ (execs _ _) _ _ _
  exact wpAny_execs_nil (hq h2 tk2 dx (fun b o hb e => k2 b o hb (k b o e)) hx1 (Nat.le_of_lt (Nat.lt_of_lt_of_le hn0.lt dn)) dne ns1)
theorem madeGvK {prog : Program} {w : World} {A : Around} {R : Result → Shared → Prop} {s : Shared} {K : Frag} {C fI : Addr} {B newId initId : String} {bmB : List Value} {v0 : Value}
    (T : ClsGv K C fI B newId initId bmB) (X : K.In s.heap) (hlim : s.heap.NoLimit) (hroom : A.depth + 1 < recursionLimit)
    (hq : ∀ h' tk e d, Made s.heap h' e C d (fun (y : Str) => if y = "given" then some v0 else none) → R (.ok (.ret (.ref e))) { s with heap := h', toks := tk }) :
    codeAny (model prog w) A (.call (.ref C) ⟨[], [("given", v0)]⟩) R s := by
  obtain ⟨hp, g, dr, tk, os⟩ := s
  have k : ∀ b o, hp.get? b = some o → ((hp.push (kdv_tup [])).push (HandSPX.excO C hp.objs.size)).get? b = some o := fun b o e => Heap.get?_push_of_some _ (Heap.get?_push_of_some _ e)
  have hget : ((hp.push (kdv_tup [])).push (HandSPX.excO C hp.objs.size)).get? (hp.objs.size + 1) = some (HandSPX.excO C hp.objs.size) := by heap_get
  refine madeBy T.toEC X T.iC T.tC (by rw [sizeLine_eq]; simp) ?_
  refine initGvK (s := ⟨(hp.push (kdv_tup [])).push (HandSPX.excO C hp.objs.size), g, dr, tk, os⟩) T (X.keeps k) (hlim.keeps k) hget (noneOf X (Nat.le_succ _)) ?_ (fun h' tk' dx k' hx dn dne hns => ?_)
  · show A.depth + 1 < recursionLimit
    exact hroom
  · have old : ∀ b o, hp.get? b = some o → h'.get? b = some o := fun b o e => k' b o (Nat.ne_of_lt (Nat.lt_succ_of_lt (Heap.lt_size e))) (k b o e)
    have z : hp.objs.size ≤ dx := by
      have q := dn
      simp only [Heap.size_push] at q
      omega
    exact ⟨rfl, hq h' tk' (hp.objs.size + 1) dx ⟨old, Nat.le_succ _, ⟨_, hx⟩, z, dne, hns⟩⟩
def argsIx (p0 p1 : Pos) : Arguments := { posonlyargs := [], args := [{ arg := "self", annotation := none, pos := p0 }, { arg := "index", annotation := none, pos := p1 }], vararg := none, kwonlyargs := [], kw_defaults := [], kwarg := none, defaults := [] }
def bodyIx (q00 q01 q02 q03 : Pos) : List Stmt := [.Assign [.Attribute (.Name "self" q00) "index" q01] (.Name "index" q02) q03]
def scopeIx : Scope := { kind := .function, names := [(PySem.Str.ofString "self", .local), (PySem.Str.ofString "index", .local)], isGenerator := false, isCoroutine := false, more := [] }
/-- the class at C, its __init__ at fI -/
structure ClsIx (K : Frag) (C fI : Addr) (B newId initId : String) (bmB : List Value) : Prop extends EC K C B newId initId bmB where
  iC : findIn K (.ref C) "__init__" = some (some (.ref fI))
  tC : typeIn K (.ref fI) = some (.type "function")
  n0 : findIn K (.ref C) "index" = some none
  fn : ∃ (oc : Value) (od : Option Addr) (doc pm kV : Value) (an : Option Addr) (cdv ct : Value) (osl : Array (Option Value)) (qual : Str) (p0 p1 q00 q01 q02 q03 : Pos),
    K.lookup fI = some ⟨oc, od, .func (fnOf "__init__" qual (argsIx p0 p1) (bodyIx q00 q01 q02 q03) scopeIx .none kV doc pm an cdv ct), osl⟩ ∧ codeIn K cdv qual = true
theorem initIxP {prog : Program} {w : World} {A : Around} {R : Result → Shared → Prop} {s : Shared} {K : Frag} {C fI x t0 : Addr} {B newId initId : String} {bmB : List Value} {v0 : Value}
    (T : ClsIx K C fI B newId initId bmB) (X : K.In s.heap) (hlim : s.heap.NoLimit) (hx : s.heap.get? x = some (HandSPX.excO C t0)) (hnx : K.lookup x = none) (hroom : A.depth < recursionLimit)
    (hq : ∀ h' tk dx, (∀ b o, b ≠ x → s.heap.get? b = some o → h'.get? b = some o) → h'.get? x = some { cls := .ref C, dict := some dx, data := .fields #[.ref t0, .none, .none, .none, .bool false, .none] } → s.heap.objs.size ≤ dx → dx ≠ x → h'.Ns1 dx (fun (y : Str) => if y = "index" then some v0 else none) → R (.ok (.ret .none)) { s with heap := h', toks := tk }) :
    codeAny (model prog w) A (.call (.ref fI) ⟨[.ref x, v0], []⟩) R s := by
  obtain ⟨oc, od, doc, pm, kV, an, cdv, ct, osl, qual, p0, p1, q00, q01, q02, q03, ho, hcd⟩ := T.fn
  refine Att.call_fn (binds := [("self", .ref x), ("index", v0)]) X hlim ho hcd hroom (PySem.BindsTo.of_eq (by first | rfl | with_unfolding_all rfl)) (by first | rfl | decide | with_unfolding_all rfl) (fun s1 IC => ?_) rfl rfl rfl
  obtain ⟨h1, tk1, rfl⟩ := IC.toInCall.same
  have k : ∀ b o, s.heap.get? b = some o → h1.get? b = some o := IC.toInCall.keep
  have hn0 := IC.toInCall.ns
  have hxL : s.heap.objs.size ≠ x := Nat.ne_of_gt (Heap.lt_size hx)
  have X0 : K.In h1 := X.keeps k
  have hx0 := k _ _ hx
  show wpAny _ _ (execs _ _) _ _ _
  refine wpAny_execs_cons (plainObj_wpAny_Assign_Attribute ?_)
  refine ldLoc (v := v0) hn0 (by first | rfl | with_unfolding_all rfl | kernel_rfl) (ldLoc (v := .ref x) hn0 (by first | rfl | with_unfolding_all rfl | kernel_rfl) ?_)
  refine set_plain X0 (ox := HandSPX.excO C t0) (od := none) ⟨hx0, rfl, rfl, trivial⟩ T.sa ?_
  refine storeNew T.toEC X0 hx0 T.n0 (fun h2 tk2 dx k2 dn dne hx1 ns1 => ?_)
  have X1 : K.In h2 := fun a o e => k2 a o (fun z => by rw [z, hnx] at e; cases e) (X0 a o e)
  have hn1 : h2.Ns s.heap.objs.size _ := let ⟨o, es, ep, e, r⟩ := hn0; ⟨o, es, ep, k2 _ _ hxL e, r⟩
  show wpAny _ _ (execs _ _) _ _ _
  exact wpAny_execs_nil (hq h2 tk2 dx (fun b o hb e => k2 b o hb (k b o e)) hx1 (Nat.le_of_lt (Nat.lt_of_lt_of_le hn0.lt dn)) dne ns1)
theorem madeIxP {prog : Program} {w : World} {A : Around} {R : Result → Shared → Prop} {s : Shared} {K : Frag} {C fI : Addr} {B newId initId : String} {bmB : List Value} {v0 : Value}
    (T : ClsIx K C fI B newId initId bmB) (X : K.In s.heap) (hlim : s.heap.NoLimit) (hroom : A.depth + 1 < recursionLimit)
    (hq : ∀ h' tk e d, Made s.heap h' e C d (fun (y : Str) => if y = "index" then some v0 else none) → R (.ok (.ret (.ref e))) { s with heap := h', toks := tk }) :
    codeAny (model prog w) A (.call (.ref C) ⟨[v0], []⟩) R s := by
  obtain ⟨hp, g, dr, tk, os⟩ := s
  have k : ∀ b o, hp.get? b = some o → ((hp.push (kdv_tup [v0])).push (HandSPX.excO C hp.objs.size)).get? b = some o := fun b o e => Heap.get?_push_of_some _ (Heap.get?_push_of_some _ e)
  have hget : ((hp.push (kdv_tup [v0])).push (HandSPX.excO C hp.objs.size)).get? (hp.objs.size + 1) = some (HandSPX.excO C hp.objs.size) := by heap_get
  refine madeBy T.toEC X T.iC T.tC (by rw [sizeLine_eq]; simp) ?_
  refine initIxP (s := ⟨(hp.push (kdv_tup [v0])).push (HandSPX.excO C hp.objs.size), g, dr, tk, os⟩) T (X.keeps k) (hlim.keeps k) hget (noneOf X (Nat.le_succ _)) ?_ (fun h' tk' dx k' hx dn dne hns => ?_)
  · show A.depth + 1 < recursionLimit
    exact hroom
  · have old : ∀ b o, hp.get? b = some o → h'.get? b = some o := fun b o e => k' b o (Nat.ne_of_lt (Nat.lt_succ_of_lt (Heap.lt_size e))) (k b o e)
    have z : hp.objs.size ≤ dx := by
      have q := dn
      simp only [Heap.size_push] at q
      omega
    exact ⟨rfl, hq h' tk' (hp.objs.size + 1) dx ⟨old, Nat.le_succ _, ⟨_, hx⟩, z, dne, hns⟩⟩
theorem initIxK {prog : Program} {w : World} {A : Around} {R : Result → Shared → Prop} {s : Shared} {K : Frag} {C fI x t0 : Addr} {B newId initId : String} {bmB : List Value} {v0 : Value}
    (T : ClsIx K C fI B newId initId bmB) (X : K.In s.heap) (hlim : s.heap.NoLimit) (hx : s.heap.get? x = some (HandSPX.excO C t0)) (hnx : K.lookup x = none) (hroom : A.depth < recursionLimit)
    (hq : ∀ h' tk dx, (∀ b o, b ≠ x → s.heap.get? b = some o → h'.get? b = some o) → h'.get? x = some { cls := .ref C, dict := some dx, data := .fields #[.ref t0, .none, .none, .none, .bool false, .none] } → s.heap.objs.size ≤ dx → dx ≠ x → h'.Ns1 dx (fun (y : Str) => if y = "index" then some v0 else none) → R (.ok (.ret .none)) { s with heap := h', toks := tk }) :
    codeAny (model prog w) A (.call (.ref fI) ⟨[.ref x], [("index", v0)]⟩) R s := by
  obtain ⟨oc, od, doc, pm, kV, an, cdv, ct, osl, qual, p0, p1, q00, q01, q02, q03, ho, hcd⟩ := T.fn
  refine Att.call_fn (binds := [("self", .ref x), ("index", v0)]) X hlim ho hcd hroom (PySem.BindsTo.of_eq (by first | rfl | with_unfolding_all rfl)) (by first | rfl | decide | with_unfolding_all rfl) (fun s1 IC => ?_) rfl rfl rfl
  obtain ⟨h1, tk1, rfl⟩ := IC.toInCall.same
  have k : ∀ b o, s.heap.get? b = some o → h1.get? b = some o := IC.toInCall.keep
  have hn0 := IC.toInCall.ns
  have hxL : s.heap.objs.size ≠ x := Nat.ne_of_gt (Heap.lt_size hx)
  have X0 : K.In h1 := X.keeps k
  have hx0 := k _ _ hx
  show wpAny _ _ (execs _ _) _ _ _
  refine wpAny_execs_cons (plainObj_wpAny_Assign_Attribute ?_)
  refine ldLoc (v := v0) hn0 (by first | rfl | with_unfolding_all rfl | kernel_rfl) (ldLoc (v := .ref x) hn0 (by first | rfl | with_unfolding_all rfl | kernel_rfl) ?_)
  refine set_plain X0 (ox := HandSPX.excO C t0) (od := none) ⟨hx0, rfl, rfl, trivial⟩ T.sa ?_
  refine storeNew T.toEC X0 hx0 T.n0 (fun h2 tk2 dx k2 dn dne hx1 ns1 => ?_)
  have X1 : K.In h2 := fun a o e => k2 a o (fun z => by rw [z, hnx] at e; cases e) (X0 a o e)
  have hn1 : h2.Ns s.heap.objs.size _ := let ⟨o, es, ep, e, r⟩ := hn0; ⟨o, es, ep, k2 _ _ hxL e, r⟩
  show wpAny _ _ (execs _ _) _ _ _
  exact wpAny_execs_nil (hq h2 tk2 dx (fun b o hb e => k2 b o hb (k b o e)) hx1 (Nat.le_of_lt (Nat.lt_of_lt_of_le hn0.lt dn)) dne ns1)
theorem madeIxK {prog : Program} {w : World} {A : Around} {R : Result → Shared → Prop} {s : Shared} {K : Frag} {C fI : Addr} {B newId initId : String} {bmB : List Value} {v0 : Value}
    (T : ClsIx K C fI B newId initId bmB) (X : K.In s.heap) (hlim : s.heap.NoLimit) (hroom : A.depth + 1 < recursionLimit)
    (hq : ∀ h' tk e d, Made s.heap h' e C d (fun (y : Str) => if y = "index" then some v0 else none) → R (.ok (.ret (.ref e))) { s with heap := h', toks := tk }) :
    codeAny (model prog w) A (.call (.ref C) ⟨[], [("index", v0)]⟩) R s := by
  obtain ⟨hp, g, dr, tk, os⟩ := s
  have k : ∀ b o, hp.get? b = some o → ((hp.push (kdv_tup [])).push (HandSPX.excO C hp.objs.size)).get? b = some o := fun b o e => Heap.get?_push_of_some _ (Heap.get?_push_of_some _ e)
  have hget : ((hp.push (kdv_tup [])).push (HandSPX.excO C hp.objs.size)).get? (hp.objs.size + 1) = some (HandSPX.excO C hp.objs.size) := by heap_get
  refine madeBy T.toEC X T.iC T.tC (by rw [sizeLine_eq]; simp) ?_
  refine initIxK (s := ⟨(hp.push (kdv_tup [])).push (HandSPX.excO C hp.objs.size), g, dr, tk, os⟩) T (X.keeps k) (hlim.keeps k) hget (noneOf X (Nat.le_succ _)) ?_ (fun h' tk' dx k' hx dn dne hns => ?_)
  · show A.depth + 1 < recursionLimit
    exact hroom
  · have old : ∀ b o, hp.get? b = some o → h'.get? b = some o := fun b o e => k' b o (Nat.ne_of_lt (Nat.lt_succ_of_lt (Heap.lt_size e))) (k b o e)
    have z : hp.objs.size ≤ dx := by
      have q := dn
      simp only [Heap.size_push] at q
      omega
    exact ⟨rfl, hq h' tk' (hp.objs.size + 1) dx ⟨old, Nat.le_succ _, ⟨_, hx⟩, z, dne, hns⟩⟩
def argsMo (p0 p1 : Pos) : Arguments := { posonlyargs := [], args := [{ arg := "self", annotation := none, pos := p0 }, { arg := "most", annotation := none, pos := p1 }], vararg := none, kwonlyargs := [], kw_defaults := [], kwarg := none, defaults := [] }
def bodyMo (q00 q01 q02 q03 : Pos) : List Stmt := [.Assign [.Attribute (.Name "self" q00) "most" q01] (.Name "most" q02) q03]
def scopeMo : Scope := { kind := .function, names := [(PySem.Str.ofString "self", .local), (PySem.Str.ofString "most", .local)], isGenerator := false, isCoroutine := false, more := [] }
/-- the class at C, its __init__ at fI -/
structure ClsMo (K : Frag) (C fI : Addr) (B newId initId : String) (bmB : List Value) : Prop extends EC K C B newId initId bmB where
  iC : findIn K (.ref C) "__init__" = some (some (.ref fI))
  tC : typeIn K (.ref fI) = some (.type "function")
  n0 : findIn K (.ref C) "most" = some none
  fn : ∃ (oc : Value) (od : Option Addr) (doc pm kV : Value) (an : Option Addr) (cdv ct : Value) (osl : Array (Option Value)) (qual : Str) (p0 p1 q00 q01 q02 q03 : Pos),
    K.lookup fI = some ⟨oc, od, .func (fnOf "__init__" qual (argsMo p0 p1) (bodyMo q00 q01 q02 q03) scopeMo .none kV doc pm an cdv ct), osl⟩ ∧ codeIn K cdv qual = true
theorem initMoP {prog : Program} {w : World} {A : Around} {R : Result → Shared → Prop} {s : Shared} {K : Frag} {C fI x t0 : Addr} {B newId initId : String} {bmB : List Value} {v0 : Value}
    (T : ClsMo K C fI B newId initId bmB) (X : K.In s.heap) (hlim : s.heap.NoLimit) (hx : s.heap.get? x = some (HandSPX.excO C t0)) (hnx : K.lookup x = none) (hroom : A.depth < recursionLimit)
    (hq : ∀ h' tk dx, (∀ b o, b ≠ x → s.heap.get? b = some o → h'.get? b = some o) → h'.get? x = some { cls := .ref C, dict := some dx, data := .fields #[.ref t0, .none, .none, .none, .bool false, .none] } → s.heap.objs.size ≤ dx → dx ≠ x → h'.Ns1 dx (fun (y : Str) => if y = "most" then some v0 else none) → R (.ok (.ret .none)) { s with heap := h', toks := tk }) :
    codeAny (model prog w) A (.call (.ref fI) ⟨[.ref x, v0], []⟩) R s := by
  obtain ⟨oc, od, doc, pm, kV, an, cdv, ct, osl, qual, p0, p1, q00, q01, q02, q03, ho, hcd⟩ := T.fn
  refine Att.call_fn (binds := [("self", .ref x), ("most", v0)]) X hlim ho hcd hroom (PySem.BindsTo.of_eq (by first | rfl | with_unfolding_all rfl)) (by first | rfl | decide | with_unfolding_all rfl) (fun s1 IC => ?_) rfl rfl rfl
  obtain ⟨h1, tk1, rfl⟩ := IC.toInCall.same
  have k : ∀ b o, s.heap.get? b = some o → h1.get? b = some o := IC.toInCall.keep
  have hn0 := IC.toInCall.ns
  have hxL : s.heap.objs.size ≠ x := Nat.ne_of_gt (Heap.lt_size hx)
  have X0 : K.In h1 := X.keeps k
  have hx0 := k _ _ hx
  show wpAny _ _ (execs _ _) _ _ _
  refine wpAny_execs_cons (plainObj_wpAny_Assign_Attribute ?_)
  refine ldLoc (v := v0) hn0 (by first | rfl | with_unfolding_all rfl | kernel_rfl) (ldLoc (v := .ref x) hn0 (by first | rfl | with_unfolding_all rfl | kernel_rfl) ?_)
  refine set_plain X0 (ox := HandSPX.excO C t0) (od := none) ⟨hx0, rfl, rfl, trivial⟩ T.sa ?_
  refine storeNew T.toEC X0 hx0 T.n0 (fun h2 tk2 dx k2 dn dne hx1 ns1 => ?_)
  have X1 : K.In h2 := fun a o e => k2 a o (fun z => by rw [z, hnx] at e; cases e) (X0 a o e)
  have hn1 : h2.Ns s.heap.objs.size _ := let ⟨o, es, ep, e, r⟩ := hn0; ⟨o, es, ep, k2 _ _ hxL e, r⟩
  show wpAny _ _ (execs _ _) _ _ _
  exact wpAny_execs_nil (hq h2 tk2 dx (fun b o hb e => k2 b o hb (k b o e)) hx1 (Nat.le_of_lt (Nat.lt_of_lt_of_le hn0.lt dn)) dne ns1)
theorem madeMoP {prog : Program} {w : World} {A : Around} {R : Result → Shared → Prop} {s : Shared} {K : Frag} {C fI : Addr} {B newId initId : String} {bmB : List Value} {v0 : Value}
    (T : ClsMo K C fI B newId initId bmB) (X : K.In s.heap) (hlim : s.heap.NoLimit) (hroom : A.depth + 1 < recursionLimit)
    (hq : ∀ h' tk e d, Made s.heap h' e C d (fun (y : Str) => if y = "most" then some v0 else none) → R (.ok (.ret (.ref e))) { s with heap := h', toks := tk }) :
    codeAny (model prog w) A (.call (.ref C) ⟨[v0], []⟩) R s := by
  obtain ⟨hp, g, dr, tk, os⟩ := s
  have k : ∀ b o, hp.get? b = some o → ((hp.push (kdv_tup [v0])).push (HandSPX.excO C hp.objs.size)).get? b = some o := fun b o e => Heap.get?_push_of_some _ (Heap.get?_push_of_some _ e)
  have hget : ((hp.push (kdv_tup [v0])).push (HandSPX.excO C hp.objs.size)).get? (hp.objs.size + 1) = some (HandSPX.excO C hp.objs.size) := by heap_get
  refine madeBy T.toEC X T.iC T.tC (by rw [sizeLine_eq]; simp) ?_
  refine initMoP (s := ⟨(hp.push (kdv_tup [v0])).push (HandSPX.excO C hp.objs.size), g, dr, tk, os⟩) T (X.keeps k) (hlim.keeps k) hget (noneOf X (Nat.le_succ _)) ?_ (fun h' tk' dx k' hx dn dne hns => ?_)
  · show A.depth + 1 < recursionLimit
    exact hroom
  · have old : ∀ b o, hp.get? b = some o → h'.get? b = some o := fun b o e => k' b o (Nat.ne_of_lt (Nat.lt_succ_of_lt (Heap.lt_size e))) (k b o e)
    have z : hp.objs.size ≤ dx := by
      have q := dn
      simp only [Heap.size_push] at q
      omega
    exact ⟨rfl, hq h' tk' (hp.objs.size + 1) dx ⟨old, Nat.le_succ _, ⟨_, hx⟩, z, dne, hns⟩⟩
theorem initMoK {prog : Program} {w : World} {A : Around} {R : Result → Shared → Prop} {s : Shared} {K : Frag} {C fI x t0 : Addr} {B newId initId : String} {bmB : List Value} {v0 : Value}
    (T : ClsMo K C fI B newId initId bmB) (X : K.In s.heap) (hlim : s.heap.NoLimit) (hx : s.heap.get? x = some (HandSPX.excO C t0)) (hnx : K.lookup x = none) (hroom : A.depth < recursionLimit)
    (hq : ∀ h' tk dx, (∀ b o, b ≠ x → s.heap.get? b = some o → h'.get? b = some o) → h'.get? x = some { cls := .ref C, dict := some dx, data := .fields #[.ref t0, .none, .none, .none, .bool false, .none] } → s.heap.objs.size ≤ dx → dx ≠ x → h'.Ns1 dx (fun (y : Str) => if y = "most" then some v0 else none) → R (.ok (.ret .none)) { s with heap := h', toks := tk }) :
    codeAny (model prog w) A (.call (.ref fI) ⟨[.ref x], [("most", v0)]⟩) R s := by
  obtain ⟨oc, od, doc, pm, kV, an, cdv, ct, osl, qual, p0, p1, q00, q01, q02, q03, ho, hcd⟩ := T.fn
  refine Att.call_fn (binds := [("self", .ref x), ("most", v0)]) X hlim ho hcd hroom (PySem.BindsTo.of_eq (by first | rfl | with_unfolding_all rfl)) (by first | rfl | decide | with_unfolding_all rfl) (fun s1 IC => ?_) rfl rfl rfl
  obtain ⟨h1, tk1, rfl⟩ := IC.toInCall.same
  have k : ∀ b o, s.heap.get? b = some o → h1.get? b = some o := IC.toInCall.keep
  have hn0 := IC.toInCall.ns
  have hxL : s.heap.objs.size ≠ x := Nat.ne_of_gt (Heap.lt_size hx)
  have X0 : K.In h1 := X.keeps k
  have hx0 := k _ _ hx
  show wpAny _ _ (execs _ _) _ _ _
  refine wpAny_execs_cons (plainObj_wpAny_Assign_Attribute ?_)
  refine ldLoc (v := v0) hn0 (by first | rfl | with_unfolding_all rfl | kernel_rfl) (ldLoc (v := .ref x) hn0 (by first | rfl | with_unfolding_all rfl | kernel_rfl) ?_)
  refine set_plain X0 (ox := HandSPX.excO C t0) (od := none) ⟨hx0, rfl, rfl, trivial⟩ T.sa ?_
  refine storeNew T.toEC X0 hx0 T.n0 (fun h2 tk2 dx k2 dn dne hx1 ns1 => ?_)
  have X1 : K.In h2 := fun a o e => k2 a o (fun z => by rw [z, hnx] at e; cases e) (X0 a o e)
  have hn1 : h2.Ns s.heap.objs.size _ := let ⟨o, es, ep, e, r⟩ := hn0; ⟨o, es, ep, k2 _ _ hxL e, r⟩
  show wpAny _ _ (execs _ _) _ _ _
  exact wpAny_execs_nil (hq h2 tk2 dx (fun b o hb e => k2 b o hb (k b o e)) hx1 (Nat.le_of_lt (Nat.lt_of_lt_of_le hn0.lt dn)) dne ns1)
theorem madeMoK {prog : Program} {w : World} {A : Around} {R : Result → Shared → Prop} {s : Shared} {K : Frag} {C fI : Addr} {B newId initId : String} {bmB : List Value} {v0 : Value}
    (T : ClsMo K C fI B newId initId bmB) (X : K.In s.heap) (hlim : s.heap.NoLimit) (hroom : A.depth + 1 < recursionLimit)
    (hq : ∀ h' tk e d, Made s.heap h' e C d (fun (y : Str) => if y = "most" then some v0 else none) → R (.ok (.ret (.ref e))) { s with heap := h', toks := tk }) :
    codeAny (model prog w) A (.call (.ref C) ⟨[], [("most", v0)]⟩) R s := by
  obtain ⟨hp, g, dr, tk, os⟩ := s
  have k : ∀ b o, hp.get? b = some o → ((hp.push (kdv_tup [])).push (HandSPX.excO C hp.objs.size)).get? b = some o := fun b o e => Heap.get?_push_of_some _ (Heap.get?_push_of_some _ e)
  have hget : ((hp.push (kdv_tup [])).push (HandSPX.excO C hp.objs.size)).get? (hp.objs.size + 1) = some (HandSPX.excO C hp.objs.size) := by heap_get
  refine madeBy T.toEC X T.iC T.tC (by rw [sizeLine_eq]; simp) ?_
  refine initMoK (s := ⟨(hp.push (kdv_tup [])).push (HandSPX.excO C hp.objs.size), g, dr, tk, os⟩) T (X.keeps k) (hlim.keeps k) hget (noneOf X (Nat.le_succ _)) ?_ (fun h' tk' dx k' hx dn dne hns => ?_)
  · show A.depth + 1 < recursionLimit
    exact hroom
  · have old : ∀ b o, hp.get? b = some o → h'.get? b = some o := fun b o e => k' b o (Nat.ne_of_lt (Nat.lt_succ_of_lt (Heap.lt_size e))) (k b o e)
    have z : hp.objs.size ≤ dx := by
      have q := dn
      simp only [Heap.size_push] at q
      omega
    exact ⟨rfl, hq h' tk' (hp.objs.size + 1) dx ⟨old, Nat.le_succ _, ⟨_, hx⟩, z, dne, hns⟩⟩
def argsBr (p0 p1 p2 : Pos) : Arguments := { posonlyargs := [], args := [{ arg := "self", annotation := none, pos := p0 }, { arg := "index", annotation := none, pos := p1 }, { arg := "shown", annotation := none, pos := p2 }], vararg := none, kwonlyargs := [], kw_defaults := [], kwarg := none, defaults := [] }
def bodyBr (q00 q01 q02 q03 q10 q11 q12 q13 : Pos) : List Stmt := [.Assign [.Attribute (.Name "self" q00) "index" q01] (.Name "index" q02) q03, .Assign [.Attribute (.Name "self" q10) "shown" q11] (.Name "shown" q12) q13]
def scopeBr : Scope := { kind := .function, names := [(PySem.Str.ofString "self", .local), (PySem.Str.ofString "index", .local), (PySem.Str.ofString "shown", .local)], isGenerator := false, isCoroutine := false, more := [] }
/-- the class at C, its __init__ at fI -/
structure ClsBr (K : Frag) (C fI : Addr) (B newId initId : String) (bmB : List Value) : Prop extends EC K C B newId initId bmB where
  iC : findIn K (.ref C) "__init__" = some (some (.ref fI))
  tC : typeIn K (.ref fI) = some (.type "function")
  n0 : findIn K (.ref C) "index" = some none
  n1 : findIn K (.ref C) "shown" = some none
  fn : ∃ (oc : Value) (od : Option Addr) (doc pm kV : Value) (an : Option Addr) (cdv ct : Value) (osl : Array (Option Value)) (qual : Str) (p0 p1 p2 q00 q01 q02 q03 q10 q11 q12 q13 : Pos),
    K.lookup fI = some ⟨oc, od, .func (fnOf "__init__" qual (argsBr p0 p1 p2) (bodyBr q00 q01 q02 q03 q10 q11 q12 q13) scopeBr .none kV doc pm an cdv ct), osl⟩ ∧ codeIn K cdv qual = true
theorem initBrP {prog : Program} {w : World} {A : Around} {R : Result → Shared → Prop} {s : Shared} {K : Frag} {C fI x t0 : Addr} {B newId initId : String} {bmB : List Value} {v0 v1 : Value}
    (T : ClsBr K C fI B newId initId bmB) (X : K.In s.heap) (hlim : s.heap.NoLimit) (hx : s.heap.get? x = some (HandSPX.excO C t0)) (hnx : K.lookup x = none) (hroom : A.depth < recursionLimit)
    (hq : ∀ h' tk dx, (∀ b o, b ≠ x → s.heap.get? b = some o → h'.get? b = some o) → h'.get? x = some { cls := .ref C, dict := some dx, data := .fields #[.ref t0, .none, .none, .none, .bool false, .none] } → s.heap.objs.size ≤ dx → dx ≠ x → h'.Ns1 dx (fun (y : Str) => if y = "shown" then some v1 else if y = "index" then some v0 else none) → R (.ok (.ret .none)) { s with heap := h', toks := tk }) :
    codeAny (model prog w) A (.call (.ref fI) ⟨[.ref x, v0, v1], []⟩) R s := by
  obtain ⟨oc, od, doc, pm, kV, an, cdv, ct, osl, qual, p0, p1, p2, q00, q01, q02, q03, q10, q11, q12, q13, ho, hcd⟩ := T.fn
  refine Att.call_fn (binds := [("self", .ref x), ("index", v0), ("shown", v1)]) X hlim ho hcd hroom (PySem.BindsTo.of_eq (by first | rfl | with_unfolding_all rfl)) (by first | rfl | decide | with_unfolding_all rfl) (fun s1 IC => ?_) rfl rfl rfl
  obtain ⟨h1, tk1, rfl⟩ := IC.toInCall.same
  have k : ∀ b o, s.heap.get? b = some o → h1.get? b = some o := IC.toInCall.keep
  have hn0 := IC.toInCall.ns
  have hxL : s.heap.objs.size ≠ x := Nat.ne_of_gt (Heap.lt_size hx)
  have X0 : K.In h1 := X.keeps k
  have hx0 := k _ _ hx
  show wpAny _ _ (execs _ _) _ _ _
  refine wpAny_execs_cons (plainObj_wpAny_Assign_Attribute ?_)
  refine ldLoc (v := v0) hn0 (by first | rfl | with_unfolding_all rfl | kernel_rfl) (ldLoc (v := .ref x) hn0 (by first | rfl | with_unfolding_all rfl | kernel_rfl) ?_)
  refine set_plain X0 (ox := HandSPX.excO C t0) (od := none) ⟨hx0, rfl, rfl, trivial⟩ T.sa ?_
  refine storeNew T.toEC X0 hx0 T.n0 (fun h2 tk2 dx k2 dn dne hx1 ns1 => ?_)
  have X1 : K.In h2 := fun a o e => k2 a o (fun z => by rw [z, hnx] at e; cases e) (X0 a o e)
  have hn1 : h2.Ns s.heap.objs.size _ := let ⟨o, es, ep, e, r⟩ := hn0; ⟨o, es, ep, k2 _ _ hxL e, r⟩
  show wpAny _ _ (execs _ _) _ _ _
  refine wpAny_execs_cons (plainObj_wpAny_Assign_Attribute ?_)
  refine ldLoc (v := v1) hn1 (by first | rfl | with_unfolding_all rfl | kernel_rfl) (ldLoc (v := .ref x) hn1 (by first | rfl | with_unfolding_all rfl | kernel_rfl) ?_)
  have dnL : s.heap.objs.size ≠ dx := Nat.ne_of_lt (Nat.lt_of_lt_of_le hn0.lt dn)
  obtain ⟨oD1, hoD1, _⟩ := L2.lookIn_ns ns1
  refine set_plain X1 (ox := { cls := .ref C, dict := some dx, data := .fields #[.ref t0, .none, .none, .none, .bool false, .none] }) (od := some oD1) ⟨hx1, rfl, rfl, hoD1⟩ T.sa ?_
  refine storeMore T.toEC X1 hx1 ns1 (Within.cons "index" v0 Within.nil) (by show 1 ≤ 1000; decide) T.n1 (fun h3 tk3 k3 ns2 => ?_)
  show wpAny _ _ (execs _ _) _ _ _
  refine wpAny_execs_nil (hq h3 tk3 dx (fun b o hb e => k3 b o (fun z => ?_) (k2 b o hb (k b o e))) (k3 _ _ (Ne.symm dne) hx1) (Nat.le_of_lt (Nat.lt_of_lt_of_le hn0.lt dn)) dne ns2)
  rw [z] at e
  exact absurd (Nat.lt_trans (Heap.lt_size e) (Nat.lt_of_lt_of_le hn0.lt dn)) (Nat.lt_irrefl _)
theorem madeBrP {prog : Program} {w : World} {A : Around} {R : Result → Shared → Prop} {s : Shared} {K : Frag} {C fI : Addr} {B newId initId : String} {bmB : List Value} {v0 v1 : Value}
    (T : ClsBr K C fI B newId initId bmB) (X : K.In s.heap) (hlim : s.heap.NoLimit) (hroom : A.depth + 1 < recursionLimit)
    (hq : ∀ h' tk e d, Made s.heap h' e C d (fun (y : Str) => if y = "shown" then some v1 else if y = "index" then some v0 else none) → R (.ok (.ret (.ref e))) { s with heap := h', toks := tk }) :
    codeAny (model prog w) A (.call (.ref C) ⟨[v0, v1], []⟩) R s := by
  obtain ⟨hp, g, dr, tk, os⟩ := s
  have k : ∀ b o, hp.get? b = some o → ((hp.push (kdv_tup [v0, v1])).push (HandSPX.excO C hp.objs.size)).get? b = some o := fun b o e => Heap.get?_push_of_some _ (Heap.get?_push_of_some _ e)
  have hget : ((hp.push (kdv_tup [v0, v1])).push (HandSPX.excO C hp.objs.size)).get? (hp.objs.size + 1) = some (HandSPX.excO C hp.objs.size) := by heap_get
  refine madeBy T.toEC X T.iC T.tC (by rw [sizeLine_eq]; simp) ?_
  refine initBrP (s := ⟨(hp.push (kdv_tup [v0, v1])).push (HandSPX.excO C hp.objs.size), g, dr, tk, os⟩) T (X.keeps k) (hlim.keeps k) hget (noneOf X (Nat.le_succ _)) ?_ (fun h' tk' dx k' hx dn dne hns => ?_)
  · show A.depth + 1 < recursionLimit
    exact hroom
  · have old : ∀ b o, hp.get? b = some o → h'.get? b = some o := fun b o e => k' b o (Nat.ne_of_lt (Nat.lt_succ_of_lt (Heap.lt_size e))) (k b o e)
    have z : hp.objs.size ≤ dx := by
      have q := dn
      simp only [Heap.size_push] at q
      omega
    exact ⟨rfl, hq h' tk' (hp.objs.size + 1) dx ⟨old, Nat.le_succ _, ⟨_, hx⟩, z, dne, hns⟩⟩
theorem initBrK {prog : Program} {w : World} {A : Around} {R : Result → Shared → Prop} {s : Shared} {K : Frag} {C fI x t0 : Addr} {B newId initId : String} {bmB : List Value} {v0 v1 : Value}
    (T : ClsBr K C fI B newId initId bmB) (X : K.In s.heap) (hlim : s.heap.NoLimit) (hx : s.heap.get? x = some (HandSPX.excO C t0)) (hnx : K.lookup x = none) (hroom : A.depth < recursionLimit)
    (hq : ∀ h' tk dx, (∀ b o, b ≠ x → s.heap.get? b = some o → h'.get? b = some o) → h'.get? x = some { cls := .ref C, dict := some dx, data := .fields #[.ref t0, .none, .none, .none, .bool false, .none] } → s.heap.objs.size ≤ dx → dx ≠ x → h'.Ns1 dx (fun (y : Str) => if y = "shown" then some v1 else if y = "index" then some v0 else none) → R (.ok (.ret .none)) { s with heap := h', toks := tk }) :
    codeAny (model prog w) A (.call (.ref fI) ⟨[.ref x], [("index", v0), ("shown", v1)]⟩) R s := by
  obtain ⟨oc, od, doc, pm, kV, an, cdv, ct, osl, qual, p0, p1, p2, q00, q01, q02, q03, q10, q11, q12, q13, ho, hcd⟩ := T.fn
  refine Att.call_fn (binds := [("self", .ref x), ("index", v0), ("shown", v1)]) X hlim ho hcd hroom (PySem.BindsTo.of_eq (by first | rfl | with_unfolding_all rfl)) (by first | rfl | decide | with_unfolding_all rfl) (fun s1 IC => ?_) rfl rfl rfl
  obtain ⟨h1, tk1, rfl⟩ := IC.toInCall.same
  have k : ∀ b o, s.heap.get? b = some o → h1.get? b = some o := IC.toInCall.keep
  have hn0 := IC.toInCall.ns
  have hxL : s.heap.objs.size ≠ x := Nat.ne_of_gt (Heap.lt_size hx)
  have X0 : K.In h1 := X.keeps k
  have hx0 := k _ _ hx
  show wpAny _ _ (execs _ _) _ _ _
  refine wpAny_execs_cons (plainObj_wpAny_Assign_Attribute ?_)
  refine ldLoc (v := v0) hn0 (by first | rfl | with_unfolding_all rfl | kernel_rfl) (ldLoc (v := .ref x) hn0 (by first | rfl | with_unfolding_all rfl | kernel_rfl) ?_)
  refine set_plain X0 (ox := HandSPX.excO C t0) (od := none) ⟨hx0, rfl, rfl, trivial⟩ T.sa ?_
  refine storeNew T.toEC X0 hx0 T.n0 (fun h2 tk2 dx k2 dn dne hx1 ns1 => ?_)
  have X1 : K.In h2 := fun a o e => k2 a o (fun z => by rw [z, hnx] at e; cases e) (X0 a o e)
  have hn1 : h2.Ns s.heap.objs.size _ := let ⟨o, es, ep, e, r⟩ := hn0; ⟨o, es, ep, k2 _ _ hxL e, r⟩
  show wpAny _ _ (execs _ _) _ _ _
  refine wpAny_execs_cons (plainObj_wpAny_Assign_Attribute ?_)
  refine ldLoc (v := v1) hn1 (by first | rfl | with_unfolding_all rfl | kernel_rfl) (ldLoc (v := .ref x) hn1 (by first | rfl | with_unfolding_all rfl | kernel_rfl) ?_)
  have dnL : s.heap.objs.size ≠ dx := Nat.ne_of_lt (Nat.lt_of_lt_of_le hn0.lt dn)
  obtain ⟨oD1, hoD1, _⟩ := L2.lookIn_ns ns1
  refine set_plain X1 (ox := { cls := .ref C, dict := some dx, data := .fields #[.ref t0, .none, .none, .none, .bool false, .none] }) (od := some oD1) ⟨hx1, rfl, rfl, hoD1⟩ T.sa ?_
  refine storeMore T.toEC X1 hx1 ns1 (Within.cons "index" v0 Within.nil) (by show 1 ≤ 1000; decide) T.n1 (fun h3 tk3 k3 ns2 => ?_)
  show wpAny _ _ (execs _ _) _ _ _
  refine wpAny_execs_nil (hq h3 tk3 dx (fun b o hb e => k3 b o (fun z => ?_) (k2 b o hb (k b o e))) (k3 _ _ (Ne.symm dne) hx1) (Nat.le_of_lt (Nat.lt_of_lt_of_le hn0.lt dn)) dne ns2)
  rw [z] at e
  exact absurd (Nat.lt_trans (Heap.lt_size e) (Nat.lt_of_lt_of_le hn0.lt dn)) (Nat.lt_irrefl _)
theorem madeBrK {prog : Program} {w : World} {A : Around} {R : Result → Shared → Prop} {s : Shared} {K : Frag} {C fI : Addr} {B newId initId : String} {bmB : List Value} {v0 v1 : Value}
    (T : ClsBr K C fI B newId initId bmB) (X : K.In s.heap) (hlim : s.heap.NoLimit) (hroom : A.depth + 1 < recursionLimit)
    (hq : ∀ h' tk e d, Made s.heap h' e C d (fun (y : Str) => if y = "shown" then some v1 else if y = "index" then some v0 else none) → R (.ok (.ret (.ref e))) { s with heap := h', toks := tk }) :
    codeAny (model prog w) A (.call (.ref C) ⟨[], [("index", v0), ("shown", v1)]⟩) R s := by
  obtain ⟨hp, g, dr, tk, os⟩ := s
  have k : ∀ b o, hp.get? b = some o → ((hp.push (kdv_tup [])).push (HandSPX.excO C hp.objs.size)).get? b = some o := fun b o e => Heap.get?_push_of_some _ (Heap.get?_push_of_some _ e)
  have hget : ((hp.push (kdv_tup [])).push (HandSPX.excO C hp.objs.size)).get? (hp.objs.size + 1) = some (HandSPX.excO C hp.objs.size) := by heap_get
  refine madeBy T.toEC X T.iC T.tC (by rw [sizeLine_eq]; simp) ?_
  refine initBrK (s := ⟨(hp.push (kdv_tup [])).push (HandSPX.excO C hp.objs.size), g, dr, tk, os⟩) T (X.keeps k) (hlim.keeps k) hget (noneOf X (Nat.le_succ _)) ?_ (fun h' tk' dx k' hx dn dne hns => ?_)
  · show A.depth + 1 < recursionLimit
    exact hroom
  · have old : ∀ b o, hp.get? b = some o → h'.get? b = some o := fun b o e => k' b o (Nat.ne_of_lt (Nat.lt_succ_of_lt (Heap.lt_size e))) (k b o e)
    have z : hp.objs.size ≤ dx := by
      have q := dn
      simp only [Heap.size_push] at q
      omega
    exact ⟨rfl, hq h' tk' (hp.objs.size + 1) dx ⟨old, Nat.le_succ _, ⟨_, hx⟩, z, dne, hns⟩⟩
theorem initBrR {prog : Program} {w : World} {A : Around} {R : Result → Shared → Prop} {s : Shared} {K : Frag} {C fI x t0 : Addr} {B newId initId : String} {bmB : List Value} {v0 v1 : Value}
    (T : ClsBr K C fI B newId initId bmB) (X : K.In s.heap) (hlim : s.heap.NoLimit) (hx : s.heap.get? x = some (HandSPX.excO C t0)) (hnx : K.lookup x = none) (hroom : A.depth < recursionLimit)
    (hq : ∀ h' tk dx, (∀ b o, b ≠ x → s.heap.get? b = some o → h'.get? b = some o) → h'.get? x = some { cls := .ref C, dict := some dx, data := .fields #[.ref t0, .none, .none, .none, .bool false, .none] } → s.heap.objs.size ≤ dx → dx ≠ x → h'.Ns1 dx (fun (y : Str) => if y = "shown" then some v1 else if y = "index" then some v0 else none) → R (.ok (.ret .none)) { s with heap := h', toks := tk }) :
    codeAny (model prog w) A (.call (.ref fI) ⟨[.ref x], [("shown", v1), ("index", v0)]⟩) R s := by
  obtain ⟨oc, od, doc, pm, kV, an, cdv, ct, osl, qual, p0, p1, p2, q00, q01, q02, q03, q10, q11, q12, q13, ho, hcd⟩ := T.fn
  refine Att.call_fn (binds := [("self", .ref x), ("index", v0), ("shown", v1)]) X hlim ho hcd hroom (PySem.BindsTo.of_eq (by first | rfl | with_unfolding_all rfl)) (by first | rfl | decide | with_unfolding_all rfl) (fun s1 IC => ?_) rfl rfl rfl
  obtain ⟨h1, tk1, rfl⟩ := IC.toInCall.same
  have k : ∀ b o, s.heap.get? b = some o → h1.get? b = some o := IC.toInCall.keep
  have hn0 := IC.toInCall.ns
  have hxL : s.heap.objs.size ≠ x := Nat.ne_of_gt (Heap.lt_size hx)
  have X0 : K.In h1 := X.keeps k
  have hx0 := k _ _ hx
  show wpAny _ _ (execs _ _) _ _ _
  refine wpAny_execs_cons (plainObj_wpAny_Assign_Attribute ?_)
  refine ldLoc (v := v0) hn0 (by first | rfl | with_unfolding_all rfl | kernel_rfl) (ldLoc (v := .ref x) hn0 (by first | rfl | with_unfolding_all rfl | kernel_rfl) ?_)
  refine set_plain X0 (ox := HandSPX.excO C t0) (od := none) ⟨hx0, rfl, rfl, trivial⟩ T.sa ?_
  refine storeNew T.toEC X0 hx0 T.n0 (fun h2 tk2 dx k2 dn dne hx1 ns1 => ?_)
  have X1 : K.In h2 := fun a o e => k2 a o (fun z => by rw [z, hnx] at e; cases e) (X0 a o e)
  have hn1 : h2.Ns s.heap.objs.size _ := let ⟨o, es, ep, e, r⟩ := hn0; ⟨o, es, ep, k2 _ _ hxL e, r⟩
  show wpAny _ _ (execs _ _) _ _ _
  refine wpAny_execs_cons (plainObj_wpAny_Assign_Attribute ?_)
  refine ldLoc (v := v1) hn1 (by first | rfl | with_unfolding_all rfl | kernel_rfl) (ldLoc (v := .ref x) hn1 (by first | rfl | with_unfolding_all rfl | kernel_rfl) ?_)
  have dnL : s.heap.objs.size ≠ dx := Nat.ne_of_lt (Nat.lt_of_lt_of_le hn0.lt dn)
  obtain ⟨oD1, hoD1, _⟩ := L2.lookIn_ns ns1
  refine set_plain X1 (ox := { cls := .ref C, dict := some dx, data := .fields #[.ref t0, .none, .none, .none, .bool false, .none] }) (od := some oD1) ⟨hx1, rfl, rfl, hoD1⟩ T.sa ?_
  refine storeMore T.toEC X1 hx1 ns1 (Within.cons "index" v0 Within.nil) (by show 1 ≤ 1000; decide) T.n1 (fun h3 tk3 k3 ns2 => ?_)
  show wpAny _ _ (execs _ _) _ _ _
  refine wpAny_execs_nil (hq h3 tk3 dx (fun b o hb e => k3 b o (fun z => ?_) (k2 b o hb (k b o e))) (k3 _ _ (Ne.symm dne) hx1) (Nat.le_of_lt (Nat.lt_of_lt_of_le hn0.lt dn)) dne ns2)
  rw [z] at e
  exact absurd (Nat.lt_trans (Heap.lt_size e) (Nat.lt_of_lt_of_le hn0.lt dn)) (Nat.lt_irrefl _)
theorem madeBrR {prog : Program} {w : World} {A : Around} {R : Result → Shared → Prop} {s : Shared} {K : Frag} {C fI : Addr} {B newId initId : String} {bmB : List Value} {v0 v1 : Value}
    (T : ClsBr K C fI B newId initId bmB) (X : K.In s.heap) (hlim : s.heap.NoLimit) (hroom : A.depth + 1 < recursionLimit)
    (hq : ∀ h' tk e d, Made s.heap h' e C d (fun (y : Str) => if y = "shown" then some v1 else if y = "index" then some v0 else none) → R (.ok (.ret (.ref e))) { s with heap := h', toks := tk }) :
    codeAny (model prog w) A (.call (.ref C) ⟨[], [("shown", v1), ("index", v0)]⟩) R s := by
  obtain ⟨hp, g, dr, tk, os⟩ := s
  have k : ∀ b o, hp.get? b = some o → ((hp.push (kdv_tup [])).push (HandSPX.excO C hp.objs.size)).get? b = some o := fun b o e => Heap.get?_push_of_some _ (Heap.get?_push_of_some _ e)
  have hget : ((hp.push (kdv_tup [])).push (HandSPX.excO C hp.objs.size)).get? (hp.objs.size + 1) = some (HandSPX.excO C hp.objs.size) := by heap_get
  refine madeBy T.toEC X T.iC T.tC (by rw [sizeLine_eq]; simp) ?_
  refine initBrR (s := ⟨(hp.push (kdv_tup [])).push (HandSPX.excO C hp.objs.size), g, dr, tk, os⟩) T (X.keeps k) (hlim.keeps k) hget (noneOf X (Nat.le_succ _)) ?_ (fun h' tk' dx k' hx dn dne hns => ?_)
  · show A.depth + 1 < recursionLimit
    exact hroom
  · have old : ∀ b o, hp.get? b = some o → h'.get? b = some o := fun b o e => k' b o (Nat.ne_of_lt (Nat.lt_succ_of_lt (Heap.lt_size e))) (k b o e)
    have z : hp.objs.size ≤ dx := by
      have q := dn
      simp only [Heap.size_push] at q
      omega
    exact ⟨rfl, hq h' tk' (hp.objs.size + 1) dx ⟨old, Nat.le_succ _, ⟨_, hx⟩, z, dne, hns⟩⟩
def argsNo (p0 : Pos) : Arguments := { posonlyargs := [], args := [{ arg := "self", annotation := none, pos := p0 }], vararg := none, kwonlyargs := [], kw_defaults := [], kwarg := none, defaults := [] }
def bodyNo (q0 : Pos) : List Stmt := [.Pass q0]
def scopeNo : Scope := { kind := .function, names := [(PySem.Str.ofString "self", .local)], isGenerator := false, isCoroutine := false, more := [] }
/-- the class at C, its __init__ at fI -/
structure ClsNo (K : Frag) (C fI : Addr) (B newId initId : String) (bmB : List Value) : Prop extends EC K C B newId initId bmB where
  iC : findIn K (.ref C) "__init__" = some (some (.ref fI))
  tC : typeIn K (.ref fI) = some (.type "function")
  fn : ∃ (oc : Value) (od : Option Addr) (doc pm kV : Value) (an : Option Addr) (cdv ct : Value) (osl : Array (Option Value)) (qual : Str) (p0 q0 : Pos),
    K.lookup fI = some ⟨oc, od, .func (fnOf "__init__" qual (argsNo p0) (bodyNo q0) scopeNo .none kV doc pm an cdv ct), osl⟩ ∧ codeIn K cdv qual = true
theorem initNoP {prog : Program} {w : World} {A : Around} {R : Result → Shared → Prop} {s : Shared} {K : Frag} {C fI x t0 : Addr} {B newId initId : String} {bmB : List Value} 
    (T : ClsNo K C fI B newId initId bmB) (X : K.In s.heap) (hlim : s.heap.NoLimit) (hx : s.heap.get? x = some (HandSPX.excO C t0)) (hnx : K.lookup x = none) (hroom : A.depth < recursionLimit)
    (hq : ∀ h' tk, (∀ b o, s.heap.get? b = some o → h'.get? b = some o) → R (.ok (.ret .none)) { s with heap := h', toks := tk }) :
    codeAny (model prog w) A (.call (.ref fI) ⟨[.ref x], []⟩) R s := by
  obtain ⟨oc, od, doc, pm, kV, an, cdv, ct, osl, qual, p0, q0, ho, hcd⟩ := T.fn
  refine Att.call_fn (binds := [("self", .ref x)]) X hlim ho hcd hroom (PySem.BindsTo.of_eq (by first | rfl | with_unfolding_all rfl)) (by first | rfl | decide | with_unfolding_all rfl) (fun s1 IC => ?_) rfl rfl rfl
  obtain ⟨h1, tk1, rfl⟩ := IC.toInCall.same
  have k : ∀ b o, s.heap.get? b = some o → h1.get? b = some o := IC.toInCall.keep
  have hn0 := IC.toInCall.ns
  have hxL : s.heap.objs.size ≠ x := Nat.ne_of_gt (Heap.lt_size hx)
  have X0 : K.In h1 := X.keeps k
  have hx0 := k _ _ hx

  show wpAny _ _ (execs _ _) _ _ _
  refine wpAny_execs_cons (wpAny_Pass ?_)
  show wpAny _ _ (execs _ _) _ _ _
  exact wpAny_execs_nil (hq h1 tk1 k)
theorem madeNoP {prog : Program} {w : World} {A : Around} {R : Result → Shared → Prop} {s : Shared} {K : Frag} {C fI : Addr} {B newId initId : String} {bmB : List Value} 
    (T : ClsNo K C fI B newId initId bmB) (X : K.In s.heap) (hlim : s.heap.NoLimit) (hroom : A.depth + 1 < recursionLimit)
    (hq : ∀ h' tk e, (∀ b o, s.heap.get? b = some o → h'.get? b = some o) → s.heap.objs.size ≤ e → (∃ t1 : Addr, h'.get? e = some { cls := .ref C, data := .fields #[.ref t1, .none, .none, .none, .bool false, .none] }) → R (.ok (.ret (.ref e))) { s with heap := h', toks := tk }) :
    codeAny (model prog w) A (.call (.ref C) ⟨[], []⟩) R s := by
  obtain ⟨hp, g, dr, tk, os⟩ := s
  have k : ∀ b o, hp.get? b = some o → ((hp.push (kdv_tup [])).push (HandSPX.excO C hp.objs.size)).get? b = some o := fun b o e => Heap.get?_push_of_some _ (Heap.get?_push_of_some _ e)
  have hget : ((hp.push (kdv_tup [])).push (HandSPX.excO C hp.objs.size)).get? (hp.objs.size + 1) = some (HandSPX.excO C hp.objs.size) := by heap_get
  refine madeBy T.toEC X T.iC T.tC (by rw [sizeLine_eq]; simp) ?_
  refine initNoP (s := ⟨(hp.push (kdv_tup [])).push (HandSPX.excO C hp.objs.size), g, dr, tk, os⟩) T (X.keeps k) (hlim.keeps k) hget (noneOf X (Nat.le_succ _)) ?_ (fun h' tk' k' => ?_)
  · show A.depth + 1 < recursionLimit
    exact hroom
  · exact ⟨rfl, hq h' tk' (hp.objs.size + 1) (fun b o e => k' b o (k b o e)) (Nat.le_succ _) ⟨_, k' _ _ hget⟩⟩
end XC

set_option Elab.async false
set_option maxRecDepth 100000
set_option maxHeartbeats 4000000
/-! The same over the layer: readings of a class's call, of a field, of isinstance. -/
namespace L2.XK
open PySem PySem.Spec PyProof.Rows XC
section
variable {X : Cx} {pins : List (Addr × Obj)} {σ : St} {H1 : Hp} {s1 : Shared}

theorem laidExc {h' : Heap} {e C d : Addr} {m : Str → Option Value} {fs : List (Str × V)} {tk' : Nat} (I1 : Inv X pins σ H1 s1)
    (M : Made s1.heap h' e C d m) (r : ∀ f, RelO (fs.lookup f) (m f)) :
    Inv X pins σ (upd (upd H1 d (.xd fs)) e (exo e C (some d))) { s1 with heap := h', toks := tk' } ∧ H1 e = none ∧ H1 d = none := by
  obtain ⟨t1, hoe⟩ := M.obj
  have he : H1 e = none := I1.hok.fresh M.new
  have hd : H1 d = none := I1.hok.fresh M.dbig
  obtain ⟨G, g1, g2⟩ := L2.restrict h' fun b => decide (b ≠ e)
  have gk : ∀ b, b ≠ e → G.get? b = h'.get? b := fun b hb => g1 b (decide_eq_true hb)
  have ge : G.get? e = none := g2 e (by simp)
  have old : ∀ b o, s1.heap.get? b = some o → G.get? b = some o := fun b o q => by
    refine (gk b ?_).trans (M.keep b o q)
    exact Nat.ne_of_lt (Nat.lt_of_lt_of_le (Heap.lt_size q) M.new)
  have ob : ObjOk X.prog X.w (upd H1 d (.xd fs)) G d (.xd fs) :=
    ⟨m, M.ns.at (fun o q => (gk d M.dne).trans q), r⟩
  have J : Inv X pins σ (upd H1 d (.xd fs)) { s1 with heap := G, toks := tk' } := I1.laid (t' := tk') old M.dbig ob
  have he2 : (upd H1 d (.xd fs)) e = none := by
    rw [upd_ne (Ne.symm M.dne)]
    exact he
  refine ⟨?_, he, hd⟩
  refine Inv.laidN (s := { s1 with heap := G, toks := tk' }) (h' := h') (t' := tk') J (fun b u q => ?_) ge he2 (exo_ok hoe)
  have hb : b ≠ e := fun z => by
    have q' : G.get? b = some u := q
    rw [z, ge] at q'
    cases q'
  exact (gk b hb).symm.trans q

/-- C(..): vs the values in the order written -/
def tNew (C : Addr) (fsOf : List V → Option (List (Str × V))) (ta : TA) : TE := fun σ H Q => ta σ H fun vs H1 => ∃ fs, fsOf vs = some fs ∧
  ∀ a d, H1 a = none → H1 d = none → d ≠ a → Q (.ref a) (upd (upd H1 d (.xd fs)) a (exo a C (some d)))

/-- what a class's maker gives: n values us, by position and behind the names ks -/
def Maker (X : Cx) (C : Addr) (n : Nat) (ks : List Str) (fsOf : List V → Option (List (Str × V))) : Prop :=
  ∀ (s1 : Shared) (vs : List V) (us ws : List Value) (fs : List (Str × V)) (R : Result → Shared → Prop), X.K.In s1.heap → s1.heap.NoLimit →
    us.length = n → ws.length = ks.length → Vals vs (us ++ ws) → fsOf vs = some fs →
    (∀ h' tk e d m, Made s1.heap h' e C d m → (∀ f, RelO (fs.lookup f) (m f)) → R (.ok (.ret (.ref e))) { s1 with heap := h', toks := tk }) →
    codeAny (model X.prog X.w) X.A (.call (.ref C) ⟨us, ks.zip ws⟩) R s1

theorem pe_newP {C : Addr} {n : Nat} {x : Str} {p pos : Pos} {e : Expr} {es : List Expr} {ta : TA} {fsOf : List V → Option (List (Str × V))}
    (mk : Maker X C n [] fsOf) (hl : ∀ vs fs, fsOf vs = some fs → vs.length = n) (kC : PySem.W.keepIn X.K (.ref C) = true) (gC : X.mg x = some (.ref C)) (ha : PA X (e :: es) ta) (hg : Gl X x := by rfl)
    (hdb : (x == ("__debug__" : Str)) = false := by decide)
    (he : starEach (e :: es) X.env = (false, eval e X.env) :: starEach es X.env := by rfl) (hpl : (backTo pos (starEach es X.env)).any (·.1) = false := by rfl) :
    PE X (.Call (.Name x p) (e :: es) [] pos) (tNew C fsOf ta) := by
  refine ⟨fun pins s σ H Q I h => ?_⟩
  refine wpAny_Call_Name_kw (ld_glob I hg gC ?_ hdb)
  refine PySem.W.callWith_K (h₀ := X.base) I.ok.mod.kin kC (thn (ha.run pos pins s σ H _ I h) fun us s1 hh => ?_) he hpl
  obtain ⟨vs, H1, I1, r1, fs, ef, q1⟩ := hh
  refine ⟨I1.kIn, ?_⟩
  show wpAny _ _ (call (.ref C) us) _ _ _
  refine wpAny_call (mk s1 vs us [] fs _ I1.kIn I1.nolimit ?_ rfl (by rw [List.append_nil]; exact r1) ef fun h' tk e d m M r => ?_)
  · rw [← r1.length]
    exact hl vs fs ef
  · obtain ⟨J, he, hd⟩ := laidExc (tk' := tk) I1 M r
    exact ⟨.ref e, _, J, rfl, q1 e d he hd M.dne⟩

theorem pe_newK {C : Addr} {ks : List Str} {x : Str} {p pos : Pos} {kws : List Keyword} {tk : TA} {fsOf : List V → Option (List (Str × V))}
    (mk : Maker X C 0 ks fsOf) (hl : ∀ vs fs, fsOf vs = some fs → vs.length = ks.length) (kC : PySem.W.keepIn X.K (.ref C) = true) (gC : X.mg x = some (.ref C)) (hkw : PK X kws tk) (hg : Gl X x := by rfl)
    (hdb : (x == ("__debug__" : Str)) = false := by decide)
    (hall : (backToKw pos (keywordEach kws X.env)).all (·.1.isSome) = true := by rfl) (hks : (backToKw pos (keywordEach kws X.env)).filterMap (·.1) = ks := by rfl)
    (hpl : ((backTo pos (starEach [] X.env)).any (·.1) || (backToKw pos (keywordEach kws X.env)).any (·.1.isNone)) = false := by rfl) :
    PE X (.Call (.Name x p) [] kws pos) (tNew C fsOf tk) := by
  refine ⟨fun pins s σ H Q I h => ?_⟩
  refine wpAny_Call_Name_kw (ld_glob I hg gC ?_ hdb)
  refine PySem.W.callWith_KW0 (h₀ := X.base) I.ok.mod.kin kC hall ?_ hpl
  refine thn (hkw.run pos pins s σ H _ I h) fun ws s1 hh => ?_
  obtain ⟨vs, H1, I1, r1, fs, ef, q1⟩ := hh
  refine ⟨I1.kIn, ?_⟩
  rw [hks]
  show wpAny _ _ (call (.ref C) [] (ks.zip ws)) _ _ _
  refine wpAny_call (mk s1 vs [] ws fs _ I1.kIn I1.nolimit rfl ?_ r1 ef fun h' tk e d m M r => ?_)
  · rw [← r1.length]
    exact hl vs fs ef
  · obtain ⟨J, he, hd⟩ := laidExc (tk' := tk) I1 M r
    exact ⟨.ref e, _, J, rfl, q1 e d he hd M.dne⟩

/-- C() of a class whose __init__ stores nothing -/
theorem pe_new0 {C fI : Addr} {B newId initId : String} {bmB : List Value} {x : Str} {p pos : Pos} {k : Nat}
    (T : ClsNo X.K C fI B newId initId bmB) (hr : Room k X.A) (gC : X.mg x = some (.ref C)) (hg : Gl X x := by rfl) (hdb : (x == ("__debug__" : Str)) = false := by decide) :
    PE X (.Call (.Name x p) [] [] pos) (fun σ H Q => ∀ a, H a = none → Q (.ref a) (upd H a (exo a C none))) := by
  refine ⟨fun pins s σ H Q I h => ?_⟩
  refine wpAny_Call_Name_kw (ld_glob I hg gC ?_ hdb)
  refine PySem.W.callWith_K0 I.kIn T.kC ?_
  show wpAny _ _ (call (.ref C) []) _ _ _
  refine wpAny_call (madeNoP T I.kIn I.nolimit (by have := hr.dp; omega) fun h' tk e k hn ho => ?_)
  obtain ⟨t1, ho⟩ := ho
  exact ⟨.ref e, _, I.laid (t' := tk) k hn (exo_ok ho), rfl, h e (I.hok.fresh hn)⟩

/-- e.f, e an exception -/
def tXFld (K : PySem.W.Frag) (f : Str) (te : TE) : TE := fun σ H Q => te σ H fun x H1 => ∃ (a C d : Addr) (fs : List (Str × V)) (v : V), x = .ref a ∧ H1 a = some (exo a C (some d)) ∧ H1 d = some (.xd fs) ∧ fs.lookup f = some v ∧
  (∃ B newId initId bmB, EC K C B newId initId bmB) ∧ PySem.W.findIn K (.ref C) f = some none ∧ Q v H1
theorem pe_xfld {e : Expr} {te : TE} {f : Str} {pos : Pos} (he : PE X e te) (hb : attributeBase e f X.env (eval e X.env) = eval e X.env := by rfl) :
    PE X (.Attribute e f pos) (tXFld X.K f te) := by
  refine ⟨fun pins s σ H Q I h => ?_⟩
  refine attr_of hb (thn (he.run pins s σ H _ I h) fun u s1 hh => ?_)
  obtain ⟨x, H1, I1, rx, a, C, d, fs, v, ex, ea, ed, el, ⟨B, newId, initId, bmB, T⟩, nf, q⟩ := hh
  subst ex
  obtain rfl : u = Value.ref a := rx
  obtain ⟨t1, ha⟩ := exo_at I1.hok ea
  obtain ⟨mA, hns, hr⟩ := (show ObjOk X.prog X.w H1 s1.heap d (.xd fs) from I1.hok d _ ed)
  obtain ⟨od, ho, hl⟩ := lookIn_ns hns
  obtain ⟨u, hu, ru⟩ := RelO.some_of (v := v) (o := mA f) (by rw [← el]; exact hr f)
  have J : PySem.W.InstAt s1.heap a _ C (some od) := ⟨ha, rfl, rfl, ho⟩
  exact HandSPX.exc_get I1.kIn J T.ga T.gg T.exC (PySem.W.findObj_own T.hd nf rfl (by rw [hl, hu])) (handed_of ru) ⟨v, H1, I1.tok _, ru, q⟩

/-- what isinstance asks of the class -/
structure XIs (K : PySem.W.Frag) (C : Addr) : Prop where
  cl : (PySem.W.clsIn K C).isSome = true
  ga : PySem.W.findIn K (.ref C) "__getattribute__" = some (some (.builtin "BaseException.__getattribute__"))
  gg : PySem.W.findIn K (.ref C) "__getattr__" = some none
  exC : PySem.W.subIn K (.ref C) (.type "BaseException") = some true
  cC : PySem.W.findIn K (.ref C) "__class__" = some (some (.builtin "object.__class__"))
  hn : PySem.W.specialIn K (.builtin "object.__class__") "__get__" = some (some (.builtin "getset_descriptor.__get__"))
  tk : PySem.W.takesIn K (.builtin "object.__class__") = some true
  mo : PySem.W.mroIn K C (.type "object") = some true
/-- isinstance(e, T), e an exception that was made, T one class -/
def rIsX (K : PySem.W.Frag) : List V → Hp → VK → Prop := fun xs H Q => ∃ (a C : Addr) (d : Option Addr) (c : V) (u : Value) (b : Bool), xs = [.ref a, c] ∧ H a = some (exo a C d) ∧
  (∀ z, d = some z → ∃ fs, H z = some (.xd fs)) ∧ XIs K C ∧ ClsV c u ∧ PySem.W.kitOne K (.ref C) u = some b ∧ Q (.bl b) H
theorem call_isX : CallR X (.builtin "isinstance") (rIsX X.K) := by
  intro pins s σ H xs us Q I r h
  obtain ⟨a, C, d, c, u, b, rfl, ea, ed, T, k, e, q⟩ := h
  obtain ⟨u1, u2, rfl, r1, r2⟩ := vals2 r
  have e2 := k.eq r2
  subst e2
  cases (show u1 = Value.ref a from r1)
  obtain ⟨t1, ha⟩ := exo_at I.hok ea
  cases d with
  | none =>
    have J : PySem.W.InstAt s.heap a _ C none := ⟨ha, rfl, rfl, trivial⟩
    exact PySem.W.kia_one (PySem.W.kitx_exc T.cl T.ga T.gg T.exC T.cC T.hn T.tk T.mo) I.kIn J e (fun z => nomatch z) fun tk => ⟨.bl b, H, I.tok tk, rfl, q⟩
  | some d =>
    obtain ⟨fs, ez⟩ := ed d rfl
    obtain ⟨mA, hns, hr⟩ := (show ObjOk X.prog X.w H s.heap d (.xd fs) from I.hok d _ ez)
    obtain ⟨od, ho, hl⟩ := lookIn_ns hns
    have J : PySem.W.InstAt s.heap a _ C (some od) := ⟨ha, rfl, rfl, ho⟩
    exact PySem.W.kia_one (PySem.W.kitx_exc T.cl T.ga T.gg T.exC T.cC T.hn T.tk T.mo) I.kIn J e (fun z => nomatch z) fun tk => ⟨.bl b, H, I.tok tk, rfl, q⟩
end
end L2.XK

set_option Elab.async false
set_option maxRecDepth 100000
set_option maxHeartbeats 4000000
/-! A def's promise where nothing of the machine's own guards is under way (repr asks that), down to the law's end; repr of data. -/
namespace L2.XK
open PySem PySem.Spec PyProof.Rows XC

/-- the module table's object is part of the base -/
def Sys (base : Heap) : Prop := ∃ o, base.get? sysModules = some o

/-- FnOk, for calls with no guard under way -/
structure FnG (P : Program) (w : World) (K : PySem.W.Frag) (mg : Str → Option Value) (base : Heap) (k : Nat) (f : Addr) (fd : FuncData)
    (ps : List Str) (sp : Sp) : Prop where
  len : ∀ vs H Q E, sp vs H Q E → vs.length = ps.length
  run : ∀ (A : Around) (outer : List Env) (s : Shared) (H : Hp) (args : Args) (us : List Value) (vs : List V) (Q : VK) (E : XK), Room k A →
    A.guards = some [] → Env0 P w K mg base A outer s H → BindsTo s fd args (ps.zip us) → Vals vs us → sp vs H Q E →
    codeAny (model P w) A (.call (.ref f) args) (CR CX0 outer P w H s Q E) s
section
variable {P : Program} {w : World} {K : PySem.W.Frag} {mg : Str → Option Value} {base : Heap}
theorem Fun.okG {x qual : Str} {st : Stmt} {f : Addr} {fd : FuncData} {N ps : List Str} {k : Nat} {sp : Sp} (F : Fun K x qual st f fd)
    (S : FnScope N ps (defScope st)) (len : ∀ vs H Q E, sp vs H Q E → vs.length = ps.length)
    (hbody : ∀ (cdv : Value) (A : Around) (outer : List Env) (s : Shared) (H : Hp) (vs : List V) (Q : VK) (E : XK),
      Room k (A.deeper (envOfC qual (defScope st) s.heap.objs.size f cdv)) →
      (A.deeper (envOfC qual (defScope st) s.heap.objs.size f cdv)).guards = some [] → sp vs H Q E →
      ∃ t, PSs (cxOf CX0 P w K mg base N qual (defScope st) f cdv A outer s H E).nox (defBody st) t ∧
        t { nx := fun _ H' => Q .non H', rt := Q } (start N vs) H) : FnG P w K mg base (k + 1) f fd ps sp := by
  obtain ⟨oc, od, kV, doc, pm, an, cdv, ct, osl, rfl, lk, hcd⟩ := F.ex
  refine ⟨len, fun A outer s H args us vs Q E hr hg e0 hb r hsp => ?_⟩
  have hl := len _ _ _ _ hsp
  have keep : ∀ b o, base.get? b = some o → s.heap.get? b = some o := fun b o e => (e0.bs b o e).1
  have KX : K.In s.heap := e0.mod.kin.keeps keep
  have lim : s.heap.NoLimit := e0.mod.nolimit.keeps keep
  have kinds : ∀ y ∈ ps.zip us, (defScope st).names.lookup y.1 = some .local ∨
      ((defScope st).names.lookup y.1 = some .cell ∧ ((cellsFrom (s.heap.objs.size + 1) (defScope st).names []).lookup y.1).isSome = true) := by
    rintro ⟨n, v⟩ hy
    rcases S.par n (List.of_mem_zip hy).1 with q | q
    · exact .inl q
    · exact .inr ⟨q, PySem.W.cellsFrom_some _ _ _ (.inl q)⟩
  refine codeAny_call_function hr.depth (KX _ _ lk) rfl S.co S.gen rfl (PySem.W.codeRec_of KX hcd) (hb _ _ _ _ ?_)
  refine wpAny_newFunctionEnv_cells S.kind kinds fun env he s1 x => ?_
  subst he
  refine ⟨lim.keeps x.toInCall.keep, codeAny_func ?_⟩
  obtain ⟨t, ht, hq⟩ := hbody cdv A outer s H vs Q E (hr.deeper _) hg hsp
  have I := inv_start (CX := CX0) (E := E) S hr.hd e0 hl r x
  refine wpAny_mono (ht.nox.run [] s1 (start N vs) H _ I hq) (fun fl s' hs => ?_) fun e s' hs => hs
  cases fl with
  | ret u =>
    obtain ⟨v, σ', H', J, rv, q⟩ := hs
    exact ⟨v, H', J.os, J.bare, J.base, J.hok, rv, q⟩
  | next =>
    obtain ⟨σ', H', J, q⟩ := hs
    exact ⟨V.non, H', J.os, J.bare, J.base, J.hok, rfl, q⟩
  | brk =>
    obtain ⟨_, _, _, q⟩ := hs
    exact q.elim
  | cont =>
    obtain ⟨_, _, _, q⟩ := hs
    exact q.elim
end

section
variable {X : Cx} {k : Nat} {f : Addr} {fd : FuncData} {ps : List Str} {sp : Sp} {x : Str} {p pos : Pos} {e : Expr} {es : List Expr} {t : TA}
theorem pe_callG (F : FnG X.prog X.w X.K X.mg X.base k f fd ps sp) (hr : Room k X.A) (hgd : X.A.guards = some []) (hg : Gl X x)
    (hm : X.mg x = some (.ref f)) (hk : PySem.W.keepIn X.K (.ref f) = true) (hb : Binds X.K fd ps [])
    (ha : PA X (e :: es) t) (hdb : (x == ("__debug__" : Str)) = false := by decide)
    (he : starEach (e :: es) X.env = (false, eval e X.env) :: starEach es X.env := by rfl)
    (hpl : (backTo pos (starEach es X.env)).any (·.1) = false := by rfl) :
    PE X (.Call (.Name x p) (e :: es) [] pos) (tCall sp [] E0 t) := by
  refine ⟨fun pins s σ H Q I h => ?_⟩
  refine wpAny_Call_Name_kw (ld_glob I hg hm ?_ hdb)
  refine PySem.W.callWith_K (h₀ := X.base) I.ok.mod.kin hk ?_ he hpl
  refine thn (ha.run pos pins s σ H _ I h) fun us s1 ⟨vs, H1, I1, r, q0⟩ => ⟨I1.kIn, ?_⟩
  have q : sp (vs ++ []) H1 Q E0 := q0
  rw [List.append_nil] at q
  have hl : us.length = ps.length := by
    rw [← r.length]
    exact F.len _ _ _ _ q
  have hbb := hb s1 us I1.kIn (by rw [List.append_nil]; exact hl)
  rw [List.append_nil] at hbb
  refine wpAny_call (codeAny_mono (F.run X.A X.stack s1 H1 ⟨us, []⟩ us vs Q E0 hr hgd I1.env0 hbb r q) fun r s' hq => ?_)
  cases r with
  | error e => exact hq.elim
  | ok fl =>
    cases fl with
    | ret u => exact I1.after hq
    | next => exact hq.elim
    | brk => exact hq.elim
    | cont => exact hq.elim
theorem pe_callG0 (F : FnG X.prog X.w X.K X.mg X.base k f fd ps sp) (hr : Room k X.A) (hgd : X.A.guards = some []) (hg : Gl X x)
    (hm : X.mg x = some (.ref f)) (hk : PySem.W.keepIn X.K (.ref f) = true) (hb : Binds X.K fd ps [])
    (hdb : (x == ("__debug__" : Str)) = false := by decide) : PE X (.Call (.Name x p) [] [] pos) (tCall sp [] E0 tNil) := by
  refine ⟨fun pins s σ H Q I h => ?_⟩
  refine wpAny_Call_Name_kw (ld_glob I hg hm ?_ hdb)
  refine PySem.W.callWith_K0 I.kIn hk ?_
  have q : sp [] H Q E0 := h
  have hbb := hb s [] I.kIn (by simpa using F.len _ _ _ _ q)
  refine wpAny_call (codeAny_mono (F.run X.A X.stack s H ⟨[], []⟩ [] [] Q E0 hr hgd I.env0 hbb .nil q) fun r s' hq => ?_)
  cases r with
  | error e => exact hq.elim
  | ok fl =>
    cases fl with
    | ret u => exact I.after hq
    | next => exact hq.elim
    | brk => exact hq.elim
    | cont => exact hq.elim
end

/-- the law's own call: nothing but the script is tracked, the module table stands in the base -/
theorem lawG {P : Program} {w : World} {K : PySem.W.Frag} {mg mb : Str → Option Value} {k : Nat} {fa a : Addr} {fd : FuncData} {x : Str} {sp : Sp}
    {s1 : Shared} {vs : List Value} {ns : List Int}
    (KX : K.In s1.heap) (hns : s1.heap.Ns mainGlobals mg) (hb : s1.heap.Ns builtinsNs mb) (hbb : ∀ x : Str, x ≠ "__name__" → mb x = bootBuiltins x)
    (hlim : s1.heap.NoLimit) (hsy : ∃ mm, s1.heap.Ns sysModules mm) (hg : s1.gens = #[])
    (ha : s1.heap.get? a = some { cls := .type "list", data := .seq vs.toArray }) (hi : IntsAre vs ns) (hl : ns.length ≤ sizeLine) (hr : Room k callerA)
    (F : ∀ base : Heap, K.In base → base.Ns mainGlobals mg → Sys base → FnG P w K mg base k fa fd [x] sp)
    (hbind : ∀ (s : Shared) (u : Value), BindsTo s fd ⟨[u], []⟩ [(x, u)])
    (hsp : ∀ H : Hp, Only H → SqL K H a (ns.map V.int) → sp [.ref a] H (fun v _ => v = .bl true) fun _ _ _ => False) :
    codeAny (model P w) callerA (.call (.ref fa) ⟨[.ref a], []⟩)
      (fun r s' => r = .ok (.ret (.bool true)) ∧ OldK s1.heap s'.heap ∧ s'.os = s1.os ∧ AllBare s'.gens) s1 := by
  have rv := vals_ints hi
  have lenV := hi.length
  have go : ∀ H : Hp, Only H → SqL K H a (ns.map V.int) → HOk P w H s1.heap → (∀ b, H b ≠ none → b = a ∧ K.lookup a = none) →
      codeAny (model P w) callerA (.call (.ref fa) ⟨[.ref a], []⟩)
        (fun r s' => r = .ok (.ret (.bool true)) ∧ OldK s1.heap s'.heap ∧ s'.os = s1.os ∧ AllBare s'.gens) s1 := by
    intro H hO hS hok only
    have free : ∀ {b : Addr}, b ≠ a → H b = none := fun {b} hb => by
      cases q : H b with
      | none => rfl
      | some u => exact absurd (only b (by rw [q]; simp)).1 hb
    have notA : ∀ {b : Addr} {o : Obj} {es : Array DictEntry} {ep : Nat}, s1.heap.get? b = some o → o.data = .dict es ep → b ≠ a := by
      rintro b o es ep e d rfl
      rw [ha] at e
      cases e
      cases (show Data.seq vs.toArray _ = Data.dict es ep from d)
    have nsB : ∀ {b : Addr} {m : Str → Option Value}, s1.heap.Ns b m → (hidT s1.heap H).Ns b m := by
      rintro b m ⟨o, es, ep, e, d, r⟩
      exact ⟨o, es, ep, hidT_get e (free (notA e d)), d, r⟩
    have kB : K.In (hidT s1.heap H) := fun b o e => hidT_get (KX b o e) (by
      cases q : H b with
      | none => rfl
      | some u =>
        obtain ⟨rfl, z⟩ := only b (by rw [q]; simp)
        rw [z] at e
        cases e)
    have hM : Mod K mg (hidT s1.heap H) := by
      refine ⟨kB, nsB hns, ⟨mb, nsB hb, hbb⟩, ?_⟩
      obtain ⟨mc, h1, h2⟩ := hlim
      exact ⟨mc, nsB h1, h2⟩
    have hS0 : Sys (hidT s1.heap H) := by
      obtain ⟨mm, q⟩ := hsy
      obtain ⟨o, _, _, e, _⟩ := nsB q
      exact ⟨o, e⟩
    have e0 : Env0 P w K mg (hidT s1.heap H) callerA [] s1 H := by
      refine ⟨rfl, hM, fun b o e => of_hidT e, Nat.le_of_eq (hidT_size _ _), trivial, ?_, hok, .of_eq hg⟩
      intro b hb
      exact absurd (show b ∈ ([] : List Addr) from hb) (by simp)
    refine codeAny_mono ((F _ kB (nsB hns) hS0).run callerA [] s1 H ⟨[.ref a], []⟩ [.ref a] [.ref a] _ _ hr rfl e0 (hbind s1 (.ref a)) (.cons rfl .nil) (hsp H hO hS)) fun r s' h => ?_
    cases r with
    | error e => exact h.elim
    | ok fl =>
      cases fl with
      | next => exact h.elim
      | brk => exact h.elim
      | cont => exact h.elim
      | ret u =>
        obtain ⟨v, H', os, bare, un, hok', r', q⟩ := h
        have q' : v = .bl true := q
        subst q'
        obtain rfl : u = Value.bool true := r'
        refine ⟨rfl, OldK.of_keep fun b o e => ?_, os, bare⟩
        by_cases hba : H b = none
        · exact un.keep b o e hba (by intro z; exact absurd (show b ∈ ([] : List Addr) from z) (by simp)) (by simp)
        · rcases hO b with z | ⟨ob, xs, z⟩
          · exact absurd z hba
          · obtain ⟨e1, _⟩ := hok b _ z
            obtain ⟨e2, _⟩ := hok' b _ (un.frzs b ob _ z)
            exact e2.trans (e1.symm.trans e)
  cases hk : K.lookup a with
  | some o =>
    have e := KX a o hk
    rw [ha] at e
    cases e
    have hS : SqL K (fun _ => none) a (ns.map V.int) :=
      .inr ⟨_, vs.toArray, _, hk, rfl, rfl, rfl, by rw [List.size_toArray, lenV]; exact hl, by simpa using rv⟩
    exact go (fun _ => none) (fun _ => .inl rfl) hS (fun b u z => nomatch z) fun b z => absurd rfl z
  | none =>
    have at_ : ∀ b : Addr, b = a ∨ (fun b => if b = a then some (HO.frz { cls := .type "list", data := .seq vs.toArray } (.lst (ns.map V.int))) else none) b = none := fun b => by
      by_cases hb : b = a
      · exact .inl hb
      · exact .inr (if_neg hb)
    refine go (fun b => if b = a then some (.frz { cls := .type "list", data := .seq vs.toArray } (.lst (ns.map V.int))) else none) (fun b => ?_) (.inl (.inr ⟨_, if_pos rfl⟩)) (fun b u z => ?_) fun b z => ?_
    · rcases at_ b with rfl | q
      · exact .inr ⟨_, _, if_pos rfl⟩
      · exact .inl q
    · rcases at_ b with rfl | q
      · have z' := (if_pos rfl).symm.trans z
        cases z'
        exact ⟨ha, by rw [List.length_map]; exact hl, vs, _, rv, ha⟩
      · rw [q] at z
        cases z
    · rcases at_ b with rfl | q
      · exact ⟨rfl, hk⟩
      · exact absurd q z

/-- the goal that k_head leaves -/
theorem walkG {l : PySem.W.OpenLaw} {n k : Nat} {q : Program} {loose : List Str} {XP : (Str → Option Value) → Heap → Prop} {YP : World → Heap → Prop} {d : DefRec}
    {K : Params → PySem.W.Frag} {sp : World → Sp} {x : Str}
    (hn : l.most = some n) (hn2 : n ≤ sizeLine) (hdf : d.params.defaults = []) (hr : Room k callerA) (himp : importsNone q = true)
    (hY : ∀ (w : World) (h : Heap), YP w h → (K w.params).In h)
    (F : ∀ (w : World) (mg : Str → Option Value) (fa : Addr) (h : Heap), (K w.params).In h → h.Ns mainGlobals mg → mg d.name = some (.ref fa) →
      ∃ fd : FuncData, (∀ (s : Shared) (u : Value), BindsTo s fd ⟨[u], []⟩ [(x, u)]) ∧
        ∀ base : Heap, (K w.params).In base → base.Ns mainGlobals mg → Sys base → FnG l.prog w (K w.params) mg base k fa fd [x] (sp w))
    (hsp : ∀ (w : World) (H : Hp) (a : Addr) (ns : List Int), ns.length ≤ n → (∀ m ∈ ns, Builtin.Int.intBits m ≤ 1048576) → Only H →
      SqL (K w.params) H a (ns.map V.int) → sp w [.ref a] H (fun v _ => v = .bl true) fun _ _ _ => False) :
    PySem.W.WalkO q loose XP YP l.row.toRowW d [] (fun f vs => PySem.call f vs) := by
  refine Att.attach_callB hn hdf fun w s0 s1 mg mb fa o pm cd doc a vs ns G Y ho hd hcd hmg hobj hints hlen hbits hg => ?_
  have KX := hY w _ Y
  obtain ⟨fd, hb, hF⟩ := F w mg fa _ KX G.T.g hmg
  obtain ⟨mm, hmm, _⟩ := (G.T.seer himp).mods
  exact lawG KX G.T.g G.T.b G.T.builtins G.T.nolimit ⟨mm, hmm⟩ hg hobj hints (Nat.le_trans hlen hn2) hr hF hb fun H hO hS => hsp w H a ns hlen hbits hO hS
end L2.XK

set_option Elab.async false
set_option maxRecDepth 100000
set_option maxHeartbeats 4000000
/-! repr of data (dicts too) that stands in the tracked heap. -/
namespace L2.XK
open PySem PySem.Spec PyProof.Rows XC
mutual
/-- v stands for the data d, all of it tracked -/
inductive Dx (H : Hp) : V → PyData → Prop
  | non : Dx H .non .none
  | bl (b : Bool) : Dx H (.bl b) (.bool b)
  | int (i : Int) : Dx H (.int i) (.int i)
  | str (x : Str) : Dx H (.str x) (.str x)
  | lst {a : Addr} {xs : List V} {ds : List PyData} : H a = some (.lst xs) → DxAll H xs ds → Dx H (.ref a) (.list ds)
  | tup {a : Addr} {xs : List V} {ds : List PyData} : H a = some (.tup xs) → DxAll H xs ds → Dx H (.ref a) (.tuple ds)
  | dic {a : Addr} {kvs : List (Key × V)} {ds : List (PyData × PyData)} : H a = some (.dK kvs) → DxAll H (kvs.map fun p => kV p.1) (ds.map (·.1)) →
      DxAll H (kvs.map (·.2)) (ds.map (·.2)) → Dx H (.ref a) (.dict ds)
inductive DxAll (H : Hp) : List V → List PyData → Prop
  | nil : DxAll H [] []
  | cons {v : V} {vs : List V} {d : PyData} {ds : List PyData} : Dx H v d → DxAll H vs ds → DxAll H (v :: vs) (d :: ds)
end
mutual
theorem Dx.same {H H' : Hp} (k : ∀ b o, H b = some o → H' b = some o) : ∀ {v : V} {d : PyData}, Dx H v d → Dx H' v d
  | _, _, .non => .non
  | _, _, .bl b => .bl b
  | _, _, .int i => .int i
  | _, _, .str x => .str x
  | _, _, .lst h q => .lst (k _ _ h) (DxAll.same k q)
  | _, _, .tup h q => .tup (k _ _ h) (DxAll.same k q)
  | _, _, .dic h p q => .dic (k _ _ h) (DxAll.same k p) (DxAll.same k q)
theorem DxAll.same {H H' : Hp} (k : ∀ b o, H b = some o → H' b = some o) : ∀ {vs : List V} {ds : List PyData}, DxAll H vs ds → DxAll H' vs ds
  | _, _, .nil => .nil
  | _, _, .cons p q => .cons (Dx.same k p) (DxAll.same k q)
end
theorem DxAll.append {H : Hp} : ∀ {vs ws : List V} {ds es : List PyData}, DxAll H vs ds → DxAll H ws es → DxAll H (vs ++ ws) (ds ++ es)
  | _, _, _, _, .nil, q => q
  | _, _, _, _, .cons a b, q => .cons a (DxAll.append b q)
theorem DxAll.rep {H : Hp} {v : V} {d : PyData} (h : Dx H v d) : ∀ n, DxAll H (List.replicate n v) (List.replicate n d)
  | 0 => .nil
  | n + 1 => .cons h (DxAll.rep h n)

theorem kV_of {P : Program} {w : World} {k : Key} {v : Value} (h : (mixKind P w).is k v = true) : RelV (kV k) v := by
  rcases keyIs_shape h with ⟨i, t, rfl, rfl⟩ | ⟨x, t, rfl, rfl⟩
  · exact ⟨t, rfl⟩
  · exact ⟨t, rfl⟩
theorem kvKeys {P : Program} {w : World} : ∀ {kvs : List (Key × V)} {vs : List (Key × Value)} {es : List DictEntry}, KV kvs vs → Pairs (mixKind P w) es vs →
    Vals (kvs.map fun p => kV p.1) (es.map (·.key)) ∧ Vals (kvs.map (·.2)) (es.map (·.val))
  | [], _, es, .nil, h => by
    cases h
    exact ⟨.nil, .nil⟩
  | (k, v) :: r, _, es, .cons (b := (k', u)) ⟨e1, e2⟩ t, h => by
    cases h with
    | cons hk hv ht =>
      obtain ⟨i1, i2⟩ := kvKeys t ht
      have e1' : k = k' := e1
      subst e1'
      refine ⟨.cons (kV_of hk) i1, .cons ?_ i2⟩
      exact Eq.mpr (congrArg (RelV v) hv) e2
section
variable {X : Cx} {pins : List (Addr × Obj)} {σ : St} {H : Hp} {s : Shared}
theorem DxAll.reads (I : Inv X pins σ H s) (hs : Sys X.base) {vs : List V} {ds : List PyData} (h : DxAll H vs ds) :
    ∀ us : List Value, Vals vs us → ∃ as, ReadsAll s.heap us ds as ∧ sysModules ∉ as := by
  refine DxAll.rec (motive_1 := fun v d _ => ∀ u, RelV v u → ∃ as, Reads s.heap u d as ∧ sysModules ∉ as)
    (motive_2 := fun vs ds _ => ∀ us, Vals vs us → ∃ as, ReadsAll s.heap us ds as ∧ sysModules ∉ as) ?_ ?_ ?_ ?_ ?_ ?_ ?_ ?_ ?_ h
  · intro u r
    cases r
    exact ⟨_, Reads.none, by simp⟩
  · intro b u r
    cases r
    exact ⟨_, Reads.bool b, by simp⟩
  · intro i u r
    obtain ⟨t, rfl⟩ := r
    exact ⟨_, Reads.int i t, by simp⟩
  · intro x u r
    obtain ⟨t, rfl⟩ := r
    exact ⟨_, Reads.str x t, by simp⟩
  · intro a xs ds ha _ ih u r
    cases r
    obtain ⟨_, its, n, rv, ho⟩ := (show ObjOk X.prog X.w H s.heap a (.lst xs) from I.hok a _ ha)
    obtain ⟨as, hr, hn⟩ := ih _ rv
    refine ⟨_, Reads.list ho rfl rfl hr, fun z => ?_⟩
    rcases List.mem_cons.mp z with z | z
    · obtain ⟨o, q⟩ := hs
      have w := (I.bs _ _ q).2
      rw [z, ha] at w
      cases w
    · exact hn z
  · intro a xs ds ha _ ih u r
    cases r
    obtain ⟨_, its, rv, o, ho, hc, n, hd⟩ := (show ObjOk X.prog X.w H s.heap a (.tup xs) from I.hok a _ ha)
    obtain ⟨as, hr, hn⟩ := ih _ rv
    exact ⟨_, Reads.tuple ho hc hd hr, hn⟩
  · intro a kvs ds ha _ _ ih1 ih2 u r
    cases r
    obtain ⟨_, hm, vs, rk, o, es, ep, ho, hc, hd, _, hp, _⟩ := (show ObjOk X.prog X.w H s.heap a (.dK kvs) from I.hok a _ ha)
    obtain ⟨v1, v2⟩ := kvKeys rk hp
    obtain ⟨as, q1, n1⟩ := ih1 _ v1
    obtain ⟨bs, q2, n2⟩ := ih2 _ v2
    refine ⟨_, Reads.dict ho hc.1 hd q1 q2, fun z => ?_⟩
    rcases List.mem_append.mp z with z | z
    · rcases List.mem_cons.mp z with z | z
      · rw [← z] at hm
        simp at hm
      · exact n1 z
    · exact n2 z
  · intro us r
    cases r
    exact ⟨_, ReadsAll.nil, by simp⟩
  · intro v vs d ds _ _ ih1 ih2 us r
    cases r with
    | cons r1 r2 =>
      obtain ⟨as, q1, n1⟩ := ih1 _ r1
      obtain ⟨bs, q2, n2⟩ := ih2 _ r2
      refine ⟨_, ReadsAll.cons q1 q2, fun z => ?_⟩
      rcases List.mem_append.mp z with z | z
      · exact n1 z
      · exact n2 z
theorem Dx.reads (I : Inv X pins σ H s) (hs : Sys X.base) {v : V} {d : PyData} {u : Value} (h : Dx H v d) (r : RelV v u) :
    ∃ as, Reads s.heap u d as ∧ sysModules ∉ as := by
  obtain ⟨as, hr, hn⟩ := DxAll.reads I hs (.cons h .nil) [u] (.cons r .nil)
  cases hr with
  | cons h1 h2 =>
    exact ⟨_, h1, fun z => hn (List.mem_append_left _ z)⟩
/-- repr(v), v a list, a tuple or a dict of data -/
theorem call_reprD (hs : Sys X.base) (hg : X.A.guards = some []) (hu : X.A.units + 200 < cLine) :
    CallR X (.builtin "repr") (fun xs H Q => ∃ a d, xs = [V.ref a] ∧ Dx H (.ref a) d ∧ d.showable = true ∧ d.shown.length ≤ sizeLine ∧ d.depth ≤ 100 ∧ Q (.str d.shown) H) := by
  intro pins s σ H xs us Q I r h
  obtain ⟨a, d, rfl, hd, hw, hz, hdp, q⟩ := h
  cases r with
  | cons r1 r2 =>
    cases r2
    cases r1
    obtain ⟨as, hr, hn⟩ := Dx.reads I hs hd rfl
    exact repr_of_reads' hr hw (fun _ => hn) hg (by omega) (fun _ _ e => e) (fun h' u tk k => ⟨.str d.shown, H, I.kept (t' := tk) k, ⟨u, rfl⟩, q⟩) hz
end
end L2.XK

set_option Elab.async false
set_option maxRecDepth 100000
set_option maxHeartbeats 4000000
/-! What else the laws' helpers ask: count over flat items, the makers of the exceptions, words for a pool of three ints. -/
namespace L2.XK
open PySem PySem.Spec PyProof.Rows XC
section
variable {X : Cx}
/-- xs.count(y), flat items -/
def rCountF (K : PySem.W.Frag) : V → List V → Hp → VK → Prop := fun x xs H Q => ∃ (a : Addr) (ys : List V) (y : V), x = V.ref a ∧ xs = [y] ∧
  SqL K H a ys ∧ flatV y = true ∧ ys.all flatV = true ∧ Q (.int (ys.countP fun z => eqV z y : Nat)) H
theorem countEq {y : V} : ∀ {ys : List V} {its : List Value}, Vals ys its → ys.all flatV = true →
    its.countP (eqU y) = ys.countP fun z => eqV z y
  | [], _, .nil, _ => rfl
  | z :: r, _, .cons (b := v) h t, k => by
    rw [List.all_cons, Bool.and_eq_true] at k
    rw [List.countP_cons, List.countP_cons, countEq t k.2, eqU_of h k.1]
theorem mt_countB : MtR X "list.count" (rCountF X.K) := by
  intro pins s σ H x xs v us Q I rx rxs h
  obtain ⟨a, ys, y, rfl, rfl, hs, fy, fys, q⟩ := h
  cases rx
  cases rxs with
  | cons ry rt =>
    rename_i uy ut
    cases rt
    obtain ⟨its, rv, ⟨⟨cls, dd, data, sl⟩, n, ho, hc, hdn, hd⟩, hlen⟩ := I.list hs
    simp only at hc hd
    subst hc hd
    refine call_meets PySem.F.slot_list_count ⟨_, ho, rfl⟩ PySem.F.entry_list_count (PySem.F.args_list_count_2 _ _)
      (SeqAt.list_countAt a its.toArray n dd sl uy (eqU y)) ⟨ho, fun u' hu' => mem_eqAt ry fy rv fys u' (by simpa using hu'), ?_⟩
    have ec : its.toArray.toList.countP (eqU y) = ys.countP fun z => eqV z y := countEq (by simpa using rv) fys
    refine ⟨.int (ys.countP fun z => eqV z y : Nat), H, I.tok _, ⟨s.toks, ?_⟩, q⟩
    show Value.int ((its.toArray.toList.countP (eqU y) : Nat) : Int) s.toks = Value.int ((ys.countP fun z => eqV z y : Nat) : Int) s.toks
    rw [ec]

/-! ### the makers -/
theorem room200 {k : Nat} {A : Around} (h : Room k A) : A.units + 200 < cLine := by
  have := h.un
  omega
def fsOne (f : Str) : List V → Option (List (Str × V))
  | [v] => some [(f, v)]
  | _ => none
theorem hlOne {f : Str} : ∀ (vs : List V) (fs : List (Str × V)), fsOne f vs = some fs → vs.length = 1
  | [_], _, _ => rfl
  | [], _, h => by cases h
  | _ :: _ :: _, _, h => by cases h
def fsTwo (f g : Str) : List V → Option (List (Str × V))
  | [v, w] => some [(g, w), (f, v)]
  | _ => none
theorem hlTwo {f g : Str} : ∀ (vs : List V) (fs : List (Str × V)), fsTwo f g vs = some fs → vs.length = 2
  | [_, _], _, _ => rfl
  | [], _, h => by cases h
  | [_], _, h => by cases h
  | _ :: _ :: _ :: _, _, h => by cases h
def fsTwoR (f g : Str) : List V → Option (List (Str × V))
  | [w, v] => some [(g, w), (f, v)]
  | _ => none
theorem hlTwoR {f g : Str} : ∀ (vs : List V) (fs : List (Str × V)), fsTwoR f g vs = some fs → vs.length = 2
  | [_, _], _, _ => rfl
  | [], _, h => by cases h
  | [_], _, h => by cases h
  | _ :: _ :: _ :: _, _, h => by cases h
theorem relOne {f : Str} {v : V} {u : Value} (r : RelV v u) (g : Str) : RelO (List.lookup g [(f, v)]) (if g = f then some u else none) :=
  relO_put (fs := []) (mA := fun _ => none) r (fun _ => True.intro) g
theorem relTwo {f g : Str} {v w : V} {u z : Value} (r : RelV v u) (r' : RelV w z) (x : Str) :
    RelO (List.lookup x [(g, w), (f, v)]) (if x = g then some z else if x = f then some u else none) :=
  relO_put (fs := [(f, v)]) (mA := fun x => if x = f then some u else none) r' (fun y => relOne r y) x
section
variable {C fI : Addr} {B newId initId : String} {bmB : List Value} {k : Nat}
theorem pairOne {vs : List V} {us : List Value} {f : Str} {fs : List (Str × V)} (r : Vals vs us) (h : fsOne f vs = some fs) : ∃ v u, vs = [v] ∧ us = [u] ∧ RelV v u ∧ fs = [(f, v)] := by
  cases r with
  | nil => cases h
  | cons a t =>
    cases t with
    | nil =>
      cases h
      exact ⟨_, _, rfl, rfl, a, rfl⟩
    | cons _ _ => cases h
theorem pairTwo {vs : List V} {us : List Value} {f g : Str} {fs : List (Str × V)} (r : Vals vs us) (h : fsTwo f g vs = some fs) :
    ∃ v w u z, vs = [v, w] ∧ us = [u, z] ∧ RelV v u ∧ RelV w z ∧ fs = [(g, w), (f, v)] := by
  cases r with
  | nil => cases h
  | cons a t =>
    cases t with
    | nil => cases h
    | cons b t =>
      cases t with
      | nil =>
        cases h
        exact ⟨_, _, _, _, rfl, rfl, a, b, rfl⟩
      | cons _ _ => cases h
theorem pairTwoR {vs : List V} {us : List Value} {f g : Str} {fs : List (Str × V)} (r : Vals vs us) (h : fsTwoR f g vs = some fs) :
    ∃ v w u z, vs = [w, v] ∧ us = [z, u] ∧ RelV v u ∧ RelV w z ∧ fs = [(g, w), (f, v)] := by
  cases r with
  | nil => cases h
  | cons a t =>
    cases t with
    | nil => cases h
    | cons b t =>
      cases t with
      | nil =>
        cases h
        exact ⟨_, _, _, _, rfl, rfl, b, a, rfl⟩
      | cons _ _ => cases h
theorem mkGvP (T : ClsGv X.K C fI B newId initId bmB) (hr : Room k X.A) : Maker X C 1 [] (fsOne "given") := by
  intro s1 vs us ws fs R hK hlim l1 l2 rv ef q
  obtain rfl : ws = [] := List.length_eq_zero_iff.mp l2
  rw [List.append_nil] at rv
  obtain ⟨v, u, rfl, rfl, r, rfl⟩ := pairOne rv ef
  exact madeGvP T hK hlim (by have := hr.dp; omega) fun h' tk e d M => q h' tk e d _ M (relOne r)
theorem mkGvK (T : ClsGv X.K C fI B newId initId bmB) (hr : Room k X.A) : Maker X C 0 ["given"] (fsOne "given") := by
  intro s1 vs us ws fs R hK hlim l1 l2 rv ef q
  obtain rfl : us = [] := List.length_eq_zero_iff.mp l1
  rw [List.nil_append] at rv
  obtain ⟨v, u, rfl, rfl, r, rfl⟩ := pairOne rv ef
  exact madeGvK T hK hlim (by have := hr.dp; omega) fun h' tk e d M => q h' tk e d _ M (relOne r)
theorem mkIxP (T : ClsIx X.K C fI B newId initId bmB) (hr : Room k X.A) : Maker X C 1 [] (fsOne "index") := by
  intro s1 vs us ws fs R hK hlim l1 l2 rv ef q
  obtain rfl : ws = [] := List.length_eq_zero_iff.mp l2
  rw [List.append_nil] at rv
  obtain ⟨v, u, rfl, rfl, r, rfl⟩ := pairOne rv ef
  exact madeIxP T hK hlim (by have := hr.dp; omega) fun h' tk e d M => q h' tk e d _ M (relOne r)
theorem mkIxK (T : ClsIx X.K C fI B newId initId bmB) (hr : Room k X.A) : Maker X C 0 ["index"] (fsOne "index") := by
  intro s1 vs us ws fs R hK hlim l1 l2 rv ef q
  obtain rfl : us = [] := List.length_eq_zero_iff.mp l1
  rw [List.nil_append] at rv
  obtain ⟨v, u, rfl, rfl, r, rfl⟩ := pairOne rv ef
  exact madeIxK T hK hlim (by have := hr.dp; omega) fun h' tk e d M => q h' tk e d _ M (relOne r)
theorem mkMoP (T : ClsMo X.K C fI B newId initId bmB) (hr : Room k X.A) : Maker X C 1 [] (fsOne "most") := by
  intro s1 vs us ws fs R hK hlim l1 l2 rv ef q
  obtain rfl : ws = [] := List.length_eq_zero_iff.mp l2
  rw [List.append_nil] at rv
  obtain ⟨v, u, rfl, rfl, r, rfl⟩ := pairOne rv ef
  exact madeMoP T hK hlim (by have := hr.dp; omega) fun h' tk e d M => q h' tk e d _ M (relOne r)
theorem mkMoK (T : ClsMo X.K C fI B newId initId bmB) (hr : Room k X.A) : Maker X C 0 ["most"] (fsOne "most") := by
  intro s1 vs us ws fs R hK hlim l1 l2 rv ef q
  obtain rfl : us = [] := List.length_eq_zero_iff.mp l1
  rw [List.nil_append] at rv
  obtain ⟨v, u, rfl, rfl, r, rfl⟩ := pairOne rv ef
  exact madeMoK T hK hlim (by have := hr.dp; omega) fun h' tk e d M => q h' tk e d _ M (relOne r)
theorem mkBrP (T : ClsBr X.K C fI B newId initId bmB) (hr : Room k X.A) : Maker X C 2 [] (fsTwo "index" "shown") := by
  intro s1 vs us ws fs R hK hlim l1 l2 rv ef q
  obtain rfl : ws = [] := List.length_eq_zero_iff.mp l2
  rw [List.append_nil] at rv
  obtain ⟨v, w, u, z, rfl, rfl, r, r', rfl⟩ := pairTwo rv ef
  exact madeBrP T hK hlim (by have := hr.dp; omega) fun h' tk e d M => q h' tk e d _ M (relTwo r r')
theorem mkBrR (T : ClsBr X.K C fI B newId initId bmB) (hr : Room k X.A) : Maker X C 0 ["shown", "index"] (fsTwoR "index" "shown") := by
  intro s1 vs us ws fs R hK hlim l1 l2 rv ef q
  obtain rfl : us = [] := List.length_eq_zero_iff.mp l1
  rw [List.nil_append] at rv
  obtain ⟨v, w, u, z, rfl, rfl, r, r', rfl⟩ := pairTwoR rv ef
  exact madeBrR T hK hlim (by have := hr.dp; omega) fun h' tk e d M => q h' tk e d _ M (relTwo r r')
end
end

theorem s_next {D : Ends} {σ : St} {H : Hp} (h : D.nx σ H) : tNext D σ H := h
theorem s_seq {D : Ends} {σ : St} {H : Hp} {t u : TS} (h : t { D with nx := u D } σ H) : tSeq t u D σ H := h
/-! ### a pool: three ints in a list -/
def PoolAt (H : Hp) (p : Addr) (n : Int) : Prop := ∃ a b c : Int, H p = some (.lst [.int a, .int b, .int c]) ∧ 0 ≤ a ∧ a < 2147483563 ∧ 0 ≤ b ∧ 0 ≤ c ∧ c ≤ n
/-- all but p stands as it stood -/
def But (p : Addr) (H H' : Hp) : Prop := ∀ q o, q ≠ p → H q = some o → H' q = some o
theorem But.refl {p : Addr} {H : Hp} : But p H H := fun _ _ _ e => e
theorem But.trans {p : Addr} {H H1 H2 : Hp} (a : But p H H1) (b : But p H1 H2) : But p H H2 := fun q o n e => b q o n (a q o n e)
theorem But.of {p : Addr} {H H' : Hp} (e : Evl.Ex H H') : But p H H' := fun q o _ h => e q o h
theorem But.upd {p : Addr} {H : Hp} {o : HO} : But p H (upd H p o) := fun q u n e => by rw [upd_ne n]; exact e
theorem PoolAt.ex {H H' : Hp} {p : Addr} {n : Int} (h : PoolAt H p n) (e : Evl.Ex H H') : PoolAt H' p n := by
  obtain ⟨a, b, c, hp, r⟩ := h
  exact ⟨a, b, c, e _ _ hp, r⟩
theorem PoolAt.le {H : Hp} {p : Addr} {n m : Int} (h : PoolAt H p n) (e : n ≤ m) : PoolAt H p m := by
  obtain ⟨a, b, c, hp, h1, h2, h3, h4, h5⟩ := h
  exact ⟨a, b, c, hp, h1, h2, h3, h4, Int.le_trans h5 e⟩
/-- draw(pool, many) -/
def spDraw : Sp := fun vs H Q _ => ∃ (p : Addr) (n m : Int), vs = [.ref p, .int m] ∧ PoolAt H p n ∧ n ≤ 1000000 ∧ 1 ≤ m ∧ m < 1073741824 ∧
  ∀ H' r, PoolAt H' p (n + 1) → But p H H' → 0 ≤ r → r < m → Q (.int r) H'
/-- pick(pool, things), things a list -/
def spPick : Sp := fun vs H Q _ => ∃ (p l : Addr) (n : Int) (xs : List V), vs = [.ref p, .ref l] ∧ PoolAt H p n ∧ n ≤ 1000000 ∧ l ≠ p ∧ H l = some (.lst xs) ∧ 1 ≤ xs.length ∧ xs.length < 1073741824 ∧
  ∀ H' v, PoolAt H' p (n + 1) → But p H H' → v ∈ xs → Q v H'
/-- pool(cells, turn) -/
def spPool (K : PySem.W.Frag) : Sp := fun vs H Q _ => ∃ (a : Addr) (ns : List Int) (k : Int), vs = [.ref a, .int k] ∧ SqL K H a (ns.map V.int) ∧ ns.length ≤ 63 ∧ 0 ≤ k ∧ k ≤ 1000 ∧
  ∀ H' p, H p = none → Evl.Ex H H' → PoolAt H' p 0 → Q (.ref p) H'
end L2.XK

set_option Elab.async false
set_option maxRecDepth 100000
set_option maxHeartbeats 4000000
set_option linter.all false
/-! More of what evaluates to what: lists joined and repeated, isinstance of an exception that was made, its fields, == of lists of truth values, a chain. -/
namespace L2.XK
open PySem PySem.Spec PyProof.Rows XC Evl
section
variable {K : PySem.W.Frag} {σ : L2.St} {H : Hp} {ta tb tc : TE}
theorem el_cat {l : Addr} {xs ys : List V} (ha : Ev ta σ H (.ref l)) (hl : H l = some (.lst xs)) (hb : EvL tb σ H ys) (hz : xs.length + ys.length ≤ 100000) :
    EvL (tOp rCat ta tb) σ H (xs ++ ys) := fun H1 e Q q =>
  ha H1 e _ fun H2 e2 => hb H2 (e.trans e2) _ fun p H3 _ e3 h3 =>
    ⟨l, p, xs, ys, rfl, rfl, ((e.trans e2).trans e3) l _ hl, h3, sz_of hz, fun r hr => q r _ (fresh_back (e2.trans e3) hr) ((e2.trans e3).trans (Ex.new hr)) upd_same⟩
theorem el_catN {xs ys : List V} (ha : EvL ta σ H xs) (hb : ∀ H', Ex H H' → EvL tb σ H' ys) (hz : xs.length + ys.length ≤ 100000) :
    EvL (tOp rCat ta tb) σ H (xs ++ ys) := fun H1 e Q q =>
  ha H1 e _ fun l H2 _ e2 hl => hb H2 (e.trans e2) H2 (Ex.refl _) _ fun p H3 _ e3 h3 =>
    ⟨l, p, xs, ys, rfl, rfl, e3 l _ hl, h3, sz_of hz, fun r hr => q r _ (fresh_back (e2.trans e3) hr) ((e2.trans e3).trans (Ex.new hr)) upd_same⟩
theorem el_rep {xs : List V} {k : Nat} (ha : EvL ta σ H xs) (hk : k ≤ 1000) (hz : xs.length * k ≤ 100000) :
    EvL (tOp rRep ta (tC (.int (k : Int)))) σ H (List.replicate k xs).flatten := fun H1 e Q q =>
  ha H1 e _ fun l H2 _ e2 hl => ⟨l, (k : Int), xs, rfl, rfl, hl, by omega, by omega, by simpa using sz_of hz, fun r hr => by
    simpa using q r _ (fresh_back e2 hr) (e2.trans (Ex.new hr)) upd_same⟩
theorem ev_isX {e C : Addr} {d : Option Addr} {c : V} {u : Value} {b : Bool} (ha : Ev ta σ H (.ref e)) (he : H e = some (exo e C d))
    (hd : ∀ z, d = some z → ∃ fs, H z = some (.xd fs)) (X : XIs K C) (k : ClsV c u) (kit : PySem.W.kitOne K (.ref C) u = some b) :
    Ev (tCB (rIsX K) (tCons ta (tCons (tC c) tNil))) σ H (.bl b) := fun H1 e1 Q q =>
  ha H1 e1 _ fun H2 e2 => ⟨e, C, d, c, u, b, rfl, (e1.trans e2) _ _ he, fun z hz => by
    obtain ⟨fs, h⟩ := hd z hz
    exact ⟨fs, (e1.trans e2) _ _ h⟩, X, k, kit, q H2 e2⟩
theorem ev_xfld {e C d : Addr} {fs : List (Str × V)} {f : Str} {v : V} (ha : Ev ta σ H (.ref e)) (he : H e = some (exo e C (some d))) (hd : H d = some (.xd fs))
    (hl : fs.lookup f = some v) (T : ∃ B newId initId bmB, EC K C B newId initId bmB) (nf : PySem.W.findIn K (.ref C) f = some none) : Ev (tXFld K f ta) σ H v := fun H1 e1 Q q =>
  ha H1 e1 _ fun H2 e2 => ⟨e, C, d, fs, v, rfl, (e1.trans e2) _ _ he, (e1.trans e2) _ _ hd, hl, T, nf, q H2 e2⟩
/-- a new exception -/
theorem ev_new {C : Addr} {fsOf : List V → Option (List (Str × V))} {ts : TA} {vs : List V} {fs : List (Str × V)} (h : EvA ts σ H vs) (hf : fsOf vs = some fs) :
    ∀ H1, Ex H H1 → ∀ Q : VK, (∀ a d H2, H1 a = none → H1 d = none → Ex H1 H2 → H2 a = some (exo a C (some d)) → H2 d = some (.xd fs) → Q (.ref a) H2) → tNew C fsOf ts σ H1 Q := fun H1 e Q q =>
  h H1 e _ fun H2 e2 => ⟨fs, hf, fun a d ha hd hne => q a d _ (fresh_back e2 ha) (fresh_back e2 hd)
    ((e2.trans (Ex.new hd)).trans (Ex.new (by rw [upd_ne (Ne.symm hne)]; exact ha))) upd_same (by rw [upd_ne hne, upd_same])⟩
theorem ev_chain {r r' : R2} {x y z : V} {b c : Bool} (ha : Ev ta σ H x) (hb : Ev tb σ H y) (hr : RV r x y H (.bl b)) (hc : Ev tc σ H z) (hr' : RV r' y z H (.bl c)) :
    Ev (tChain r r' ta tb tc) σ H (.bl (b && c)) := fun H1 e Q q =>
  ha H1 e _ fun H2 e2 => hb H2 (e.trans e2) _ fun H3 e3 => hr H3 ((e.trans e2).trans e3) _ fun H4 e4 => ⟨b, rfl, by
    have e14 := (e2.trans e3).trans e4
    cases b with
    | true =>
      show tc σ H4 _
      exact hc H4 (e.trans e14) _ fun H5 e5 => hr' H5 ((e.trans e14).trans e5) Q fun H6 e6 => q H6 ((e14.trans e5).trans e6)
    | false =>
      show Q (.bl false) H4
      exact q H4 e14⟩
theorem dpBools {bs : List Bool} : DpAll K H (bs.map V.bl) (bs.map PyData.bool) := by
  induction bs with
  | nil => exact .nil
  | cons b bs ih => exact .cons (.bl b) ih
theorem canBools : ∀ bs : List Bool, PyData.canLayAll0 (bs.map PyData.bool) = true
  | [] => rfl
  | b :: bs => by
    have ih := canBools bs
    simp only [List.map_cons, PyData.canLayAll0, ih, Bool.and_true]
    rfl
theorem depthBools : ∀ bs : List Bool, PyData.depthAll (bs.map PyData.bool) = 0
  | [] => rfl
  | b :: bs => by
    have ih := depthBools bs
    simp only [List.map_cons, PyData.depthAll, ih, PyData.depth, Nat.max_self]
theorem shapedBools (bs : List Bool) : SeqAt.shaped (.list (bs.map PyData.bool)) = true := by
  have h1 := canBools bs
  have h2 := depthBools bs
  unfold SeqAt.shaped
  simp only [PyData.canLay0, PyData.depth, h1, h2]
  decide
theorem eqvBools (bs : List Bool) : PyData.eqv (.list (bs.map PyData.bool)) (.list (bs.map PyData.bool)) = true :=
  SeqAt.eqv_refl _ (SeqAt.canLay_of_shaped (shapedBools bs))
theorem rv_neBools {p q : Addr} {bs : List Bool} (hp : H p = some (.lst (bs.map V.bl))) (hq : H q = some (.lst (bs.map V.bl))) : RV (rNeD K) (.ref p) (.ref q) H (.bl false) := fun H1 e Q k => by
  refine ⟨.list (bs.map PyData.bool), .list (bs.map PyData.bool), .lst (sq_of (e _ _ hp)) dpBools, .lst (sq_of (e _ _ hq)) dpBools, shapedBools bs, shapedBools bs, ?_⟩
  rw [eqvBools]
  exact k H1 (Ex.refl _)
theorem rv_eqBools {p q : Addr} {bs : List Bool} (hp : H p = some (.lst (bs.map V.bl))) (hq : H q = some (.lst (bs.map V.bl))) : RV (rEqD K) (.ref p) (.ref q) H (.bl true) := fun H1 e Q k => by
  refine ⟨.list (bs.map PyData.bool), .list (bs.map PyData.bool), .lst (sq_of (e _ _ hp)) dpBools, .lst (sq_of (e _ _ hq)) dpBools, shapedBools bs, shapedBools bs, ?_⟩
  rw [eqvBools]
  exact k H1 (Ex.refl _)
end
/-- a class of ours, the one above it, the built-in one above that -/
structure Srt (K : PySem.W.Frag) (C W : Addr) (B : String) : Prop where
  is : XIs K C
  mro : ∃ cd, PySem.W.clsIn K C = some cd ∧ cd.mro = [.ref C, .ref W, .type B, .type "Exception", .type "BaseException", .type "object"]
def isOwn (K : PySem.W.Frag) (C : Addr) : Prop := ((PySem.W.clsIn K C).isSome && PySem.W.typeIn K (.ref C) == some (.type "type")) = true
theorem kit_own {K : PySem.W.Frag} {C W D : Addr} {B : String} (S : Srt K C W B) (o : isOwn K D) : PySem.W.kitOne K (.ref C) (.ref D) = some (decide (D = C ∨ D = W)) := by
  obtain ⟨cd, hc, hm⟩ := S.mro
  have e1 : PySem.W.kitCls K (.ref C) (.ref D) = some (decide (D = C ∨ D = W)) := by
    unfold PySem.W.kitCls
    dsimp only
    have o' := o
    unfold isOwn at o'
    rw [if_pos o']
    unfold PySem.W.subIn PySem.W.mroIn
    dsimp only
    rw [hc, Option.bind_some, hm, if_neg (by simp)]
    congr 1
    rw [Bool.eq_iff_iff]
    simp
  unfold PySem.W.kitOne
  split
  · rename_i h
    have h' : Value.ref C = Value.ref D := by simpa using h
    cases h'
    simp
  · exact e1
theorem kit_blt {K : PySem.W.Frag} {C W : Addr} {B T : String} (S : Srt K C W B) (o : PySem.W.kitMeta T = true) :
    PySem.W.kitOne K (.ref C) (.type T) = some ([B, "Exception", "BaseException", "object"].contains T) := by
  obtain ⟨cd, hc, hm⟩ := S.mro
  have e1 : PySem.W.kitCls K (.ref C) (.type T) = some ([B, "Exception", "BaseException", "object"].contains T) := by
    unfold PySem.W.kitCls
    dsimp only
    rw [if_pos o]
    unfold PySem.W.subIn PySem.W.mroIn
    dsimp only
    rw [hc, Option.bind_some, hm, if_neg (by simp)]
    congr 1
    rw [Bool.eq_iff_iff]
    simp
  unfold PySem.W.kitOne
  rw [if_neg (by simp)]
  exact e1
end L2.XK

set_option Elab.async false
set_option maxRecDepth 100000
set_option maxHeartbeats 4000000
set_option linter.all false
/-! Data that is made on the way, beside a list at p that changes later. -/
namespace L2.XK
open PySem PySem.Spec PyProof.Rows XC Evl
theorem exDel {p : Addr} {H H' : Hp} (e : Ex H H') : Ex (delH H p) (delH H' p) := fun a o h => by
  by_cases z : a = p
  · rw [z, delH_same] at h
    cases h
  · rw [delH_ne z] at h ⊢
    exact e a o h
theorem butDel {p : Addr} {H H' : Hp} (e : But p H H') : Ex (delH H p) (delH H' p) := fun a o h => by
  by_cases z : a = p
  · rw [z, delH_same] at h
    cases h
  · rw [delH_ne z] at h ⊢
    exact e a o z h
theorem delEx {p : Addr} {H : Hp} : Ex (delH H p) H := fun a o h => by
  by_cases z : a = p
  · rw [z, delH_same] at h
    cases h
  · rw [delH_ne z] at h
    exact h
/-- evaluates to the data d, which does not lean on what stands at p -/
def EvD (p : Addr) (te : TE) (σ : L2.St) (H : Hp) (d : PyData) : Prop := ∀ H1, Ex H H1 → ∀ Q : VK, (∀ v H2, Ex H1 H2 → Dx (delH H2 p) v d → Q v H2) → te σ H1 Q
def EvDA (p : Addr) (ta : TA) (σ : L2.St) (H : Hp) (ds : List PyData) : Prop := ∀ H1, Ex H H1 → ∀ Q : List V → Hp → Prop, (∀ vs H2, Ex H1 H2 → DxAll (delH H2 p) vs ds → Q vs H2) → ta σ H1 Q
def EvDL (p : Addr) (te : TE) (σ : L2.St) (H : Hp) (ds : List PyData) : Prop := ∀ H1, Ex H H1 → ∀ Q : VK,
  (∀ l xs H2, H1 l = none → Ex H1 H2 → H2 l = some (.lst xs) → DxAll (delH H2 p) xs ds → Q (.ref l) H2) → te σ H1 Q
theorem dxLen {H : Hp} : ∀ {vs : List V} {ds : List PyData}, DxAll H vs ds → vs.length = ds.length
  | _, _, .nil => rfl
  | _, _, .cons _ t => congrArg Nat.succ (dxLen t)
section
variable {p : Addr} {σ : L2.St} {H : Hp} {te tb : TE} {ta : TA} {o : HO}
theorem ed_ev {v : V} {d : PyData} (h : Ev te σ H v) (k : ∀ H', Dx H' v d) : EvD p te σ H d := fun H1 e Q q => h H1 e Q fun H2 e2 => q v H2 e2 (k _)
theorem eda_nil : EvDA p tNil σ H [] := fun H1 e Q q => q [] H1 (Ex.refl _) .nil
theorem eda_cons {d : PyData} {ds : List PyData} (h : EvD p te σ H d) (t : EvDA p ta σ H ds) : EvDA p (tCons te ta) σ H (d :: ds) := fun H1 e Q q =>
  h H1 e _ fun v H2 e2 hv => t H2 (e.trans e2) _ fun vs H3 e3 ht => q (v :: vs) H3 (e2.trans e3) (.cons (hv.same (exDel e3)) ht)
theorem newDel {H' : Hp} {q : Addr} {u : HO} (hp : H p = some o) (e : Ex H H') (hq : H' q = none) : delH (upd H' q u) p q = some u ∧ Ex (delH H' p) (delH (upd H' q u) p) := by
  have hne : q ≠ p := fun z => by
    rw [z, e _ _ hp] at hq
    cases hq
  exact ⟨by rw [delH_ne hne, upd_same], exDel (Ex.new hq)⟩
theorem edl_lst {ds : List PyData} (hp : H p = some o) (h : EvDA p ta σ H ds) (hl : ds.length ≤ 100000) : EvDL p (tLst ta) σ H ds := fun H1 e Q q =>
  h H1 e _ fun vs H2 e2 hv => ⟨sz_of (by rw [dxLen hv]; exact hl), fun l hn => q l vs _ (fresh_back e2 hn) (e2.trans (Ex.new hn)) upd_same (hv.same (newDel hp (e.trans e2) hn).2)⟩
theorem ed_lst {ds : List PyData} (hp : H p = some o) (h : EvDA p ta σ H ds) (hl : ds.length ≤ 100000) : EvD p (tLst ta) σ H (.list ds) := fun H1 e Q q =>
  h H1 e _ fun vs H2 e2 hv => ⟨sz_of (by rw [dxLen hv]; exact hl), fun l hn =>
    q (.ref l) _ (e2.trans (Ex.new hn)) (.lst (newDel hp (e.trans e2) hn).1 (hv.same (newDel hp (e.trans e2) hn).2))⟩
theorem ed_tup {ds : List PyData} (hp : H p = some o) (h : EvDA p ta σ H ds) (hl : ds.length ≤ 100000) : EvD p (tTup ta) σ H (.tuple ds) := fun H1 e Q q =>
  h H1 e _ fun vs H2 e2 hv => ⟨sz_of (by rw [dxLen hv]; exact hl), fun l hn =>
    q (.ref l) _ (e2.trans (Ex.new hn)) (.tup (newDel hp (e.trans e2) hn).1 (hv.same (newDel hp (e.trans e2) hn).2))⟩
theorem ed_dict0 (hp : H p = some o) : EvD p (fun σ H Q => ∀ d, H d = none → Q (.ref d) (upd H d (.dK []))) σ H (.dict []) := fun H1 e Q q l hn =>
  q (.ref l) _ (Ex.new hn) (.dic (newDel hp e hn).1 .nil .nil)
theorem edl_cat {l : Addr} {xs : List V} {ds es : List PyData} (hp : H p = some o) (ha : Ev te σ H (.ref l)) (hl : H l = some (.lst xs)) (hd : DxAll (delH H p) xs ds) (hb : EvDL p tb σ H es)
    (hz : ds.length + es.length ≤ 100000) : EvDL p (tOp rCat te tb) σ H (ds ++ es) := fun H1 e Q q =>
  ha H1 e _ fun H2 e2 => hb H2 (e.trans e2) _ fun r ys H3 hr e3 h3 hy =>
    ⟨l, r, xs, ys, rfl, rfl, ((e.trans e2).trans e3) l _ hl, h3, sz_of (by rw [dxLen hd, dxLen hy]; exact hz), fun n hn =>
      q n _ _ (fresh_back (e2.trans e3) hn) ((e2.trans e3).trans (Ex.new hn)) upd_same
        (((hd.same (exDel ((e.trans e2).trans e3))).append hy).same (newDel hp ((e.trans e2).trans e3) hn).2)⟩
theorem ed_dict1 {k : Str} {i : Int} (hp : H p = some o) : EvD p (tDisp [(tC (.str k), tC (.int i))]) σ H (.dict [(.str k, .int i)]) := fun H1 e Q q l hn => by
  have hx := newDel (u := .dK [(.inr k, .int i)]) hp e hn
  refine ⟨upd_same, [(.inr k, .int i)], rfl, by show 1 ≤ 15; decide, ?_⟩
  show Q (.ref l) (upd (upd H1 l (.dK [])) l (.dK [(.inr k, .int i)]))
  rw [upd_upd]
  exact q (.ref l) _ (Ex.new hn) (.dic (ds := [(.str k, .int i)]) hx.1 (.cons (.str k) .nil) (.cons (.int i) .nil))
theorem s_asgDL {D : Ends} {i : Nat} {ds : List PyData} (h : EvDL p te σ H ds) (k : ∀ l xs H1, H l = none → Ex H H1 → H1 l = some (.lst xs) → DxAll (delH H1 p) xs ds → D.nx (σ.set i (some (.ref l))) H1) :
    tAsg te (gName i) D σ H := h H (Ex.refl H) _ fun l xs H1 hn e h1 hd => k l xs H1 hn e h1 hd
end
end L2.XK

set_option Elab.async false
set_option maxRecDepth 100000
set_option maxHeartbeats 4000000
set_option linter.all false
/-! for i, x in enumerate(t), t a tuple. -/
namespace XC
open PySem
theorem newsEnumOf {v : Value} {o : Obj} {HP : Heap → Prop} (B : Begins v o HP) :
    Meets (Builtin.«enumerate.__new__» ⟨[.type "enumerate", v], []⟩) (fun _ R s => HP s.heap ∧
      R (.ok (.ret (.ref (s.heap.push o).objs.size))) { s with heap := (s.heap.push o).push { cls := .type "enumerate", data := .fields #[.none, .bool false, .ref s.heap.objs.size, rawInt 0, .none, .none] } }) :=
  .of_wp fun prog w A R s h => by
    obtain ⟨hp, gn, dr, tk, os⟩ := s
    obtain ⟨h1, h⟩ := h
    have hsub := sub_enumerate
    have go : ∀ {A' : Around} {E : Value → Shared → Prop} {Q : Value → Shared → Prop}, Q (.ref hp.objs.size) ⟨hp.push o, gn, dr, tk, os⟩ →
        wpAny (model prog w) A' (pyIter v) Q E ⟨hp, gn, dr, tk, os⟩ := fun q => B.iter prog w _ _ ⟨hp, gn, dr, tk, os⟩ _ h1 q
    wp_walk using go
    refine wpAny_stack_any fun st => wpAny_pure ?_
    split
    · rename_i c _ _ _ _ _
      cases (c == Value.type "enumerate") <;> (wp_walk using go; exact ⟨_, rfl, h⟩)
    · wp_walk using go
      exact ⟨_, rfl, h⟩
section
variable {prog : Program} {w : World} {A : Around} {E : Value → Shared → Prop} {s : Shared}
theorem callEnumOf {v : Value} {o : Obj} {HP : Heap → Prop} {Q : Value → Shared → Prop} (B : Begins v o HP) (h1 : HP s.heap)
    (k : ∀ h', IsEnum h' (s.heap.objs.size + 1) s.heap.objs.size 0 .none → h'.get? s.heap.objs.size = some o →
      (∀ b u, s.heap.get? b = some u → h'.get? b = some u) → Q (.ref (s.heap.objs.size + 1)) { s with heap := h' }) :
    wpAny (model prog w) A (call (.type "enumerate") [v]) Q E s := by
  refine callType_new F.called_enumerate (by decide) (F.typeCall_enumerate_1 _) (F.newCall_enumerate_1 _) (fun obj => F.args_object_init_2 obj _)
    F.entry_enumerate_new (newsEnumOf B) ⟨h1, ?_⟩
  have hz : (s.heap.push o).objs.size = s.heap.objs.size + 1 := Heap.size_push ..
  have he : IsEnum ((s.heap.push o).push { cls := .type "enumerate", data := .fields #[.none, .bool false, .ref s.heap.objs.size, rawInt 0, .none, .none] })
      (s.heap.objs.size + 1) s.heap.objs.size 0 .none := by
    have q := Heap.get?_push_size (s.heap.push o)
      (o := { cls := .type "enumerate", data := .fields #[.none, .bool false, .ref s.heap.objs.size, rawInt 0, .none, .none] }) rfl
    rw [hz] at q
    exact q
  show _ ∧ _
  rw [hz]
  exact ⟨⟨_, he, rfl⟩, k _ he (Heap.get?_push_of_some _ (Heap.get?_push_size _ B.free)) fun b u x => Heap.get?_push_of_some _ (Heap.get?_push_of_some _ x)⟩
end
end XC
namespace L2.XK
open PySem PySem.Spec PyProof.Rows XC Evl
/-- the tuple at a, each item in a new pair with its number -/
def IteT (K : PySem.W.Frag) (a : Addr) : It where
  go := fun i H => ∃ (xs : List V) (x : V), SqT K H a xs ∧ xs[i]? = some x
  yld := fun i H v H' => ∃ T x, v = .ref T ∧ H T = none ∧ H' = upd H T (.tup [.int (i : Nat), x]) ∧ ∀ xs, SqT K H a xs → xs[i]? = some x
  stop := fun i H => ∃ xs : List V, SqT K H a xs ∧ xs.length ≤ i
theorem turnEnumT {P : Program} {w : World} {K : PySem.W.Frag} {elts : List Expr} {kk : Nat} {tpos : Pos} (a e it : Addr) :
    Turn P w K (.Tuple elts kk tpos) (IteT K a) [e, it] e (fun i h => (∃ old, IsEnum h e it ((i : Nat) : Int) old) ∧ h.IsTupleIter it a i ∧ e ≠ it) where
  mem := by simp
  obj := fun i h st b hb => by
    obtain ⟨⟨old, he⟩, ⟨o, ho, hc, hd⟩, _⟩ := st
    rcases List.mem_cons.mp hb with rfl | z
    · exact ⟨_, he, fun v q => nomatch q⟩
    · rw [List.mem_singleton.mp z]
      exact ⟨o, ho, fun v q => by rw [hd] at q; cases q⟩
  keep := fun i h h' st k => by
    obtain ⟨⟨old, he⟩, hi, hne⟩ := st
    exact ⟨⟨old, k e (by simp) _ he⟩, hi.at fun o q => k it (by simp) o q, hne⟩
  item := by
    intro X hP hw hK hc i pins s σ H E I hf st hg
    subst hP hw hK
    obtain ⟨⟨old, he⟩, hit, hne⟩ := st
    obtain ⟨xs, x, hq, hx⟩ := hg
    obtain ⟨its, rv, p, hz⟩ := I.tuple hq
    obtain ⟨u, hu, ru⟩ := rv.get hx
    have hi : i < its.toArray.size := by
      have z := (List.getElem?_eq_some_iff.mp hu).1
      simpa using z
    have hel : e < s.heap.objs.size := Heap.lt_size he
    have hil : it < s.heap.objs.size := by obtain ⟨_, q, _⟩ := hit; exact Heap.lt_size q
    have hea : e ≠ a := fun z => by
      obtain ⟨o, q, cq, _⟩ := p
      rw [z] at he
      have w := he.symm.trans q
      cases w
      exact absurd (Value.type.inj cq) (by decide)
    have hia : a ≠ it := fun z => by
      obtain ⟨o, q, cq, _⟩ := p
      obtain ⟨o', q', cq', _⟩ := hit
      rw [← z, q] at q'
      cases q'
      rw [cq] at cq'
      exact absurd (Value.type.inj cq') (by decide)
    refine wpAny_pyNext_enum_itemC (Draws.tuple (show X.A.in1.handled = none from I.ok.hd hc) it a hia its.toArray) he ⟨hit, p⟩ hi hne (by simp [hne, hea]) fun y h' tk hy ho hit' hT hsz hk => ?_
    have ey : y = u := by
      have e1 : its.toArray[i]? = some u := by simpa using hu
      rw [e1] at hy
      exact (Option.some.inj hy).symm
    subst ey
    refine ⟨_, rfl, wpAny_letOwnedTupleGo_enum (s := { s with heap := h', toks := tk + 1 }) ho fun h'' he' sb => ?_⟩
    have hT2 := (sb.2 _ (Nat.ne_of_gt hel)).trans hT
    have new : ObjOk X.prog X.w (upd H s.heap.objs.size (.tup [.int (i : Nat), x])) h'' s.heap.objs.size (.tup [.int (i : Nat), x]) :=
      ⟨by show 2 ≤ sizeLine; decide, [.int i tk, y], .cons ⟨_, rfl⟩ (.cons ru .nil), ⟨_, hT2, rfl, _, rfl⟩⟩
    have I1 : Inv X pins σ (upd H s.heap.objs.size (.tup [.int (i : Nat), x])) { s with heap := h'', toks := tk + 1 } :=
      I.turnedNew (ch := [e, it]) (fun b ob hb q => (sb.2 b (fun z => hb (by simp [z]))).trans (hk b ob (fun z => hb (by simp [z])) (fun z => hb (by simp [z])) q)) hf (Nat.le_refl _) new
    refine ⟨.ref s.heap.objs.size, _, I1, rfl, ⟨_, x, rfl, I.hok.fresh (Nat.le_refl _), rfl, fun ys hy => by rw [I.tuple_inj hy hq]; exact hx⟩, ⟨⟨y, ?_⟩, hit'.1.at fun o q => (sb.2 it (Ne.symm hne)).trans q, hne⟩, fun b hb => ?_⟩
    · have e1 : ((i + 1 : Nat) : Int) = (i : Int) + 1 := by omega
      rw [e1]
      exact he'
    · have hb' : b < s.heap.objs.size := by
        rcases List.mem_cons.mp hb with rfl | z
        · exact hel
        · rw [List.mem_singleton.mp z]
          exact hil
      rw [upd_ne (Nat.ne_of_lt hb')]
      exact (hf b hb).1
  done := by
    intro X hP hw hK hc i pins s σ H E I hf st hg
    subst hP hw hK
    obtain ⟨⟨old, he⟩, hit, hne⟩ := st
    obtain ⟨xs, hq, hx⟩ := hg
    obtain ⟨its, rv, p, hz⟩ := I.tuple hq
    obtain ⟨f0, f1, f2, f3, f4, f5⟩ := hf it (by simp)
    have hl := rv.length
    have hia : a ≠ it := fun z => by
      obtain ⟨o, q, cq, _⟩ := p
      obtain ⟨o', q', cq', _⟩ := hit
      rw [← z, q] at q'
      cases q'
      rw [cq] at cq'
      exact absurd (Value.type.inj cq') (by decide)
    have hd : ∀ (A : Around), A.handled = none → ∀ (s' : Shared) (Q : Value → Shared → Prop) (E : Value → Shared → Prop), s'.heap.IsTupleIter it a i ∧ s'.heap.IsTuple a its.toArray →
      (∀ h' e, Heap.ExtBut it s'.heap h' → (∃ o, h'.get? e = some o ∧ o.cls = .type "StopIteration") → E (.ref e) { s' with heap := h' }) →
      wpAny (model X.prog X.w) A (Builtin.SmallTypes.nextOf (.ref it)) Q E s' := fun A hA s' Q E h k => wpAny_nextOf_tuple_end hA h.1 h.2 (by simp; omega) k
    have D : Draws X.prog X.w X.A.in1 it [it, a] i (fun _ _ => True) (fun j h => (j = i → h.IsTupleIter it a i ∧ h.IsTuple a its.toArray) ∧ j = i) :=
      { live := fun j h q => by obtain ⟨o, ho, _⟩ := (q.1 q.2).1; exact ⟨o, ho⟩
        frame := fun j h h' q k => ⟨fun z => ⟨(q.1 z).1.at fun o e => k it (by simp) o e, by
          obtain ⟨o, ho, r⟩ := (q.1 z).2
          exact ⟨o, k a (by simp) o ho, r⟩⟩, q.2⟩
        item := fun j s Q E hj q => absurd q.2 (by omega)
        done := fun s Q E q k => hd _ (show X.A.in1.handled = none from I.ok.hd hc) s Q E (q.1 q.2) k }
    exact wpAny_pyNext_enum_endD D he ⟨fun _ => ⟨hit, p⟩, rfl⟩ fun h' eb => ⟨rfl, I.turned (t' := s.toks) (fun b o hb q => eb b o hb q) f0 f1 f3 f4 f5⟩
  self := fun A i s Q E st h => by
    obtain ⟨⟨_, he⟩, _⟩ := st
    exact wpAny_pyIter_enum he h
def iEnumT (K : PySem.W.Frag) (ta : TA) : TI := fun σ H R => ta σ H fun vs H1 => ∃ a xs, vs = [.ref a] ∧ SqT K H1 a xs ∧ R (IteT K a) H1
theorem pi_enumT {X : Cx} {e : Expr} {ta : TA} {p pos tpos : Pos} {elts : List Expr} {kk : Nat} (hg : Gl X "enumerate") (hm : X.mg "enumerate" = none) (ha : PA X [e] ta)
    (hs : starEach [e] X.env = [(false, eval e X.env)] := by rfl) : PI X (.Tuple elts kk tpos) (.Call (.Name "enumerate" p) [e] [] pos) (iEnumT X.K ta) := by
  refine ⟨fun pins s σ H R I h => ?_⟩
  refine Call_ (ld_blt I hg hm boot_enumerate (PyProof.Rows.callWith_type1 (thn (ha.run pos pins s σ H _ I h) fun us s1 ⟨vs, H1, I1, r1, q1⟩ => ?_) hs rfl))
  obtain ⟨a, xs, ex, hq, q⟩ := q1
  subst ex
  cases r1 with
  | cons r rr =>
    cases rr
    cases r
    obtain ⟨its, rv, p', hz⟩ := I1.tuple hq
    refine callEnumOf (begins_tuple a its.toArray) p' fun h' he hit hk => wpAny_pyIter_enum he ?_
    have I2 : Inv X pins σ H1 { s1 with heap := h' } := I1.kept (t' := s1.toks) hk
    refine ⟨s1.heap.objs.size + 1, [s1.heap.objs.size + 1, s1.heap.objs.size], _, _, H1, rfl, I2, turnEnumT a (s1.heap.objs.size + 1) s1.heap.objs.size,
      ⟨⟨.none, he⟩, ⟨_, hit, rfl, rfl⟩, Nat.succ_ne_self _⟩, fun b hb => ?_, q⟩
    have hle : s1.heap.objs.size ≤ b := by
      rcases List.mem_cons.mp hb with z | z
      · rw [z]
        exact Nat.le_add_right _ _
      · rw [List.mem_singleton.mp z]
        exact Nat.le_refl _
    exact I1.fpOk hle (I1.hok.fresh hle)
end L2.XK

set_option Elab.async false
set_option maxRecDepth 100000
set_option maxHeartbeats 4000000
set_option linter.all false
/-! Data, its types; what evaluates to what: isinstance of data, len and signs of a text, all of a list, tuples. -/
namespace L2.XK
open PySem PySem.Spec PyProof.Rows XC Evl
mutual
/-- v stands for the data d, tracked, locked or written -/
inductive Da (K : PySem.W.Frag) (H : Hp) : V → PyData → Prop
  | non : Da K H .non .none
  | bl (b : Bool) : Da K H (.bl b) (.bool b)
  | int (i : Int) : Da K H (.int i) (.int i)
  | str (x : Str) (h : x.length ≤ 100000) : Da K H (.str x) (.str x)
  | lst {a : Addr} {xs : List V} {ds : List PyData} : SqL K H a xs → DaAll K H xs ds → Da K H (.ref a) (.list ds)
  | tup {a : Addr} {xs : List V} {ds : List PyData} : SqT K H a xs → DaAll K H xs ds → Da K H (.ref a) (.tuple ds)
  | dic {a : Addr} {kvs : List (Key × V)} {ds : List (PyData × PyData)} : H a = some (.dK kvs) → Da K H (.ref a) (.dict ds)
inductive DaAll (K : PySem.W.Frag) (H : Hp) : List V → List PyData → Prop
  | nil : DaAll K H [] []
  | cons {v : V} {vs : List V} {d : PyData} {ds : List PyData} : Da K H v d → DaAll K H vs ds → DaAll K H (v :: vs) (d :: ds)
end
section
variable {K : PySem.W.Frag} {H H' : Hp}
mutual
theorem Da.ex (e : Ex H H') : ∀ {v : V} {d : PyData}, Da K H v d → Da K H' v d
  | _, _, .non => .non
  | _, _, .bl b => .bl b
  | _, _, .int i => .int i
  | _, _, .str x h => .str x h
  | _, _, .lst h q => .lst (ex_l e h) (DaAll.ex e q)
  | _, _, .tup h q => .tup (ex_t e h) (DaAll.ex e q)
  | _, _, .dic h => .dic (e _ _ h)
theorem DaAll.ex (e : Ex H H') : ∀ {vs : List V} {ds : List PyData}, DaAll K H vs ds → DaAll K H' vs ds
  | _, _, .nil => .nil
  | _, _, .cons p q => .cons (Da.ex e p) (DaAll.ex e q)
end
theorem DaAll.len : ∀ {vs : List V} {ds : List PyData}, DaAll K H vs ds → vs.length = ds.length
  | _, _, .nil => rfl
  | _, _, .cons _ t => congrArg Nat.succ (DaAll.len t)
theorem DaAll.get : ∀ {vs : List V} {ds : List PyData} {i : Nat} {v : V}, DaAll K H vs ds → vs[i]? = some v → ∃ d, ds[i]? = some d ∧ Da K H v d
  | _, _, 0, _, .cons p _, h => ⟨_, rfl, by cases h; exact p⟩
  | _, _, i + 1, _, .cons _ t, h => DaAll.get (i := i) t h
  | _, _, i, _, .nil, h => by simp at h
theorem DaAll.strs : ∀ (l : List Str), (∀ x ∈ l, x.length ≤ 100000) → DaAll K H (l.map V.str) (l.map PyData.str)
  | [], _ => .nil
  | x :: l, h => .cons (.str x (h x (by simp))) (DaAll.strs l fun y hy => h y (by simp [hy]))
def tyN : PyData → String
  | .none => "NoneType"
  | .bool _ => "bool"
  | .int _ => "int"
  | .str _ => "str"
  | .list _ => "list"
  | .tuple _ => "tuple"
  | .dict _ => "dict"
theorem Da.ty {v : V} {d : PyData} (h : Da K H v d) : TyX K H v (.type (tyN d)) := by
  cases h with
  | non => exact .base .non
  | bl b => exact .base (.bl b)
  | int i => exact .base (.int i)
  | str x _ => exact .base (.str x)
  | lst h _ =>
    rcases h with (h | ⟨o, h⟩) | ⟨o, _, _, h, c, _⟩
    · exact .base (.lst h)
    · exact .base (.frz h)
    · exact .kList h c
  | tup h _ =>
    rcases h with (h | ⟨o, h⟩) | ⟨o, _, _, h, c, _⟩
    · exact .base (.tup h)
    · exact .fTuple h
    · exact .kTuple h c
  | dic h => exact .base (.dK h)
def isTy (T a : String) : Bool := a == T || (T == "int" && a == "bool")
def isD (T : String) (d : PyData) : Bool := isTy T (tyN d)
theorem kitAll : ∀ a ∈ ["NoneType", "bool", "int", "str", "list", "tuple", "dict"], ∀ T ∈ ["int", "bool", "str", "tuple"], kitB a T = some (isTy T a) := by decide +kernel
theorem kitD {T : String} (hT : T ∈ ["int", "bool", "str", "tuple"]) (d : PyData) : PySem.W.kitOne K (.type (tyN d)) (.type T) = some (isD T d) :=
  kit_ty (kitAll _ (by cases d <;> simp [tyN]) T hT)
end
section
variable {K : PySem.W.Frag} {σ : L2.St} {H : Hp} {ta tb tc te : TE}
theorem ev_isi {x : V} {d : PyData} {T : String} (hT : T ∈ ["int", "bool", "str", "tuple"]) (ha : Ev ta σ H x) (hd : Da K H x d) :
    Ev (tCB (rIsi K) (tCons ta (tCons (tC (.ty T)) tNil))) σ H (.bl (isD T d)) := fun H1 e Q q =>
  ha H1 e _ fun H2 e2 => ⟨x, .ty T, _, _, _, rfl, .ty T, (hd.ex (e.trans e2)).ty, kitD hT d, q H2 e2⟩
theorem isD_str {d : PyData} (h : isD "str" d = true) : ∃ s, d = .str s := by
  cases d <;> first | exact ⟨_, rfl⟩ | (exact absurd h (by simp [isD, isTy, tyN]))
theorem isD_tup {d : PyData} (h : isD "tuple" d = true) : ∃ s, d = .tuple s := by
  cases d <;> first | exact ⟨_, rfl⟩ | (exact absurd h (by simp [isD, isTy, tyN]))
theorem ev_lenS {x : Str} (ha : Ev ta σ H (.str x)) (hz : x.length ≤ 100000) : Ev (tCB (fun xs H Q => ∃ x n, xs = [x] ∧ LenV K x H n ∧ Q (.int n) H) (tCons ta tNil)) σ H (.int (x.length : Int)) := fun H1 e Q q =>
  ha H1 e _ fun H2 e2 => ⟨_, x.length, rfl, ⟨sz_of hz, rfl⟩, q H2 e2⟩
theorem ev_lenT {p : Addr} {xs : List V} (ha : Ev ta σ H (.ref p)) (h : SqT K H p xs) : Ev (tCB (fun xs H Q => ∃ x n, xs = [x] ∧ LenV K x H n ∧ Q (.int n) H) (tCons ta tNil)) σ H (.int (xs.length : Int)) := fun H1 e Q q =>
  ha H1 e _ fun H2 e2 => ⟨_, xs.length, rfl, .inr ⟨xs, ex_t (e.trans e2) h, rfl⟩, q H2 e2⟩
theorem ev_lenL {p : Addr} {xs : List V} (ha : Ev ta σ H (.ref p)) (h : SqL K H p xs) : Ev (tCB (fun xs H Q => ∃ x n, xs = [x] ∧ LenV K x H n ∧ Q (.int n) H) (tCons ta tNil)) σ H (.int (xs.length : Int)) := fun H1 e Q q =>
  ha H1 e _ fun H2 e2 => ⟨_, xs.length, rfl, .inl ⟨xs, ex_l (e.trans e2) h, rfl⟩, q H2 e2⟩
/-- a list made sign by sign of a text -/
theorem el_lcS {z : Str} {j : Nat} {vs : List Nat} (v : Nat → V) (h : Ev te σ H (.str z)) (hz : z.length ≤ 40000) (hw : ∀ x, wipe ((wipe σ vs).set j (some x)) vs = wipe σ vs)
    (he : ∀ (i c : Nat) H1, Ex H H1 → z.cps[i]? = some c → Ev tb ((wipe σ vs).set j (some (.str ⟨#[c]⟩))) H1 (v i)) :
    EvL (tLc (iStr te) (gName j) tYes tb vs) σ H ((List.range z.cps.size).map v) := fun H0 e Q q => h H0 e _ fun H1 e1 => ⟨z, rfl, fun Dl hD => by
  have hz' : z.cps.size ≤ 40000 := hz
  refine lc_it walk_str (fun i H' => H1 Dl = none ∧ Ex H1 H' ∧ H' Dl = some (.lst ((List.range i).map v))) ⟨hD, Ex.new hD, upd_same⟩ (fun i H' _ _ => True.intro) ?_ ?_
  · rintro i x H' H2 hi ⟨p1, p2, p3⟩ ⟨rfl, c, hc, rfl⟩
    refine ⟨hw _, ?_⟩
    refine he i c H1 (e.trans e1) hc H2 p2 _ fun H4 e4 => ⟨(List.range i).map v, e4 _ _ p3, sz_lt (by simp; omega), p1, Ex.mut (p2.trans e4) p1, ?_⟩
    rw [List.range_succ, List.map_append]
    exact upd_same
  · exact fun H' p => q Dl H' (fresh_back e1 p.1) (e1.trans p.2.1) p.2.2⟩
theorem el_lcT {a : Addr} {xs : List V} {j : Nat} {vs : List Nat} (v : Nat → V) (h : Ev te σ H (.ref a)) (hx : SqT K H a xs) (hz : xs.length ≤ 40000) (hw : ∀ x, wipe ((wipe σ vs).set j (some x)) vs = wipe σ vs)
    (he : ∀ (i : Nat) (x : V) H1, Ex H H1 → xs[i]? = some x → Ev tb ((wipe σ vs).set j (some x)) H1 (v i)) :
    EvL (tLc (iTup K te) (gName j) tYes tb vs) σ H ((List.range xs.length).map v) := fun H0 e Q q => h H0 e _ fun H1 e1 => ⟨a, rfl, ⟨xs, ex_t (e.trans e1) hx⟩, fun Dl hD =>
  lc_tup (xs := xs) (fun i H' => H1 Dl = none ∧ Ex H1 H' ∧ H' Dl = some (.lst ((List.range i).map v))) ⟨hD, Ex.new hD, upd_same⟩ (fun i H' _ p => ex_t ((e.trans e1).trans p.2.1) hx)
    (fun i x H' hi ⟨p1, p2, p3⟩ => ⟨hw _, he i x H1 (e.trans e1) hi H' p2 _ fun H4 e4 => ⟨(List.range i).map v, e4 _ _ p3, sz_lt (by
      have := (List.getElem?_eq_some_iff.mp hi).1
      simp; omega), p1, Ex.mut (p2.trans e4) p1, by
        rw [List.range_succ, List.map_append]
        exact upd_same⟩⟩)
    (fun H' p => q Dl H' (fresh_back e1 p.1) (e1.trans p.2.1) p.2.2)⟩
theorem ev_all {bs : List Bool} (ha : EvL ta σ H (bs.map V.bl)) : Ev (tCB (rAll K) (tCons ta tNil)) σ H (.bl (bs.all id)) := fun H1 e Q q =>
  ha H1 e _ fun p H2 _ e2 hp => ⟨p, bs, rfl, sq_of hp, q H2 e2⟩
/-- tuple(list) -/
theorem eu_tupL {xs : List V} (ha : EvL ta σ H xs) : EvU (tCB (fun vs H Q => ∃ p ys, vs = [.ref p] ∧ ((SqL K H p ys ∧ ∀ l, H l = none → Q (.ref l) (upd H l (.tup ys))) ∨ (SqT K H p ys ∧ Q (.ref p) H))) (tCons ta tNil)) σ H xs :=
  fun H1 e Q q => ha H1 e _ fun p H2 _ e2 hp => ⟨p, xs, rfl, .inl ⟨sq_of hp, fun l hl => q l _ (fresh_back e2 hl) (e2.trans (Ex.new hl)) upd_same⟩⟩
/-- a pure def that gives a truth value -/
def SpB (P : List V → Hp → Bool → Prop) : Sp := fun vs H Q _ => ∃ b, P vs H b ∧ ∀ H', Ex H H' → Q (.bl b) H'
theorem spb {P : List V → Hp → Bool → Prop} {vs : List V} {b : Bool} (h : ∀ H1, Ex H H1 → P vs H1 b) : SpV (SpB P) vs H (.bl b) := fun H1 e Q q E =>
  ⟨b, h H1 e, fun H' e' => q H' e'⟩
theorem ev_callB {P : List V → Hp → Bool → Prop} {vs : List V} {E : XK} {tas : TA} {b : Bool} (h : EvA tas σ H vs) (hs : ∀ H1, Ex H H1 → P vs H1 b) : Ev (tCall (SpB P) [] E tas) σ H (.bl b) :=
  ev_call h (by rw [List.append_nil]; exact spb hs)
end
end L2.XK

set_option Elab.async false
set_option maxRecDepth 100000
set_option maxHeartbeats 4000000
namespace L2.KC
open PySem PySem.Spec PyProof.Rows
def topS (i : Nat) : Stmt := PySem.Challenge.pw_holdhouse_k05_rows_that_are_none.main.body.getD i (.Pass ⟨0, 0, 0, 0⟩)
abbrev sIsInteger : Stmt := topS 20
abbrev NIsInteger : List Str := ["thing"]
theorem scIsInteger : FnScope NIsInteger ["thing"] (defScope sIsInteger) := ⟨rfl, rfl, rfl, by decide +kernel, rfl, by decide +kernel, by decide +kernel⟩
abbrev sIsBetween : Stmt := topS 21
abbrev NIsBetween : List Str := ["thing", "least", "most"]
theorem scIsBetween : FnScope NIsBetween ["thing", "least", "most"] (defScope sIsBetween) := ⟨rfl, rfl, rfl, by decide +kernel, rfl, by decide +kernel, by decide +kernel⟩
abbrev sIsWord : Stmt := topS 22
abbrev NIsWord : List Str := ["thing", "sign"]
theorem scIsWord : FnScope NIsWord ["thing"] (defScope sIsWord) := ⟨rfl, rfl, rfl, by decide +kernel, rfl, by decide +kernel, by decide +kernel⟩
abbrev sIsStand : Stmt := topS 23
abbrev NIsStand : List Str := ["thing"]
theorem scIsStand : FnScope NIsStand ["thing"] (defScope sIsStand) := ⟨rfl, rfl, rfl, by decide +kernel, rfl, by decide +kernel, by decide +kernel⟩
abbrev sWrongStand : Stmt := topS 24
abbrev NWrongStand : List Str := ["stands", "at", "pair"]
theorem scWrongStand : FnScope NWrongStand ["stands"] (defScope sWrongStand) := ⟨rfl, rfl, rfl, by decide +kernel, rfl, by decide +kernel, by decide +kernel⟩
abbrev sStandWords : Stmt := topS 25
abbrev NStandWords : List Str := ["stands", "pair"]
theorem scStandWords : FnScope NStandWords ["stands"] (defScope sStandWords) := ⟨rfl, rfl, rfl, by decide +kernel, rfl, by decide +kernel, by decide +kernel⟩
abbrev sWrongKey : Stmt := topS 26
abbrev NWrongKey : List Str := ["keys", "at", "word"]
theorem scWrongKey : FnScope NWrongKey ["keys"] (defScope sWrongKey) := ⟨rfl, rfl, rfl, by decide +kernel, rfl, by decide +kernel, by decide +kernel⟩
abbrev sWrongRow : Stmt := topS 27
abbrev NWrongRow : List Str := ["rows", "stands", "keys", "at", "row"]
theorem scWrongRow : FnScope NWrongRow ["rows", "stands", "keys"] (defScope sWrongRow) := ⟨rfl, rfl, rfl, by decide +kernel, rfl, by decide +kernel, by decide +kernel⟩
abbrev sIsRow : Stmt := topS 28
abbrev NIsRow : List Str := ["thing", "stands", "keys", "words", "occasion", "conditions", "deeds", "condition", "deed"]
theorem scIsRow : FnScope NIsRow ["thing", "stands", "keys"] (defScope sIsRow) := ⟨rfl, rfl, rfl, by decide +kernel, rfl, by decide +kernel, by decide +kernel⟩
abbrev sRowParts : Stmt := topS 29
abbrev NRowParts : List Str := ["row", "conditions", "head", "colon", "tail", "occasion", "joint", "rest"]
theorem scRowParts : FnScope NRowParts ["row"] (defScope sRowParts) := ⟨rfl, rfl, rfl, by decide +kernel, rfl, by decide +kernel, by decide +kernel⟩
abbrev sIsOccasion : Stmt := topS 30
abbrev NIsOccasion : List Str := ["text", "keys"]
theorem scIsOccasion : FnScope NIsOccasion ["text", "keys"] (defScope sIsOccasion) := ⟨rfl, rfl, rfl, by decide +kernel, rfl, by decide +kernel, by decide +kernel⟩
abbrev sIsCondition : Stmt := topS 31
abbrev NIsCondition : List Str := ["text", "occasion", "words", "plain", "wanted"]
theorem scIsCondition : FnScope NIsCondition ["text", "occasion", "words"] (defScope sIsCondition) := ⟨rfl, rfl, rfl, by decide +kernel, rfl, by decide +kernel, by decide +kernel⟩
abbrev sConditionParts : Stmt := topS 32
abbrev NConditionParts : List Str := ["text"]
theorem scConditionParts : FnScope NConditionParts ["text"] (defScope sConditionParts) := ⟨rfl, rfl, rfl, by decide +kernel, rfl, by decide +kernel, by decide +kernel⟩
abbrev sIsLineCondition : Stmt := topS 33
abbrev NIsLineCondition : List Str := ["plain", "words"]
theorem scIsLineCondition : FnScope NIsLineCondition ["plain", "words"] (defScope sIsLineCondition) := ⟨rfl, rfl, rfl, by decide +kernel, rfl, by decide +kernel, by decide +kernel⟩
abbrev sIsDeed : Stmt := topS 34
abbrev NIsDeed : List Str := ["text", "occasion", "words"]
theorem scIsDeed : FnScope NIsDeed ["text", "occasion", "words"] (defScope sIsDeed) := ⟨rfl, rfl, rfl, by decide +kernel, rfl, by decide +kernel, by decide +kernel⟩
abbrev sHasPhone : Stmt := topS 35
abbrev NHasPhone : List Str := ["occasion"]
theorem scHasPhone : FnScope NHasPhone ["occasion"] (defScope sHasPhone) := ⟨rfl, rfl, rfl, by decide +kernel, rfl, by decide +kernel, by decide +kernel⟩
abbrev sHasKey : Stmt := topS 36
abbrev NHasKey : List Str := ["occasion"]
theorem scHasKey : FnScope NHasKey ["occasion"] (defScope sHasKey) := ⟨rfl, rfl, rfl, by decide +kernel, rfl, by decide +kernel, by decide +kernel⟩
abbrev sNamesOne : Stmt := topS 37
abbrev NNamesOne : List Str := ["text", "opening", "words"]
theorem scNamesOne : FnScope NNamesOne ["text", "opening", "words"] (defScope sNamesOne) := ⟨rfl, rfl, rfl, by decide +kernel, rfl, by decide +kernel, by decide +kernel⟩
def wPartingWords : List Str := ["and", "if", "not"]
def wHeardWords : List Str := ["voice", "stranger", "both", "over", "gone"]
def wPlainOccasions : List Str := ["call", "gone", "late", "lay"]
def wLineConditions : List Str := ["caller", "joined", "a", "b", "ear a", "ear b"]
def wPhoneConditions : List Str := ["me a", "me b", "busy"]
def wLineDeeds : List Str := ["a none", "a some", "b none", "b some", "swap", "deaf", "part"]
def wPhoneDeeds : List Str := ["a me", "b me"]
def wKeyDeeds : List Str := ["hear", "join"]
/-- where the checks stand -/
structure AdrC where
  IsInteger : Addr
  fdIsInteger : FuncData
  IsBetween : Addr
  fdIsBetween : FuncData
  IsWord : Addr
  fdIsWord : FuncData
  IsStand : Addr
  fdIsStand : FuncData
  WrongStand : Addr
  fdWrongStand : FuncData
  StandWords : Addr
  fdStandWords : FuncData
  WrongKey : Addr
  fdWrongKey : FuncData
  WrongRow : Addr
  fdWrongRow : FuncData
  IsRow : Addr
  fdIsRow : FuncData
  RowParts : Addr
  fdRowParts : FuncData
  IsOccasion : Addr
  fdIsOccasion : FuncData
  IsCondition : Addr
  fdIsCondition : FuncData
  ConditionParts : Addr
  fdConditionParts : FuncData
  IsLineCondition : Addr
  fdIsLineCondition : FuncData
  IsDeed : Addr
  fdIsDeed : FuncData
  HasPhone : Addr
  fdHasPhone : FuncData
  HasKey : Addr
  fdHasKey : FuncData
  NamesOne : Addr
  fdNamesOne : FuncData
  tMostConditions : Tok
  tMostDeeds : Tok
  tLongestWord : Tok
  tMostLines : Tok
  tMostStands : Tok
  tMostKeys : Tok
  tMostRows : Tok
  tFewestStands : Tok
  rPartingWords : Addr
  rHeardWords : Addr
  rPlainOccasions : Addr
  rLineConditions : Addr
  rPhoneConditions : Addr
  rLineDeeds : Addr
  rPhoneDeeds : Addr
  rKeyDeeds : Addr
  tKeyOpening : Tok
  tStandConditionOpening : Tok
  tStandDeedOpening : Tok
def WT (K : PySem.W.Frag) (r : Addr) (l : List Str) : Prop := ∀ H, SqT K H r (l.map V.str)
/-- what the top has written of the checks -/
structure TxtC (K : PySem.W.Frag) (mg : Str → Option Value) (a : AdrC) : Prop where
  gIsInteger : mg "is_integer" = some (.ref a.IsInteger)
  kIsInteger : PySem.W.keepIn K (.ref a.IsInteger) = true
  fIsInteger : Fun K "is_integer" "is_integer" sIsInteger a.IsInteger a.fdIsInteger
  bIsInteger : Binds K a.fdIsInteger ["thing"] []
  gIsBetween : mg "is_between" = some (.ref a.IsBetween)
  kIsBetween : PySem.W.keepIn K (.ref a.IsBetween) = true
  fIsBetween : Fun K "is_between" "is_between" sIsBetween a.IsBetween a.fdIsBetween
  bIsBetween : Binds K a.fdIsBetween ["thing", "least", "most"] []
  gIsWord : mg "is_word" = some (.ref a.IsWord)
  kIsWord : PySem.W.keepIn K (.ref a.IsWord) = true
  fIsWord : Fun K "is_word" "is_word" sIsWord a.IsWord a.fdIsWord
  bIsWord : Binds K a.fdIsWord ["thing"] []
  gIsStand : mg "is_stand" = some (.ref a.IsStand)
  kIsStand : PySem.W.keepIn K (.ref a.IsStand) = true
  fIsStand : Fun K "is_stand" "is_stand" sIsStand a.IsStand a.fdIsStand
  bIsStand : Binds K a.fdIsStand ["thing"] []
  gWrongStand : mg "wrong_stand" = some (.ref a.WrongStand)
  kWrongStand : PySem.W.keepIn K (.ref a.WrongStand) = true
  fWrongStand : Fun K "wrong_stand" "wrong_stand" sWrongStand a.WrongStand a.fdWrongStand
  bWrongStand : Binds K a.fdWrongStand ["stands"] []
  gStandWords : mg "stand_words" = some (.ref a.StandWords)
  kStandWords : PySem.W.keepIn K (.ref a.StandWords) = true
  fStandWords : Fun K "stand_words" "stand_words" sStandWords a.StandWords a.fdStandWords
  bStandWords : Binds K a.fdStandWords ["stands"] []
  gWrongKey : mg "wrong_key" = some (.ref a.WrongKey)
  kWrongKey : PySem.W.keepIn K (.ref a.WrongKey) = true
  fWrongKey : Fun K "wrong_key" "wrong_key" sWrongKey a.WrongKey a.fdWrongKey
  bWrongKey : Binds K a.fdWrongKey ["keys"] []
  gWrongRow : mg "wrong_row" = some (.ref a.WrongRow)
  kWrongRow : PySem.W.keepIn K (.ref a.WrongRow) = true
  fWrongRow : Fun K "wrong_row" "wrong_row" sWrongRow a.WrongRow a.fdWrongRow
  bWrongRow : Binds K a.fdWrongRow ["rows", "stands", "keys"] []
  gIsRow : mg "is_row" = some (.ref a.IsRow)
  kIsRow : PySem.W.keepIn K (.ref a.IsRow) = true
  fIsRow : Fun K "is_row" "is_row" sIsRow a.IsRow a.fdIsRow
  bIsRow : Binds K a.fdIsRow ["thing", "stands", "keys"] []
  gRowParts : mg "row_parts" = some (.ref a.RowParts)
  kRowParts : PySem.W.keepIn K (.ref a.RowParts) = true
  fRowParts : Fun K "row_parts" "row_parts" sRowParts a.RowParts a.fdRowParts
  bRowParts : Binds K a.fdRowParts ["row"] []
  gIsOccasion : mg "is_occasion" = some (.ref a.IsOccasion)
  kIsOccasion : PySem.W.keepIn K (.ref a.IsOccasion) = true
  fIsOccasion : Fun K "is_occasion" "is_occasion" sIsOccasion a.IsOccasion a.fdIsOccasion
  bIsOccasion : Binds K a.fdIsOccasion ["text", "keys"] []
  gIsCondition : mg "is_condition" = some (.ref a.IsCondition)
  kIsCondition : PySem.W.keepIn K (.ref a.IsCondition) = true
  fIsCondition : Fun K "is_condition" "is_condition" sIsCondition a.IsCondition a.fdIsCondition
  bIsCondition : Binds K a.fdIsCondition ["text", "occasion", "words"] []
  gConditionParts : mg "condition_parts" = some (.ref a.ConditionParts)
  kConditionParts : PySem.W.keepIn K (.ref a.ConditionParts) = true
  fConditionParts : Fun K "condition_parts" "condition_parts" sConditionParts a.ConditionParts a.fdConditionParts
  bConditionParts : Binds K a.fdConditionParts ["text"] []
  gIsLineCondition : mg "is_line_condition" = some (.ref a.IsLineCondition)
  kIsLineCondition : PySem.W.keepIn K (.ref a.IsLineCondition) = true
  fIsLineCondition : Fun K "is_line_condition" "is_line_condition" sIsLineCondition a.IsLineCondition a.fdIsLineCondition
  bIsLineCondition : Binds K a.fdIsLineCondition ["plain", "words"] []
  gIsDeed : mg "is_deed" = some (.ref a.IsDeed)
  kIsDeed : PySem.W.keepIn K (.ref a.IsDeed) = true
  fIsDeed : Fun K "is_deed" "is_deed" sIsDeed a.IsDeed a.fdIsDeed
  bIsDeed : Binds K a.fdIsDeed ["text", "occasion", "words"] []
  gHasPhone : mg "has_phone" = some (.ref a.HasPhone)
  kHasPhone : PySem.W.keepIn K (.ref a.HasPhone) = true
  fHasPhone : Fun K "has_phone" "has_phone" sHasPhone a.HasPhone a.fdHasPhone
  bHasPhone : Binds K a.fdHasPhone ["occasion"] []
  gHasKey : mg "has_key" = some (.ref a.HasKey)
  kHasKey : PySem.W.keepIn K (.ref a.HasKey) = true
  fHasKey : Fun K "has_key" "has_key" sHasKey a.HasKey a.fdHasKey
  bHasKey : Binds K a.fdHasKey ["occasion"] []
  gNamesOne : mg "names_one" = some (.ref a.NamesOne)
  kNamesOne : PySem.W.keepIn K (.ref a.NamesOne) = true
  fNamesOne : Fun K "names_one" "names_one" sNamesOne a.NamesOne a.fdNamesOne
  bNamesOne : Binds K a.fdNamesOne ["text", "opening", "words"] []
  blen : mg "len" = none
  bisinstance : mg "isinstance" = none
  bint : mg "int" = none
  bbool : mg "bool" = none
  bstr : mg "str" = none
  btuple : mg "tuple" = none
  ball : mg "all" = none
  benumerate : mg "enumerate" = none
  mgMostConditions : mg "MOST_CONDITIONS" = some (.int 4 a.tMostConditions)
  mgMostDeeds : mg "MOST_DEEDS" = some (.int 4 a.tMostDeeds)
  mgLongestWord : mg "LONGEST_WORD" = some (.int 8 a.tLongestWord)
  mgMostLines : mg "MOST_LINES" = some (.int 3 a.tMostLines)
  mgMostStands : mg "MOST_STANDS" = some (.int 6 a.tMostStands)
  mgMostKeys : mg "MOST_KEYS" = some (.int 3 a.tMostKeys)
  mgMostRows : mg "MOST_ROWS" = some (.int 16 a.tMostRows)
  mgFewestStands : mg "FEWEST_STANDS" = some (.int 2 a.tFewestStands)
  mgPartingWords : mg "PARTING_WORDS" = some (.ref a.rPartingWords)
  wPartingWords : WT K a.rPartingWords wPartingWords
  mgHeardWords : mg "HEARD_WORDS" = some (.ref a.rHeardWords)
  wHeardWords : WT K a.rHeardWords wHeardWords
  mgPlainOccasions : mg "PLAIN_OCCASIONS" = some (.ref a.rPlainOccasions)
  wPlainOccasions : WT K a.rPlainOccasions wPlainOccasions
  mgLineConditions : mg "LINE_CONDITIONS" = some (.ref a.rLineConditions)
  wLineConditions : WT K a.rLineConditions wLineConditions
  mgPhoneConditions : mg "PHONE_CONDITIONS" = some (.ref a.rPhoneConditions)
  wPhoneConditions : WT K a.rPhoneConditions wPhoneConditions
  mgLineDeeds : mg "LINE_DEEDS" = some (.ref a.rLineDeeds)
  wLineDeeds : WT K a.rLineDeeds wLineDeeds
  mgPhoneDeeds : mg "PHONE_DEEDS" = some (.ref a.rPhoneDeeds)
  wPhoneDeeds : WT K a.rPhoneDeeds wPhoneDeeds
  mgKeyDeeds : mg "KEY_DEEDS" = some (.ref a.rKeyDeeds)
  wKeyDeeds : WT K a.rKeyDeeds wKeyDeeds
  mgKeyOpening : mg "KEY_OPENING" = some (.str "key " a.tKeyOpening)
  mgStandConditionOpening : mg "STAND_CONDITION_OPENING" = some (.str "in " a.tStandConditionOpening)
  mgStandDeedOpening : mg "STAND_DEED_OPENING" = some (.str "stand " a.tStandDeedOpening)
end L2.KC

set_option Elab.async false
set_option maxRecDepth 100000
set_option maxHeartbeats 4000000
set_option linter.all false
/-! The checks of words, of conditions and deeds. -/
namespace L2.XK
open PySem PySem.Spec PyProof.Rows XC Evl
section
variable {K : PySem.W.Frag} {σ : L2.St} {H : Hp} {ta tb tc te : TE}
theorem ev_slS {tl th : TO} {z : Str} {lo hi : Option Int} (h : Ev te σ H (.str z)) (h1 : EvO tl σ H lo) (h2 : EvO th σ H hi) (hz : z.length ≤ 100000) :
    Ev (tSl rSlS te tl th) σ H (.str (cutS z lo hi)) := fun H1 e Q q =>
  h H1 e _ fun H2 e2 => h1 H2 (e.trans e2) _ fun H3 e3 => h2 H3 ((e.trans e2).trans e3) _ fun H4 e4 => ⟨z, rfl, sz_of hz, q H4 ((e2.trans e3).trans e4)⟩
theorem ev_starts {x y : Str} (ha : Ev ta σ H (.str x)) (hb : Ev tb σ H (.str y)) :
    Ev (tBM K "str" (fun x xs H Q => ∃ a b, x = .str a ∧ xs = [.str b] ∧ Q (.bl (Txt.startswith a b)) H) ta (tCons tb tNil)) σ H (.bl (Txt.startswith x y)) := fun H1 e Q q =>
  ha H1 e _ fun H2 e2 => ⟨rfl, hb H2 (e.trans e2) _ fun H3 e3 => ⟨x, y, rfl, rfl, q H3 (e2.trans e3)⟩⟩
theorem ev_inT {neg : Bool} {x : V} {p : Addr} {xs : List V} (ha : Ev ta σ H x) (hb : Ev tb σ H (.ref p)) (h : SqT K H p xs) (hx : flatV x = true) (hf : xs.all flatV = true) :
    Ev (tOp (rIn K neg) ta tb) σ H (.bl (if neg then !inV x xs else inV x xs)) := ev_op ha hb (rv_inT h hx hf)
theorem flatStrs (l : List Str) : (l.map V.str).all flatV = true := by
  rw [List.all_map]
  exact List.all_eq_true.mpr fun _ _ => rfl
theorem flatStr (x : Str) : flatV (.str x) = true := rfl
end
end L2.XK
namespace L2.KC
open PySem PySem.Spec PyProof.Rows XK Evl
def inS (z : Str) (ws : List Str) : Bool := inV (.str z) (ws.map V.str)
def nameOne (t o : Str) (ws : List Str) : Bool := Txt.startswith t o && inS (cutS t (some (o.length : Int)) none) ws
def keyS (s : Str) : Bool := Txt.startswith s "key "
def phoneS (s : Str) : Bool := decide (V.str s = V.str "lay") || keyS s
def occOk (s : Str) (keys : List Str) : Bool := inS s wPlainOccasions || nameOne s "key " keys
def plainS (s : Str) : Str := if Txt.startswith s "not " then cutS s (some (("not " : Str).length : Int)) none else s
def condOk (s occ : Str) (words : List Str) : Bool :=
  if inS (plainS s) wPhoneConditions then phoneS occ else inS (plainS s) wLineConditions || nameOne (plainS s) "in " words
def deedOk (s occ : Str) (words : List Str) : Bool :=
  if inS s wPhoneDeeds then phoneS occ else if inS s wKeyDeeds then keyS occ else inS s wLineDeeds || nameOne s "stand " words
def intOf (d : PyData) : Int := match d with
  | .int i => i
  | _ => 0
def betw (d : PyData) (lo hi : Int) : Bool := match d with
  | .int i => decide (lo ≤ i) && decide (i ≤ hi)
  | _ => false
section
variable {P : Program} {w : World} {K : PySem.W.Frag} {mg : Str → Option Value} {base : Heap} {a : AdrC}
def pBetween (K : PySem.W.Frag) : List V → Hp → Bool → Prop := fun vs H b => ∃ x d lo hi, vs = [x, .int lo, .int hi] ∧ Da K H x d ∧ b = betw d lo hi
def pKey : List V → Hp → Bool → Prop := fun vs _ b => ∃ s, vs = [.str s] ∧ b = keyS s
def pPhone : List V → Hp → Bool → Prop := fun vs _ b => ∃ s, vs = [.str s] ∧ b = phoneS s
def pNames (K : PySem.W.Frag) : List V → Hp → Bool → Prop := fun vs H b => ∃ t o r ws, vs = [.str t, .str o, .ref r] ∧ SqT K H r (ws.map V.str) ∧ t.length ≤ 100000 ∧ o.length ≤ 100000 ∧ b = nameOne t o ws
def pOcc (K : PySem.W.Frag) : List V → Hp → Bool → Prop := fun vs H b => ∃ t r ws, vs = [.str t, .ref r] ∧ SqT K H r (ws.map V.str) ∧ t.length ≤ 100000 ∧ b = occOk t ws
def pCond (K : PySem.W.Frag) : List V → Hp → Bool → Prop := fun vs H b => ∃ t o r ws, vs = [.str t, .str o, .ref r] ∧ SqT K H r (ws.map V.str) ∧ t.length ≤ 100000 ∧ b = condOk t o ws
def pDeed (K : PySem.W.Frag) : List V → Hp → Bool → Prop := fun vs H b => ∃ t o r ws, vs = [.str t, .str o, .ref r] ∧ SqT K H r (ws.map V.str) ∧ t.length ≤ 100000 ∧ b = deedOk t o ws
def pInt (K : PySem.W.Frag) : List V → Hp → Bool → Prop := fun vs H b => ∃ x d, vs = [x] ∧ Da K H x d ∧ b = (isD "int" d && !isD "bool" d)
theorem ok_int (T : TxtC K mg a) : FnOk P w K mg base CX0 1 a.IsInteger a.fdIsInteger ["thing"] (SpB (pInt K)) := by
  refine T.fIsInteger.ok scIsInteger (fun vs H Q E h => ?_) (fun cdv A outer s H vs Q E hr h => ?_)
  · obtain ⟨b, ⟨x, d, rfl, _⟩, _⟩ := h
    rfl
  · obtain ⟨b, ⟨x, d, rfl, hd, rfl⟩, k⟩ := h
    refine ⟨_, (pss_one (ps_ret (by exact (pe_and (pe_callB (id := "isinstance") (r := rIsi K) call_isi (by rfl) T.bisinstance (by decide +kernel) (pa_cons (pv 0) (pa_cons (pe_bltn (v := .ty "int") (by rfl) T.bint (by decide +kernel) rfl) pa_nil))) (pe_one (pe_not (pe_callB (id := "isinstance") (r := rIsi K) call_isi (by rfl) T.bisinstance (by decide +kernel) (pa_cons (pv 0) (pa_cons (pe_bltn (v := .ty "bool") (by rfl) T.bbool (by decide +kernel) rfl) pa_nil))))))))), ?_⟩
    have v0 : ∀ H', Ev (tVar 0) (start NIsInteger [x]) H' x := fun H' => ev_var rfl
    exact s_ret (ev_andV (ev_isi (by decide) (v0 _) hd) fun h1 => ev_notV (ev_isi (by decide) (v0 _) hd)) fun H1 e1 => k H1 e1
theorem ok_between (T : TxtC K mg a) : FnOk P w K mg base CX0 2 a.IsBetween a.fdIsBetween ["thing", "least", "most"] (SpB (pBetween K)) := by
  have GIsInteger : FnOk P w K mg base CX0 1 a.IsInteger a.fdIsInteger ["thing"] (SpB (pInt K)) := ok_int T
  refine T.fIsBetween.ok scIsBetween (fun vs H Q E h => ?_) (fun cdv A outer s H vs Q E hr h => ?_)
  · obtain ⟨b, ⟨x, d, lo, hi, rfl, _⟩, _⟩ := h
    rfl
  · obtain ⟨b, ⟨x, d, lo, hi, rfl, hd, rfl⟩, k⟩ := h
    refine ⟨_, (pss_one (ps_ret (by exact (pe_and (pe_call GIsInteger (hr.mono (by decide)) (by rfl) T.gIsInteger T.kIsInteger T.bIsInteger .nil pass0 (pa_cons (pv 0) pa_nil)) (pe_one (pe_chain op_le op_le (pv 1) (pv 0) (pv 2))))))), ?_⟩
    have v0 : ∀ H', Ev (tVar 0) (start NIsBetween [x, .int lo, .int hi]) H' x := fun H' => ev_var rfl
    refine s_ret (v := .bl (betw d lo hi)) ?_ fun H1 e1 => k H1 e1
    refine ev_is (v := .bl ((isD "int" d && !isD "bool" d) && (decide (lo ≤ intOf d) && decide (intOf d ≤ hi)))) (ev_andV (ev_callB (ea_cons (v0 _) ea_nil) fun H1 e1 => ⟨x, d, rfl, hd.ex e1, rfl⟩) fun h2 => ?_) ?_
    · have hi' : ∃ i, d = .int i := by
        cases d <;> first | exact ⟨_, rfl⟩ | (simp [isD, isTy, tyN] at h2)
      obtain ⟨i, rfl⟩ := hi'
      cases hd
      exact ev_chain (ev_var (by rfl)) (v0 _) rv_I0 (ev_var (by rfl)) rv_I0
    · cases d <;> simp [isD, isTy, tyN, betw, intOf] <;> rfl
theorem ok_key (T : TxtC K mg a) : FnOk P w K mg base CX0 1 a.HasKey a.fdHasKey ["occasion"] (SpB pKey) := by
  refine T.fHasKey.ok scHasKey (fun vs H Q E h => ?_) (fun cdv A outer s H vs Q E hr h => ?_)
  · obtain ⟨b, ⟨x, rfl, _⟩, _⟩ := h
    rfl
  · obtain ⟨b, ⟨x, rfl, rfl⟩, k⟩ := h
    refine ⟨_, (pss_one (ps_ret (by exact (pe_bm PySem.F.plainAttrs_str PySem.F.slot_str_startswith PySem.F.type_str_startswith mt_startswith (pv 0) (pa_cons (pe_glob (v := .str "key ") rfl T.mgKeyOpening ⟨_, rfl⟩) pa_nil))))), ?_⟩
    exact s_ret (ev_starts (ev_var (by rfl)) ev_c) fun H1 e1 => k H1 e1
theorem ok_phone (T : TxtC K mg a) : FnOk P w K mg base CX0 2 a.HasPhone a.fdHasPhone ["occasion"] (SpB pPhone) := by
  have GHasKey : FnOk P w K mg base CX0 1 a.HasKey a.fdHasKey ["occasion"] (SpB pKey) := ok_key T
  refine T.fHasPhone.ok scHasPhone (fun vs H Q E h => ?_) (fun cdv A outer s H vs Q E hr h => ?_)
  · obtain ⟨b, ⟨x, rfl, _⟩, _⟩ := h
    rfl
  · obtain ⟨b, ⟨x, rfl, rfl⟩, k⟩ := h
    refine ⟨_, (pss_one (ps_ret (by exact (pe_or (pe_cmpR op_eq (pv 0) pe_str (nomark _)) (pe_one (pe_call GHasKey (hr.mono (by decide)) (by rfl) T.gHasKey T.kHasKey T.bHasKey .nil pass0 (pa_cons (pv 0) pa_nil))))))), ?_⟩
    refine s_ret (ev_orV (ev_op (ev_var (by rfl)) ev_c (rv_eq rfl)) fun _ => ?_) fun H1 e1 => k H1 e1
    exact ev_callB (ea_cons (ev_var (by rfl)) ea_nil) fun H1 _ => ⟨x, rfl, rfl⟩
theorem ok_names (T : TxtC K mg a) : FnOk P w K mg base CX0 1 a.NamesOne a.fdNamesOne ["text", "opening", "words"] (SpB (pNames K)) := by
  refine T.fNamesOne.ok scNamesOne (fun vs H Q E h => ?_) (fun cdv A outer s H vs Q E hr h => ?_)
  · obtain ⟨b, ⟨t, o, r, ws, rfl, _⟩, _⟩ := h
    rfl
  · obtain ⟨b, ⟨t, o, r, ws, rfl, hw, ht, ho, rfl⟩, k⟩ := h
    refine ⟨_, (pss_one (ps_ret (by exact (pe_and (pe_bm PySem.F.plainAttrs_str PySem.F.slot_str_startswith PySem.F.type_str_startswith mt_startswith (pv 0) (pa_cons (pv 1) pa_nil)) (pe_one (pe_cmpR (r := rIn K false) op_in_seq (pe_slice sl_str (pv 0) (po_some (pe_callB call_len (by rfl) T.blen (by decide +kernel) (pa_cons (pv 1) pa_nil))) po_none) (pv 2) (by rfl)))))))
, ?_⟩
    refine s_ret (ev_andV (ev_starts (ev_var (by rfl)) (ev_var (by rfl))) fun _ => ?_) fun H1 e1 => k H1 e1
    exact ev_inT (neg := false) (ev_slS (ev_var (by rfl)) (eo_some (ev_lenS (ev_var (by rfl)) ho)) eo_none ht) (ev_var (by rfl)) hw (flatStr _) (flatStrs ws)
theorem ok_occ (T : TxtC K mg a) : FnOk P w K mg base CX0 2 a.IsOccasion a.fdIsOccasion ["text", "keys"] (SpB (pOcc K)) := by
  have GNamesOne : FnOk P w K mg base CX0 1 a.NamesOne a.fdNamesOne ["text", "opening", "words"] (SpB (pNames K)) := ok_names T
  refine T.fIsOccasion.ok scIsOccasion (fun vs H Q E h => ?_) (fun cdv A outer s H vs Q E hr h => ?_)
  · obtain ⟨b, ⟨t, r, ws, rfl, _⟩, _⟩ := h
    rfl
  · obtain ⟨b, ⟨t, r, ws, rfl, hw, ht, rfl⟩, k⟩ := h
    refine ⟨_, (pss_one (ps_ret (by exact (pe_or (pe_cmpR (r := rIn K false) op_in_seq (pv 0) (pe_glob (v := .ref a.rPlainOccasions) rfl T.mgPlainOccasions rfl) (by rfl)) (pe_one (pe_call GNamesOne (hr.mono (by decide)) (by rfl) T.gNamesOne T.kNamesOne T.bNamesOne .nil pass0 (pa_cons (pv 0) (pa_cons (pe_glob (v := .str "key ") rfl T.mgKeyOpening ⟨_, rfl⟩) (pa_cons (pv 1) pa_nil))))))))), ?_⟩
    refine s_ret (ev_orV (ev_inT (neg := false) (ev_var (by rfl)) ev_c (T.wPlainOccasions H) (flatStr _) (flatStrs _)) fun _ => ?_) fun H1 e1 => k H1 e1
    exact ev_callB (ea_cons (ev_var (by rfl)) (ea_cons ev_c (ea_cons (ev_var (by rfl)) ea_nil))) fun H1 e1 => ⟨t, _, r, ws, rfl, ex_t e1 hw, ht, by decide, rfl⟩
theorem cutS_len (z : Str) (lo hi : Option Int) : (cutS z lo hi).length ≤ z.length := by
  unfold cutS
  simp only [Str.length]
  simp
  omega
def spCParts : Sp := fun vs H Q _ => ∃ s, vs = [.str s] ∧ s.length ≤ 100000 ∧ ∀ p b H', Ex H H' → H' p = some (.tup [.str (plainS s), .bl b]) → Q (.ref p) H'
def lineOk (s : Str) (words : List Str) : Bool := inS s wLineConditions || nameOne s "in " words
def pLine (K : PySem.W.Frag) : List V → Hp → Bool → Prop := fun vs H b => ∃ t r ws, vs = [.str t, .ref r] ∧ SqT K H r (ws.map V.str) ∧ t.length ≤ 100000 ∧ b = lineOk t ws
theorem plain_len {t : Str} (ht : t.length ≤ 100000) : (plainS t).length ≤ 100000 := by
  unfold plainS
  split
  · exact Nat.le_trans (cutS_len _ _ _) ht
  · exact ht
theorem ok_cparts (T : TxtC K mg a) : FnOk P w K mg base CX0 1 a.ConditionParts a.fdConditionParts ["text"] spCParts := by
  refine T.fConditionParts.ok scConditionParts (fun vs H Q E h => ?_) (fun cdv A outer s H vs Q E hr h => ?_)
  · obtain ⟨b, rfl, _⟩ := h
    rfl
  · obtain ⟨s, rfl, hz, k⟩ := h
    refine ⟨_, (pss_cons (ps_if (pt_val (pe_bm PySem.F.plainAttrs_str PySem.F.slot_str_startswith PySem.F.type_str_startswith mt_startswith (pv 0) (pa_cons pe_str pa_nil))) (pss_one (ps_ret (by exact (pe_tup (pa_cons (pe_slice sl_str (pv 0) (po_some (pe_callB call_len (by rfl) T.blen (by decide +kernel) (pa_cons pe_str pa_nil))) po_none) (pa_cons pe_bl pa_nil)))))) pss_nil)
      (pss_one (ps_ret (by exact (pe_tup (pa_cons (pv 0) (pa_cons pe_bl pa_nil))))))), ?_⟩
    refine s_when (b := Txt.startswith s "not ") (et_test (ev_starts (ev_var (by rfl)) ev_c)) (fun hb H2 e2 => ?_) fun hb H2 e2 => ?_
    · refine s_retU (xs := [.str (cutS s (some (("not " : Str).length : Int)) none), .bl false]) (eu_tup (ea_cons (ev_slS (ev_var (by rfl)) (eo_some (ev_lenS ev_c (by decide))) eo_none hz) (ea_cons ev_c ea_nil)) (by simp)) fun p H1 hp e1 h1 => k p false H1 (e2.trans e1) ?_
      unfold plainS
      rw [if_pos hb]
      exact h1
    · dsimp only
      refine s_retU (xs := [.str s, .bl true]) (eu_tup (ea_cons (ev_var (by rfl)) (ea_cons ev_c ea_nil)) (by simp)) fun p H1 hp e1 h1 => k p true H1 (e2.trans e1) ?_
      unfold plainS
      rw [if_neg (by rw [hb]; decide)]
      exact h1
theorem ok_line (T : TxtC K mg a) : FnOk P w K mg base CX0 2 a.IsLineCondition a.fdIsLineCondition ["plain", "words"] (SpB (pLine K)) := by
  have GNamesOne : FnOk P w K mg base CX0 1 a.NamesOne a.fdNamesOne ["text", "opening", "words"] (SpB (pNames K)) := ok_names T
  refine T.fIsLineCondition.ok scIsLineCondition (fun vs H Q E h => ?_) (fun cdv A outer s H vs Q E hr h => ?_)
  · obtain ⟨b, ⟨t, r, ws, rfl, _⟩, _⟩ := h
    rfl
  · obtain ⟨b, ⟨t, r, ws, rfl, hw, ht, rfl⟩, k⟩ := h
    refine ⟨_, (pss_one (ps_ret (by exact (pe_or (pe_cmpR (r := rIn K false) op_in_seq (pv 0) (pe_glob (v := .ref a.rLineConditions) rfl T.mgLineConditions rfl) (by rfl)) (pe_one (pe_call GNamesOne (hr.mono (by decide)) (by rfl) T.gNamesOne T.kNamesOne T.bNamesOne .nil pass0 (pa_cons (pv 0) (pa_cons (pe_glob (v := .str "in ") rfl T.mgStandConditionOpening ⟨_, rfl⟩) (pa_cons (pv 1) pa_nil))))))))), ?_⟩
    refine s_ret (ev_orV (ev_inT (neg := false) (ev_var (by rfl)) ev_c (T.wLineConditions H) (flatStr _) (flatStrs _)) fun _ => ?_) fun H1 e1 => k H1 e1
    exact ev_callB (ea_cons (ev_var (by rfl)) (ea_cons ev_c (ea_cons (ev_var (by rfl)) ea_nil))) fun H1 e1 => ⟨t, _, r, ws, rfl, ex_t e1 hw, ht, by decide, rfl⟩
theorem ok_cond (T : TxtC K mg a) : FnOk P w K mg base CX0 3 a.IsCondition a.fdIsCondition ["text", "occasion", "words"] (SpB (pCond K)) := by
  have GConditionParts : FnOk P w K mg base CX0 1 a.ConditionParts a.fdConditionParts ["text"] spCParts := ok_cparts T
  have GIsLineCondition : FnOk P w K mg base CX0 2 a.IsLineCondition a.fdIsLineCondition ["plain", "words"] (SpB (pLine K)) := ok_line T
  have GHasPhone : FnOk P w K mg base CX0 2 a.HasPhone a.fdHasPhone ["occasion"] (SpB pPhone) := ok_phone T
  refine T.fIsCondition.ok scIsCondition (fun vs H Q E h => ?_) (fun cdv A outer s H vs Q E hr h => ?_)
  · obtain ⟨b, ⟨t, o, r, ws, rfl, _⟩, _⟩ := h
    rfl
  · obtain ⟨b, ⟨t, o, r, ws, rfl, hw, ht, rfl⟩, k⟩ := h
    refine ⟨_, (pss_cons (ps_asg (pe_call GConditionParts (hr.mono (by decide)) (by rfl) T.gConditionParts T.kConditionParts T.bConditionParts .nil pass0 (pa_cons (pv 0) pa_nil)) (pg_tup (by rfl) (pgs_cons (pg_name (i := 3) scIsCondition.nd rfl (by first | exact Or.inl rfl | exact Or.inr rfl)) (pgs_cons (pg_name (i := 4) scIsCondition.nd rfl (by first | exact Or.inl rfl | exact Or.inr rfl)) pgs_nil))))
      (pss_cons (ps_if (pt_cmpR (r := rIn K false) op_in_seq (pv 3) (pe_glob (v := .ref a.rPhoneConditions) rfl T.mgPhoneConditions rfl) (by rfl)) (pss_one (ps_ret (by exact (pe_call GHasPhone (hr.mono (by decide)) (by rfl) T.gHasPhone T.kHasPhone T.bHasPhone .nil pass0 (pa_cons (pv 1) pa_nil))))) pss_nil)
      (pss_one (ps_ret (by exact (pe_call GIsLineCondition (hr.mono (by decide)) (by rfl) T.gIsLineCondition T.kIsLineCondition T.bIsLineCondition .nil pass0 (pa_cons (pv 3) (pa_cons (pv 2) pa_nil)))))))), ?_⟩
    have hp := plain_len ht
    refine ⟨_, rfl, t, rfl, ht, fun p c H1 e1 h1 => ?_⟩
    refine ⟨p, _, rfl, st_of h1, rfl, _, _, rfl, _, _, rfl, rfl, ?_⟩
    dsimp only [tNext, tSeq]
    refine s_when (b := inS (plainS t) wPhoneConditions) (et_test (ev_inT (neg := false) (ev_var (by rfl)) ev_c (T.wPhoneConditions H1) (flatStr _) (flatStrs _))) (fun hb H2 e2 => ?_) fun hb H2 e2 => ?_
    · refine s_ret (v := .bl (condOk t o ws)) ?_ fun H3 e3 => k H3 ((e1.trans e2).trans e3)
      unfold condOk
      rw [if_pos hb]
      exact ev_callB (ea_cons (ev_var (by rfl)) ea_nil) fun H1 _ => ⟨o, rfl, rfl⟩
    · dsimp only
      refine s_ret (v := .bl (condOk t o ws)) ?_ fun H3 e3 => k H3 ((e1.trans e2).trans e3)
      unfold condOk
      rw [if_neg (by rw [hb]; decide)]
      exact ev_callB (ea_cons (ev_var (by rfl)) (ea_cons (ev_var (by rfl)) ea_nil)) fun H4 e4 => ⟨_, r, ws, rfl, ex_t ((e1.trans e2).trans e4) hw, hp, rfl⟩
theorem ok_deed (T : TxtC K mg a) : FnOk P w K mg base CX0 3 a.IsDeed a.fdIsDeed ["text", "occasion", "words"] (SpB (pDeed K)) := by
  have GNamesOne : FnOk P w K mg base CX0 1 a.NamesOne a.fdNamesOne ["text", "opening", "words"] (SpB (pNames K)) := ok_names T
  have GHasPhone : FnOk P w K mg base CX0 2 a.HasPhone a.fdHasPhone ["occasion"] (SpB pPhone) := ok_phone T
  have GHasKey : FnOk P w K mg base CX0 1 a.HasKey a.fdHasKey ["occasion"] (SpB pKey) := ok_key T
  refine T.fIsDeed.ok scIsDeed (fun vs H Q E h => ?_) (fun cdv A outer s H vs Q E hr h => ?_)
  · obtain ⟨b, ⟨t, o, r, ws, rfl, _⟩, _⟩ := h
    rfl
  · obtain ⟨b, ⟨t, o, r, ws, rfl, hw, ht, rfl⟩, k⟩ := h
    refine ⟨_, (pss_cons (ps_if (pt_cmpR (r := rIn K false) op_in_seq (pv 0) (pe_glob (v := .ref a.rPhoneDeeds) rfl T.mgPhoneDeeds rfl) (by rfl)) (pss_one (ps_ret (by exact (pe_call GHasPhone (hr.mono (by decide)) (by rfl) T.gHasPhone T.kHasPhone T.bHasPhone .nil pass0 (pa_cons (pv 1) pa_nil))))) pss_nil)
      (pss_cons (ps_if (pt_cmpR (r := rIn K false) op_in_seq (pv 0) (pe_glob (v := .ref a.rKeyDeeds) rfl T.mgKeyDeeds rfl) (by rfl)) (pss_one (ps_ret (by exact (pe_call GHasKey (hr.mono (by decide)) (by rfl) T.gHasKey T.kHasKey T.bHasKey .nil pass0 (pa_cons (pv 1) pa_nil))))) pss_nil)
      (pss_one (ps_ret (by exact (pe_or (pe_cmpR (r := rIn K false) op_in_seq (pv 0) (pe_glob (v := .ref a.rLineDeeds) rfl T.mgLineDeeds rfl) (by rfl)) (pe_one (pe_call GNamesOne (hr.mono (by decide)) (by rfl) T.gNamesOne T.kNamesOne T.bNamesOne .nil pass0 (pa_cons (pv 0) (pa_cons (pe_glob (v := .str "stand ") rfl T.mgStandDeedOpening ⟨_, rfl⟩) (pa_cons (pv 2) pa_nil))))))))))), ?_⟩
    refine s_when (b := inS t wPhoneDeeds) (et_test (ev_inT (neg := false) (ev_var (by rfl)) ev_c (T.wPhoneDeeds H) (flatStr _) (flatStrs _))) (fun hb H2 e2 => ?_) fun hb H2 e2 => ?_
    · refine s_ret (v := .bl (deedOk t o ws)) ?_ fun H3 e3 => k H3 (e2.trans e3)
      unfold deedOk
      rw [if_pos hb]
      exact ev_callB (ea_cons (ev_var (by rfl)) ea_nil) fun H1 _ => ⟨o, rfl, rfl⟩
    · refine s_when (b := inS t wKeyDeeds) (et_test (ev_inT (neg := false) (ev_var (by rfl)) ev_c (T.wKeyDeeds H2) (flatStr _) (flatStrs _))) (fun hc H3 e3 => ?_) fun hc H3 e3 => ?_
      · refine s_ret (v := .bl (deedOk t o ws)) ?_ fun H4 e4 => k H4 ((e2.trans e3).trans e4)
        unfold deedOk
        rw [if_neg (by rw [hb]; decide), if_pos hc]
        exact ev_callB (ea_cons (ev_var (by rfl)) ea_nil) fun H1 _ => ⟨o, rfl, rfl⟩
      · dsimp only
        refine s_ret (v := .bl (deedOk t o ws)) ?_ fun H4 e4 => k H4 ((e2.trans e3).trans e4)
        unfold deedOk
        rw [if_neg (by rw [hb]; decide), if_neg (by rw [hc]; decide)]
        refine ev_orV (ev_inT (neg := false) (ev_var (by rfl)) ev_c (T.wLineDeeds H3) (flatStr _) (flatStrs _)) fun _ => ?_
        exact ev_callB (ea_cons (ev_var (by rfl)) (ea_cons ev_c (ea_cons (ev_var (by rfl)) ea_nil))) fun H4 e4 => ⟨_, _, r, ws, rfl, ex_t ((e2.trans e3).trans e4) hw, ht, by decide, rfl⟩
end
end L2.KC

set_option Elab.async false
set_option maxRecDepth 100000
set_option maxHeartbeats 4000000
set_option linter.all false
/-! Texts cut in parts: how long the parts are; lists of truth values; pure defs that give a tuple, or None or a number. -/
namespace L2.XK
open PySem PySem.Spec PyProof.Rows XC Evl TL
theorem spl_len {S : List Nat} : ∀ (l : List Nat) (k : Nat) (acc p : List Nat), p ∈ spl S k acc l → p.length ≤ acc.length + l.length
  | [], k, acc, p, h => by
    rw [spl_nil] at h
    rw [List.mem_singleton.mp h]
    exact Nat.le_add_right _ _
  | c :: r, 0, acc, p, h => by
    cases hp : pre S (c :: r) with
    | true =>
      rw [spl_hit hp] at h
      rcases List.mem_cons.mp h with rfl | h
      · exact Nat.le_add_right _ _
      · have := spl_len r _ [] p h
        simp at this ⊢
        omega
    | false =>
      rw [spl_miss hp] at h
      have := spl_len r _ _ p h
      simp at this ⊢
      omega
  | c :: r, k + 1, acc, p, h => by
    have := spl_len r k acc p h
    simp
    omega
theorem spl_many {S : List Nat} : ∀ (l : List Nat) (k : Nat) (acc : List Nat), (spl S k acc l).length ≤ l.length + 1
  | [], k, acc => by
    rw [spl_nil]
    exact Nat.le_refl _
  | c :: r, 0, acc => by
    cases hp : pre S (c :: r) with
    | true =>
      rw [spl_hit hp]
      have := spl_many (S := S) r (S.length - 1) []
      simp
      omega
    | false =>
      rw [spl_miss hp]
      have := spl_many (S := S) r 0 (acc ++ [c])
      simp
      omega
  | c :: r, k + 1, acc => by
    have := spl_many (S := S) r k acc
    have e : spl S (k + 1) acc (c :: r) = spl S k acc r := rfl
    rw [e]
    simp
    omega
theorem par_len {S : List Nat} : ∀ (l acc a b : List Nat), par S acc l = some (a, b) → a.length ≤ acc.length + l.length ∧ b.length ≤ l.length
  | [], acc, a, b, h => by cases h
  | c :: r, acc, a, b, h => by
    cases hp : pre S (c :: r) with
    | true =>
      rw [par_hit hp] at h
      cases h
      simp <;> omega
    | false =>
      rw [par_miss hp] at h
      have := par_len r _ a b h
      simp at this ⊢
      omega
/-- a separator of plain signs, not empty -/
structure Sep (y : Str) : Prop where
  ne : tl y ≠ []
  plain : y.cps.all (· < 256) = true
theorem Sep.len {y : Str} (s : Sep y) : (y.length == 0) = false := by
  have h := s.ne
  rw [beq_eq_false_iff_ne, len_tl]
  exact fun z => h (List.length_eq_zero_iff.mp z)
theorem split_len {x y p : Str} (s : Sep y) (h : p ∈ Txt.split x y) : p.length ≤ x.length := by
  have e := split_spl x y s.ne (kind_ok s.plain)
  have h1 : tl p ∈ spl (tl y) 0 [] (tl x) := by
    rw [← e]
    exact List.mem_map_of_mem h
  have := spl_len _ _ _ _ h1
  rw [len_tl, len_tl]
  simpa using this
theorem split_many {x y : Str} (s : Sep y) : (Txt.split x y).length ≤ x.length + 1 := by
  have e := split_spl x y s.ne (kind_ok s.plain)
  have h1 := spl_many (S := tl y) (tl x) 0 []
  rw [← e, List.length_map] at h1
  rw [len_tl]
  exact h1
theorem part_len {x y : Str} (s : Sep y) : (Txt.partition x y).1.length ≤ x.length ∧ (Txt.partition x y).2.1.length ≤ y.length ∧ (Txt.partition x y).2.2.length ≤ x.length := by
  rw [partition_par x y s.ne]
  cases h : par (tl y) [] (tl x) with
  | none => exact ⟨Nat.le_refl _, by show 0 ≤ _; omega, by show 0 ≤ _; omega⟩
  | some q =>
    obtain ⟨a, b⟩ := q
    have := par_len _ _ _ _ h
    rw [len_tl x]
    simp only [Str.length] at this ⊢
    simp at this ⊢
    exact ⟨this.1, this.2⟩
end L2.XK

set_option Elab.async false
set_option maxRecDepth 100000
set_option maxHeartbeats 4000000
set_option linter.all false
/-! Texts cut in parts: how long the parts are; lists of truth values; pure defs that give a tuple, or None or a number. -/
namespace L2.XK
open PySem PySem.Spec PyProof.Rows XC Evl TL
section
variable {K : PySem.W.Frag} {σ : L2.St} {H : Hp} {ta tb tc te : TE}
theorem range_map {α β : Type} (l : List α) (d : α) (g : α → β) : (List.range l.length).map (fun i => g (l.getD i d)) = l.map g := by
  apply List.ext_getElem
  · simp
  · intro i h1 h2
    simp at h1
    simp [List.getD, h1]
theorem ev_allS {z : Str} {j : Nat} {vs : List Nat} (f : Nat → Bool) (h : Ev te σ H (.str z)) (hz : z.length ≤ 40000) (hw : ∀ x, wipe ((wipe σ vs).set j (some x)) vs = wipe σ vs)
    (he : ∀ (c : Nat) H1, Ex H H1 → Ev tb ((wipe σ vs).set j (some (.str ⟨#[c]⟩))) H1 (.bl (f c))) :
    Ev (tCB (rAll K) (tCons (tLc (iStr te) (gName j) tYes tb vs) tNil)) σ H (.bl (z.cps.toList.all f)) := by
  refine ev_is (ev_all (bs := z.cps.toList.map f) ?_) (by rw [List.all_map]; rfl)
  have e : (z.cps.toList.map f).map V.bl = (List.range z.cps.size).map fun i => V.bl (f (z.cps.toList.getD i 0)) := by
    rw [List.map_map]
    exact (range_map z.cps.toList 0 (V.bl ∘ f)).symm
  rw [e]
  refine el_lcS _ h hz hw fun i c H1 e1 hc => ?_
  have e2 : z.cps.toList.getD i 0 = c := by
    rw [List.getD, Array.getElem?_toList, hc]
    rfl
  rw [e2]
  exact he c H1 e1
/-- all([f(x) for x in list of texts]) -/
theorem ev_allL {p : Addr} {ws : List Str} {j : Nat} {vs : List Nat} (f : Str → Bool) (h : Ev te σ H (.ref p)) (hx : SqL K H p (ws.map V.str)) (hz : ws.length ≤ 40000) (hw : ∀ x, wipe ((wipe σ vs).set j (some x)) vs = wipe σ vs)
    (he : ∀ (c : Str) H1, c ∈ ws → Ex H H1 → Ev tb ((wipe σ vs).set j (some (.str c))) H1 (.bl (f c))) :
    Ev (tCB (rAll K) (tCons (tLc (iList K te) (gName j) tYes tb vs) tNil)) σ H (.bl (ws.all f)) := by
  refine ev_is (ev_all (bs := ws.map f) ?_) (by rw [List.all_map]; rfl)
  have hl : (ws.map V.str).length = ws.length := List.length_map ..
  have e : (ws.map f).map V.bl = given (ws.map V.str).length (fun _ => true) fun i => V.bl (f (ws.getD i default)) := by
    unfold given
    rw [List.filter_eq_self.mpr (fun _ _ => rfl), hl, List.map_map]
    exact (range_map ws default (V.bl ∘ f)).symm
  rw [e]
  refine el_lcL (fun _ => true) _ h hx (by rw [hl]; exact hz) hw (fun i x H1 e1 hi => fun H2 e2 Q q => q H2 (Ex.refl _)) fun i x H1 e1 hi _ => ?_
  rw [List.getElem?_map] at hi
  cases hc : ws[i]? with
  | none =>
    rw [hc] at hi
    cases hi
  | some c =>
    rw [hc] at hi
    cases hi
    have e2 : ws.getD i default = c := by
      rw [List.getD, hc]
      rfl
    rw [e2]
    exact he c H1 (List.mem_of_getElem? hc) e1
theorem rv_leS {i j : Str} : RV (fun x y H Q => ∃ i j, x = .str i ∧ y = .str j ∧ Q (.bl (!decide (j.cps.toList < i.cps.toList))) H) (.str i) (.str j) H (.bl (!decide (j.cps.toList < i.cps.toList))) :=
  fun H1 e Q q => ⟨i, j, rfl, rfl, q H1 (Ex.refl _)⟩
/-- a new tuple -/
def SpU (P : List V → Hp → List V → Prop) : Sp := fun vs H Q _ => ∃ xs, P vs H xs ∧ ∀ p H', H p = none → Ex H H' → H' p = some (.tup xs) → Q (.ref p) H'
theorem eu_call {P : List V → Hp → List V → Prop} {vs xs : List V} {E : XK} {tas : TA} (h : EvA tas σ H vs) (hs : ∀ H1, Ex H H1 → P vs H1 xs) : EvU (tCall (SpU P) [] E tas) σ H xs := fun H1 e Q q =>
  h H1 e _ fun H2 e2 => by
    rw [List.append_nil]
    exact ⟨xs, hs H2 (e.trans e2), fun p H3 hp e3 h3 => q p H3 (fresh_back e2 hp) (e2.trans e3) h3⟩
def optV : Option Nat → V
  | some i => .int (i : Int)
  | none => .non
def SpN (P : List V → Hp → Option Nat → Prop) : Sp := fun vs H Q _ => ∃ o, P vs H o ∧ ∀ H', Ex H H' → Q (optV o) H'
theorem ev_callN {P : List V → Hp → Option Nat → Prop} {vs : List V} {E : XK} {tas : TA} {o : Option Nat} (h : EvA tas σ H vs) (hs : ∀ H1, Ex H H1 → P vs H1 o) : Ev (tCall (SpN P) [] E tas) σ H (optV o) := fun H1 e Q q =>
  h H1 e _ fun H2 e2 => by
    rw [List.append_nil]
    exact ⟨o, hs H2 (e.trans e2), fun H3 e3 => q H3 (e2.trans e3)⟩
/-- the first number below n at which it is so -/
def firstOf (n : Nat) (f : Nat → Bool) : Option Nat := (List.range n).find? f
theorem first_none {n : Nat} {f : Nat → Bool} (h : ∀ i, i < n → f i = false) : firstOf n f = none := by
  unfold firstOf
  rw [List.find?_eq_none]
  intro x hx
  rw [h x (List.mem_range.mp hx)]
  decide
theorem first_some {n i : Nat} {f : Nat → Bool} (hi : i < n) (hf : f i = true) (h : ∀ j, j < i → f j = false) : firstOf n f = some i := by
  unfold firstOf
  rw [List.find?_range_eq_some]
  exact ⟨hf, List.mem_range.mpr hi, fun j hj => by rw [h j hj]; rfl⟩
/-- for i, x in enumerate(a tuple) -/
theorem s_forE {D : Ends} {ta : TA} {tu : TS} {g : TG} {a : Addr} {xs : List V} (h : EvA ta σ H [.ref a]) (hx : SqT K H a xs) (Pv : Nat → L2.St → Hp → Prop) (h0 : ∀ H1, Ex H H1 → Pv 0 σ H1) (hl : ∀ i σ' H', i ≤ xs.length → Pv i σ' H' → SqT K H' a xs)
    (hs : ∀ i x T σ' H', xs[i]? = some x → Pv i σ' H' → H' T = none → g (.ref T) σ' (upd H' T (.tup [.int (i : Nat), x])) fun σ2 H2 => tu { D with nx := Pv (i + 1), ct := Pv (i + 1), bk := D.nx } σ2 H2)
    (hd : ∀ σ' H', Pv xs.length σ' H' → D.nx σ' H') : tFor (iEnumT K ta) g tu D σ H :=
  h H (Ex.refl H) _ fun H1 e => ⟨a, xs, rfl, ex_t e hx, by
    refine ⟨fun i m σ' H' => m = xs.length - i ∧ i ≤ xs.length ∧ Pv i σ' H', ⟨xs.length, by simp, Nat.zero_le _, h0 H1 e⟩, ?_⟩
    rintro i m σ' H' ⟨rfl, hi, p⟩
    have q := hl i σ' H' hi p
    by_cases hlt : i < xs.length
    · refine .inr ⟨⟨xs, xs[i], q, List.getElem?_eq_getElem hlt⟩, Pv (i + 1), fun σ2 H2 p' => ⟨xs.length - (i + 1), by omega, rfl, hlt, p'⟩, fun x H2 y => ?_⟩
      obtain ⟨T, z, rfl, hT, rfl, hz⟩ := y
      exact hs i z T σ' H' (hz xs q) p hT
    · have e1 : i = xs.length := by omega
      subst e1
      exact .inl ⟨⟨xs, q, Nat.le_refl _⟩, hd σ' H' p⟩⟩
end
end L2.XK

set_option Elab.async false
set_option maxRecDepth 100000
set_option maxHeartbeats 4000000
set_option linter.all false
/-! The checks of words, stands and keys. -/
namespace L2.KC
open PySem PySem.Spec PyProof.Rows XK Evl
def letterC (c : Nat) : Bool := (!decide ([c] < [97])) && (!decide ([122] < [c]))
theorem letterC_eq (c : Nat) : letterC c = (decide (97 ≤ c) && decide (c ≤ 122)) := by
  unfold letterC
  congr 1
  · by_cases h : 97 ≤ c
    · have h' : ¬ [c] < [97] := by
        rw [List.cons_lt_cons_iff]
        simp
        omega
      simp [h, h']
    · have h' : [c] < [97] := by
        rw [List.cons_lt_cons_iff]
        simp
        omega
      simp [h, h']
  · by_cases h : c ≤ 122
    · have h' : ¬ [122] < [c] := by
        rw [List.cons_lt_cons_iff]
        simp
        omega
      simp [h, h']
    · have h' : [122] < [c] := by
        rw [List.cons_lt_cons_iff]
        simp
        omega
      simp [h, h']
def lenB (s : Str) : Bool := decide (1 ≤ (s.length : Int)) && decide ((s.length : Int) ≤ 8)
def wordS (s : Str) : Bool := lenB s && (s.cps.toList.all letterC && !inS s wPartingWords)
def wordD : PyData → Bool
  | .str s => wordS s
  | _ => false
def lenD : PyData → Bool
  | .str s => lenB s
  | _ => false
def heardD : PyData → Bool
  | .str s => inS s wHeardWords
  | _ => false
def standD : PyData → Bool
  | .tuple [x, y] => wordD x && (wordD y && !heardD y)
  | _ => false
theorem wordD_str {d : PyData} (h : wordD d = true) : ∃ s, d = .str s ∧ wordS s = true := by
  cases d <;> first | exact ⟨_, rfl, h⟩ | (simp [wordD] at h)
theorem standD_is {d : PyData} (h : standD d = true) : ∃ s u, d = .tuple [.str s, .str u] := by
  unfold standD at h
  split at h
  · rename_i x y
    simp only [Bool.and_eq_true] at h
    obtain ⟨s, rfl, _⟩ := wordD_str h.1
    obtain ⟨u, rfl, _⟩ := wordD_str h.2.1
    exact ⟨s, u, rfl⟩
  · cases h
def tupLen : PyData → Nat
  | .tuple ds => ds.length
  | _ => 0
def mkP (p : Str × Str) : PyData := .tuple [.str p.1, .str p.2]
def wordOf : PyData → Str
  | .tuple (.str s :: _) => s
  | _ => default
def strOf : PyData → Str
  | .str s => s
  | _ => default
def badKey (ds : List PyData) (i : Nat) : Bool := !wordD (ds.getD i .none) || inS (strOf (ds.getD i .none)) ((ds.take i).map strOf)
def wrongKey (ds : List PyData) : Option Nat := firstOf ds.length (badKey ds)
def badStand (ds : List PyData) (i : Nat) : Bool := !standD (ds.getD i .none) || inS (wordOf (ds.getD i .none)) ((ds.take i).map wordOf)
def wrongStand (ds : List PyData) : Option Nat := firstOf ds.length (badStand ds)
def pWord (K : PySem.W.Frag) : List V → Hp → Bool → Prop := fun vs H b => ∃ x d, vs = [x] ∧ Da K H x d ∧ b = wordD d
def pStand (K : PySem.W.Frag) : List V → Hp → Bool → Prop := fun vs H b => ∃ x d, vs = [x] ∧ Da K H x d ∧ b = standD d
def pWords (K : PySem.W.Frag) : List V → Hp → List V → Prop := fun vs H xs => ∃ r ys ds, vs = [.ref r] ∧ SqT K H r ys ∧ DaAll K H ys ds ∧ ds.length ≤ 40000 ∧ (∀ d ∈ ds, standD d = true) ∧ xs = ds.map fun d => V.str (wordOf d)
def pWrongKey (K : PySem.W.Frag) : List V → Hp → Option Nat → Prop := fun vs H o => ∃ r ys ds, vs = [.ref r] ∧ SqT K H r ys ∧ DaAll K H ys ds ∧ ds.length ≤ 40000 ∧ o = wrongKey ds
def pWrongStand (K : PySem.W.Frag) : List V → Hp → Option Nat → Prop := fun vs H o => ∃ r ys ds, vs = [.ref r] ∧ SqT K H r ys ∧ DaAll K H ys ds ∧ ds.length ≤ 40000 ∧ o = wrongStand ds
section
variable {P : Program} {w : World} {K : PySem.W.Frag} {mg : Str → Option Value} {base : Heap} {a : AdrC}
theorem ok_word (T : TxtC K mg a) : FnOk P w K mg base CX0 1 a.IsWord a.fdIsWord ["thing"] (SpB (pWord K)) := by
  refine T.fIsWord.ok scIsWord (fun vs H Q E h => ?_) (fun cdv A outer s H vs Q E hr h => ?_)
  · obtain ⟨b, ⟨x, d, rfl, _⟩, _⟩ := h
    rfl
  · obtain ⟨b, ⟨x, d, rfl, hd, rfl⟩, k⟩ := h
    refine ⟨_, (pss_cons (ps_if (PW.pt (pw_or (pt_not (pt_val (pe_callB (id := "isinstance") (r := rIsi K) call_isi (by rfl) T.bisinstance (by decide +kernel) (pa_cons (pv 0) (pa_cons (pe_bltn (v := .ty "str") (by rfl) T.bstr (by decide +kernel) rfl) pa_nil))))) (pw_or1 (pt_not (pt_chain op_le op_le pe_int (pe_callB call_len (by rfl) T.blen (by decide +kernel) (pa_cons (pv 0) pa_nil)) (pe_glob (v := .int 8) rfl T.mgLongestWord ⟨_, rfl⟩)))))) (pss_one (ps_ret (by exact pe_bl))) pss_nil)
      (pss_one (ps_ret (by exact (pe_and (pe_callB (cr_all rfl) (by rfl) T.ball (by decide +kernel) (pa_cons (pe_lc (own := [("sign", 1)]) (g := gName 1) (tt := tYes) rfl scIsWord.nd (pi_str (pv 0)) (blkOk_by (own := [("sign", 1)]) (N := NIsWord) (sc := defScope sIsWord) (by decide +kernel)) (fun _ _ _ _ _ => pg_name (i := 1) scIsWord.nd rfl (Or.inl rfl)) (fun _ _ _ _ _ => by exact pts_nil) (fun _ _ _ _ _ => by exact (pe_chain op_le_str op_le_str pe_str (pv 1) pe_str))) pa_nil)) (pe_one (pe_cmpR (r := rIn K true) op_notIn_seq (pv 0) (pe_glob (v := .ref a.rPartingWords) rfl T.mgPartingWords rfl) (by rfl)))))))), ?_⟩
    have v0 : ∀ H', Ev (tVar 0) (start NIsWord [x]) H' x := fun H' => ev_var rfl
    refine s_when (b := !isD "str" d || !lenD d) (et_or (et_not (et_test (ev_isi (by decide) (v0 _) hd))) fun h1 => ?_) (fun hb H1 e1 => ?_) fun hb H1 e1 => ?_
    · have h1' : isD "str" d = true := by simpa using h1
      obtain ⟨z, rfl⟩ := isD_str h1'
      cases hd with
      | str _ hz => exact et_not (et_test (ev_chain ev_c (ev_lenS (v0 _) hz) rv_I0 ev_c rv_I0))
    · refine s_ret (v := .bl (wordD d)) (ev_is ev_c ?_) fun H2 e2 => k H2 (e1.trans e2)
      cases d <;> first | rfl | skip
      rename_i z
      have q : lenB z = false := by simpa [isD, isTy, tyN, lenD] using hb
      simp [wordD, wordS, q]
    · simp only [Bool.or_eq_false_iff, Bool.not_eq_false'] at hb
      obtain ⟨z, rfl⟩ := isD_str hb.1
      cases hd with
      | str _ hz =>
        have q : lenB z = true := hb.2
        have hl : z.length ≤ 40000 := by
          unfold lenB at q
          simp at q
          omega
        dsimp only
        refine s_ret (v := .bl (wordD (.str z))) ?_ fun H2 e2 => k H2 (e1.trans e2)
        show Ev _ _ _ (.bl (wordS z))
        unfold wordS
        rw [q, Bool.true_and]
        refine ev_andV (ev_allS letterC (ev_var (by rfl)) hl (fun _ => rfl) fun c H3 e3 => ?_) fun _ => ?_
        · exact ev_chain ev_c (ev_var (by rfl)) rv_leS ev_c rv_leS
        · exact ev_inT (neg := true) (ev_var (by rfl)) ev_c (T.wPartingWords H1) (flatStr _) (flatStrs _)
theorem ok_stand (T : TxtC K mg a) : FnOk P w K mg base CX0 2 a.IsStand a.fdIsStand ["thing"] (SpB (pStand K)) := by
  have GIsWord : FnOk P w K mg base CX0 1 a.IsWord a.fdIsWord ["thing"] (SpB (pWord K)) := ok_word T
  refine T.fIsStand.ok scIsStand (fun vs H Q E h => ?_) (fun cdv A outer s H vs Q E hr h => ?_)
  · obtain ⟨b, ⟨x, d, rfl, _⟩, _⟩ := h
    rfl
  · obtain ⟨b, ⟨x, d, rfl, hd, rfl⟩, k⟩ := h
    refine ⟨_, (pss_cons (ps_if (PW.pt (pw_or (pt_not (pt_val (pe_callB (id := "isinstance") (r := rIsi K) call_isi (by rfl) T.bisinstance (by decide +kernel) (pa_cons (pv 0) (pa_cons (pe_bltn (v := .ty "tuple") (by rfl) T.btuple (by decide +kernel) rfl) pa_nil))))) (pw_or1 (pt_cmpR op_ne (pe_callB call_len (by rfl) T.blen (by decide +kernel) (pa_cons (pv 0) pa_nil)) pe_int (nomark _))))) (pss_one (ps_ret (by exact pe_bl))) pss_nil)
      (pss_one (ps_ret (by exact (pe_and (pe_call GIsWord (hr.mono (by decide)) (by rfl) T.gIsWord T.kIsWord T.bIsWord .nil pass0 (pa_cons (pe_ix (r := rIxT K) ix_tup (pv 0) pe_int (fun _ _ => rfl)) pa_nil)) (pe_and (pe_call GIsWord (hr.mono (by decide)) (by rfl) T.gIsWord T.kIsWord T.bIsWord .nil pass0 (pa_cons (pe_ix (r := rIxT K) ix_tup (pv 0) pe_int (fun _ _ => rfl)) pa_nil)) (pe_one (pe_cmpR (r := rIn K true) op_notIn_seq (pe_ix (r := rIxT K) ix_tup (pv 0) pe_int (fun _ _ => rfl)) (pe_glob (v := .ref a.rHeardWords) rfl T.mgHeardWords rfl) (by rfl))))))))), ?_⟩
    have v0 : ∀ H', Ev (tVar 0) (start NIsStand [x]) H' x := fun H' => ev_var rfl
    refine s_when (b := !isD "tuple" d || !decide (V.int ((tupLen d : Nat) : Int) = V.int 2)) (et_or (et_not (et_test (ev_isi (by decide) (v0 _) hd))) fun h1 => ?_) (fun hb H1 e1 => ?_) fun hb H1 e1 => ?_
    · have h1' : isD "tuple" d = true := by simpa using h1
      obtain ⟨ds, rfl⟩ := isD_tup h1'
      cases hd with
      | tup hq hx =>
        refine et_test (ev_op (ev_lenT (v0 _) hq) ev_c ?_)
        rw [hx.len]
        exact rv_ne rfl
    · refine s_ret (v := .bl (standD d)) (ev_is ev_c ?_) fun H2 e2 => k H2 (e1.trans e2)
      cases d <;> first | rfl | skip
      rename_i ds
      clear hd k
      match ds, hb with
      | [], _ => rfl
      | [_], _ => rfl
      | [_, _], hb => simp [isD, isTy, tyN, tupLen] at hb
      | _ :: _ :: _ :: _, _ => rfl
    · simp only [Bool.or_eq_false_iff, Bool.not_eq_false'] at hb
      obtain ⟨ds, rfl⟩ := isD_tup hb.1
      have hl : ds.length = 2 := by
        have := of_decide_eq_true hb.2
        injection this with this
        have e : tupLen (.tuple ds) = ds.length := rfl
        omega
      obtain ⟨dx, dy, rfl⟩ : ∃ dx dy, ds = [dx, dy] := by
        match ds, hl with
        | [dx, dy], _ => exact ⟨dx, dy, rfl⟩
      cases hd with
      | tup hq hx =>
        cases hx with
        | @cons vx _ _ _ p1 t =>
        cases t with
        | @cons vy _ _ _ p2 t =>
        cases t
        dsimp only
        refine s_ret (v := .bl (standD (.tuple [dx, dy]))) ?_ fun H2 e2 => k H2 (e1.trans e2)
        refine ev_andV (ev_callB (ea_cons (ev_op (ev_var (by rfl)) ev_c (rv_ixT (ex_t e1 hq) (by rfl))) ea_nil) fun H3 e3 => ⟨vx, dx, rfl, p1.ex (e1.trans e3), rfl⟩) fun _ => ?_
        refine ev_andV (ev_callB (ea_cons (ev_op (ev_var (by rfl)) ev_c (rv_ixT (ex_t e1 hq) (by rfl))) ea_nil) fun H3 e3 => ⟨vy, dy, rfl, p2.ex (e1.trans e3), rfl⟩) fun hw => ?_
        obtain ⟨u, rfl, _⟩ := wordD_str hw
        cases p2 with
        | str _ hz => exact ev_inT (neg := true) (ev_op (ev_var (by rfl)) ev_c (rv_ixT (ex_t e1 hq) (by rfl))) ev_c (T.wHeardWords H1) (flatStr _) (flatStrs _)
theorem ok_words (T : TxtC K mg a) : FnOk P w K mg base CX0 1 a.StandWords a.fdStandWords ["stands"] (SpU (pWords K)) := by
  refine T.fStandWords.ok scStandWords (fun vs H Q E h => ?_) (fun cdv A outer s H vs Q E hr h => ?_)
  · obtain ⟨b, ⟨r, ys, ds, rfl, _⟩, _⟩ := h
    rfl
  · obtain ⟨b, ⟨r, ys, ds, rfl, hq, hx, hl, hs, rfl⟩, k⟩ := h
    refine ⟨_, (pss_one (ps_ret (by exact (pe_callTy call_tuple_of (by rfl) T.btuple (by decide +kernel) (pa_cons (pe_lc (own := [("pair", 1)]) (g := gName 1) (tt := tYes) rfl scStandWords.nd (pi_tup (pv 0)) (blkOk_by (own := [("pair", 1)]) (N := NStandWords) (sc := defScope sStandWords) (by decide +kernel)) (fun _ _ _ _ _ => pg_name (i := 1) scStandWords.nd rfl (Or.inl rfl)) (fun _ _ _ _ _ => by exact pts_nil) (fun _ _ _ _ _ => by exact (pe_ix (r := rIxT K) ix_tup (pv 1) pe_int (fun _ _ => rfl)))) pa_nil))))), ?_⟩
    refine s_retU (xs := ds.map fun d => V.str (wordOf d)) ?_ fun p H1 hp e1 h1 => k p H1 hp e1 h1
    refine eu_tupL ?_
    have e : (ds.map fun d => V.str (wordOf d)) = (List.range ys.length).map fun i => V.str (wordOf (ds.getD i .none)) := by
      rw [hx.len]
      exact (range_map ds .none fun d => V.str (wordOf d)).symm
    rw [e]
    refine el_lcT _ (ev_var (by rfl)) hq (by rw [hx.len]; exact hl) (fun _ => rfl) fun i x H1 e1 hi => ?_
    obtain ⟨d, hd, p⟩ := hx.get hi
    obtain ⟨s, u, rfl⟩ := standD_is (hs d (List.mem_of_getElem? hd))
    have e2 : ds.getD i .none = .tuple [.str s, .str u] := by
      rw [List.getD, hd]
      rfl
    rw [e2]
    cases p with
    | tup hq2 hx2 =>
      cases hx2 with
      | cons a1 b1 =>
        cases a1
        cases b1 with
        | cons a2 b2 =>
          cases b2
          exact ev_op (ev_var (by rfl)) ev_c (rv_ixT (ex_t e1 hq2) (by rfl))
end
end L2.KC

set_option Elab.async false
set_option maxRecDepth 100000
set_option maxHeartbeats 4000000
set_option linter.all false
/-! The first wrong key, stand, row; the parts of a row. -/
namespace L2.XK
open PySem PySem.Spec PyProof.Rows XC Evl
section
variable {K : PySem.W.Frag} {σ : L2.St} {H : Hp} {ta tb tc te : TE}
theorem DaAll.take {K : PySem.W.Frag} {H : Hp} : ∀ {vs : List V} {ds : List PyData} (n : Nat), DaAll K H vs ds → DaAll K H (vs.take n) (ds.take n)
  | _, _, 0, _ => .nil
  | _, _, n + 1, .nil => .nil
  | _, _, n + 1, .cons p q => .cons p (DaAll.take n q)
theorem cut_take (xs : List V) (i : Nat) (hi : i ≤ xs.length) : cutV xs none (some (i : Int)) = xs.take i := by
  unfold cutV
  have e0 : HT.sIx xs.length 0 none = 0 := rfl
  have e1 : HT.sIx xs.length xs.length (some (i : Int)) = i := by
    unfold HT.sIx
    simp
    split <;> omega
  rw [e0, e1, List.drop_zero, Nat.sub_zero]
/-- t[:i], not the whole -/
theorem eu_take {tl : TO} {p : Addr} {xs : List V} {i : Nat} (h : Ev te σ H (.ref p)) (h1 : EvO tl σ H none) (h2 : Ev tb σ H (.int (i : Int))) (hx : SqT K H p xs) (hi : i < xs.length) :
    EvU (tSl (rSlT K) te tl (tPart tb)) σ H (xs.take i) := fun H1 e Q q =>
  h H1 e _ fun H2 e2 => h1 H2 (e.trans e2) _ fun H3 e3 => h2 H3 ((e.trans e2).trans e3) _ fun H4 e4 => ⟨(i : Int), rfl, p, xs, rfl, ex_t (((e.trans e2).trans e3).trans e4) hx, by
    have e1 : HT.sIx xs.length xs.length (some (i : Int)) = i := by
      unfold HT.sIx
      simp
      split <;> omega
    rw [e1]
    omega, fun r hr => by
    rw [cut_take xs i (Nat.le_of_lt hi)]
    exact q r _ (fresh_back ((e2.trans e3).trans e4) hr) (((e2.trans e3).trans e4).trans (Ex.new hr)) upd_same⟩
end
end L2.XK
namespace L2.KC
open PySem PySem.Spec PyProof.Rows XK Evl
section
variable {P : Program} {w : World} {K : PySem.W.Frag} {mg : Str → Option Value} {base : Heap} {a : AdrC}
theorem take_strs {H : Hp} : ∀ {vs : List V} {ds : List PyData}, DaAll K H vs ds → (∀ d ∈ ds, wordD d = true) → vs = (ds.map strOf).map V.str
  | _, _, .nil, _ => rfl
  | _, _, .cons p q, h => by
    obtain ⟨s, rfl, _⟩ := wordD_str (h _ List.mem_cons_self)
    cases p
    rw [List.map_cons, List.map_cons, ← take_strs q fun d hd => h d (List.mem_cons_of_mem _ hd)]
    rfl
theorem take_ok {ds : List PyData} {f : PyData → Bool} {bad : Nat → Bool} {i : Nat} (hb : ∀ j, bad j = false → f (ds.getD j .none) = true) (h : ∀ j, j < i → bad j = false) : ∀ d ∈ ds.take i, f d = true := by
  intro d hd
  obtain ⟨j, hj, e⟩ := List.mem_iff_getElem.mp hd
  have hj' : j < i ∧ j < ds.length := by
    rw [List.length_take] at hj
    omega
  have := hb j (h j hj'.1)
  rw [List.getElem_take] at e
  rw [List.getD, List.getElem?_eq_getElem hj'.2] at this
  rw [← e]
  exact this
theorem ok_wrongKey (T : TxtC K mg a) : FnOk P w K mg base CX0 2 a.WrongKey a.fdWrongKey ["keys"] (SpN (pWrongKey K)) := by
  have GIsWord : FnOk P w K mg base CX0 1 a.IsWord a.fdIsWord ["thing"] (SpB (pWord K)) := ok_word T
  refine T.fWrongKey.ok scWrongKey (fun vs H Q E h => ?_) (fun cdv A outer s H vs Q E hr h => ?_)
  · obtain ⟨b, ⟨r, ys, ds, rfl, _⟩, _⟩ := h
    rfl
  · obtain ⟨b, ⟨r, ys, ds, rfl, hq, hx, hl, rfl⟩, k⟩ := h
    refine ⟨_, (pss_cons (ps_for PassesOwn.never rfl (XK.pi_enumT (by rfl) T.benumerate (pa_cons (pv 0) pa_nil)) (pg_tup (by rfl) (pgs_cons (pg_name (i := 1) scWrongKey.nd rfl (by first | exact Or.inl rfl | exact Or.inr rfl)) (pgs_cons (pg_name (i := 2) scWrongKey.nd rfl (by first | exact Or.inl rfl | exact Or.inr rfl)) pgs_nil))) (pss_one (ps_if (PW.pt (pw_or (pt_not (pt_val (pe_call GIsWord (hr.mono (by decide)) (by rfl) T.gIsWord T.kIsWord T.bIsWord .nil pass0 (pa_cons (pv 2) pa_nil)))) (pw_or1 (pt_cmpR (r := rIn K false) op_in_seq (pv 2) (pe_slice sl_tup (pv 0) po_none (po_some (pv 1))) (by rfl))))) (pss_one (ps_ret (by exact (pv 1)))) pss_nil)))
      (pss_one (ps_ret (by exact pe_non)))), ?_⟩
    refine s_forE (xs := ys) (ea_cons (ev_var (by rfl)) ea_nil) hq (fun i σ H' => ∃ u v, σ = [some (.ref r), u, v] ∧ Ex H H' ∧ ∀ j, j < i → badKey ds j = false) ?_ ?_ ?_ ?_
    · exact fun H1 e1 => ⟨_, _, rfl, e1, fun j hj => absurd hj (Nat.not_lt_zero _)⟩
    · rintro i σ' H' hi ⟨u, v, rfl, e1, _⟩
      exact ex_t e1 hq
    · rintro i x Tt σ' H' hi ⟨u, v, rfl, e1, hb⟩ hT
      refine ⟨Tt, [.int (i : Nat), x], rfl, st_of upd_same, rfl, _, _, rfl, ?_⟩
      refine ⟨_, _, rfl, ?_⟩
      refine ⟨rfl, ?_⟩
      obtain ⟨d, hd, p⟩ := hx.get hi
      have e2 : Ex H (upd H' Tt (.tup [.int (i : Nat), x])) := e1.trans (Ex.new hT)
      have eg : ds.getD i .none = d := by
        rw [List.getD, hd]
        rfl
      have il : i < ys.length := (List.getElem?_eq_some_iff.mp hi).1
      have tk : ∀ d ∈ ds.take i, wordD d = true := take_ok (bad := badKey ds) (fun j hj => by
        unfold badKey at hj
        simp only [Bool.or_eq_false_iff, Bool.not_eq_false'] at hj
        exact hj.1) hb
      refine s_when (b := badKey ds i) (et_is (et_or (b := inS (strOf d) ((ds.take i).map strOf)) (et_not (et_test (ev_callB (b := wordD d) (ea_cons (ev_var (by rfl)) ea_nil) fun H3 e3 => ⟨x, d, rfl, p.ex (e2.trans e3), rfl⟩))) fun hw => ?_) ?_) (fun hc H3 e3 => ?_) fun hc H3 e3 => ?_
      · have hw' : wordD d = true := by simpa using hw
        obtain ⟨z, rfl, _⟩ := wordD_str hw'
        cases p with
        | str _ hz =>
          refine et_test (ev_inU (xs := ((ds.take i).map strOf).map V.str) (ev_var (by rfl)) ?_ (flatStr _) (flatStrs _))
          rw [← take_strs (hx.take i) tk]
          exact eu_take (ev_var (by rfl)) eo_none (ev_var (by rfl)) (ex_t e2 hq) il
      · unfold badKey
        rw [eg]
      · refine s_ret (v := .int (i : Int)) (ev_var (by rfl)) fun H4 e4 => ?_
        have := k H4 ((e2.trans e3).trans e4)
        rw [show wrongKey ds = some i from first_some (by rw [← hx.len]; exact il) hc hb] at this
        exact this
      · refine ⟨_, _, rfl, e2.trans e3, fun j hj => ?_⟩
        rcases Nat.lt_succ_iff_lt_or_eq.mp hj with h | rfl
        · exact hb j h
        · exact hc
    · rintro σ' H' ⟨u, v, rfl, e1, hb⟩
      dsimp only
      refine s_ret (v := .non) ev_c fun H4 e4 => ?_
      have := k H4 (e1.trans e4)
      rw [show wrongKey ds = none from first_none (by rw [← hx.len]; exact hb)] at this
      exact this
theorem ok_wrongStand (T : TxtC K mg a) : FnOk P w K mg base CX0 3 a.WrongStand a.fdWrongStand ["stands"] (SpN (pWrongStand K)) := by
  have GIsStand : FnOk P w K mg base CX0 2 a.IsStand a.fdIsStand ["thing"] (SpB (pStand K)) := ok_stand T
  have GStandWords : FnOk P w K mg base CX0 1 a.StandWords a.fdStandWords ["stands"] (SpU (pWords K)) := ok_words T
  refine T.fWrongStand.ok scWrongStand (fun vs H Q E h => ?_) (fun cdv A outer s H vs Q E hr h => ?_)
  · obtain ⟨b, ⟨r, ys, ds, rfl, _⟩, _⟩ := h
    rfl
  · obtain ⟨b, ⟨r, ys, ds, rfl, hq, hx, hl, rfl⟩, k⟩ := h
    refine ⟨_, (pss_cons (ps_for PassesOwn.never rfl (XK.pi_enumT (by rfl) T.benumerate (pa_cons (pv 0) pa_nil)) (pg_tup (by rfl) (pgs_cons (pg_name (i := 1) scWrongStand.nd rfl (by first | exact Or.inl rfl | exact Or.inr rfl)) (pgs_cons (pg_name (i := 2) scWrongStand.nd rfl (by first | exact Or.inl rfl | exact Or.inr rfl)) pgs_nil))) (pss_one (ps_if (PW.pt (pw_or (pt_not (pt_val (pe_call GIsStand (hr.mono (by decide)) (by rfl) T.gIsStand T.kIsStand T.bIsStand .nil pass0 (pa_cons (pv 2) pa_nil)))) (pw_or1 (pt_cmpR (r := rIn K false) op_in_seq (pe_ix (r := rIxT K) ix_tup (pv 2) pe_int (fun _ _ => rfl)) (pe_call GStandWords (hr.mono (by decide)) (by rfl) T.gStandWords T.kStandWords T.bStandWords .nil pass0 (pa_cons (pe_slice sl_tup (pv 0) po_none (po_some (pv 1))) pa_nil)) (by rfl))))) (pss_one (ps_ret (by exact (pv 1)))) pss_nil)))
      (pss_one (ps_ret (by exact pe_non)))), ?_⟩
    refine s_forE (xs := ys) (ea_cons (ev_var (by rfl)) ea_nil) hq (fun i σ H' => ∃ u v, σ = [some (.ref r), u, v] ∧ Ex H H' ∧ ∀ j, j < i → badStand ds j = false) ?_ ?_ ?_ ?_
    · exact fun H1 e1 => ⟨_, _, rfl, e1, fun j hj => absurd hj (Nat.not_lt_zero _)⟩
    · rintro i σ' H' hi ⟨u, v, rfl, e1, _⟩
      exact ex_t e1 hq
    · rintro i x Tt σ' H' hi ⟨u, v, rfl, e1, hb⟩ hT
      refine ⟨Tt, [.int (i : Nat), x], rfl, st_of upd_same, rfl, _, _, rfl, ?_⟩
      refine ⟨_, _, rfl, ?_⟩
      refine ⟨rfl, ?_⟩
      obtain ⟨d, hd, p⟩ := hx.get hi
      have e2 : Ex H (upd H' Tt (.tup [.int (i : Nat), x])) := e1.trans (Ex.new hT)
      have eg : ds.getD i .none = d := by
        rw [List.getD, hd]
        rfl
      have il : i < ys.length := (List.getElem?_eq_some_iff.mp hi).1
      have tk : ∀ d ∈ ds.take i, standD d = true := take_ok (bad := badStand ds) (fun j hj => by
        unfold badStand at hj
        simp only [Bool.or_eq_false_iff, Bool.not_eq_false'] at hj
        exact hj.1) hb
      refine s_when (b := badStand ds i) (et_is (et_or (b := inS (wordOf d) ((ds.take i).map wordOf)) (et_not (et_test (ev_callB (b := standD d) (ea_cons (ev_var (by rfl)) ea_nil) fun H3 e3 => ⟨x, d, rfl, p.ex (e2.trans e3), rfl⟩))) fun hw => ?_) ?_) (fun hc H3 e3 => ?_) fun hc H3 e3 => ?_
      · have hw' : standD d = true := by simpa using hw
        obtain ⟨z, z2, rfl⟩ := standD_is hw'
        cases p with
        | tup hq2 hx2 =>
          cases hx2 with
          | cons a1 b1 =>
            cases a1
            cases b1 with
            | cons a2 b2 =>
              cases b2
              refine et_test (ev_inU (xs := ((ds.take i).map wordOf).map V.str) (ev_op (ev_var (by rfl)) ev_c (rv_ixT (ex_t e2 hq2) (by rfl))) ?_ (flatStr _) (flatStrs _))
              rw [List.map_map]
              intro H5 e5 Q5 q5
              refine eu_take (ev_var (by rfl)) eo_none (ev_var (by rfl)) (ex_t e2 hq) il H5 e5 _ fun r2 H6 hr2 e6 h6 => ?_
              exact ⟨(ds.take i).map fun d => V.str (wordOf d), ⟨r2, ys.take i, ds.take i, rfl, st_of h6, (hx.take i).ex ((e2.trans e5).trans e6), by rw [List.length_take]; omega, tk, rfl⟩,
                    fun p7 H7 hp7 e7 h7 => q5 p7 H7 (fresh_back e6 hp7) (e6.trans e7) h7⟩
      · unfold badStand
        rw [eg]
      · refine s_ret (v := .int (i : Int)) (ev_var (by rfl)) fun H4 e4 => ?_
        have := k H4 ((e2.trans e3).trans e4)
        rw [show wrongStand ds = some i from first_some (by rw [← hx.len]; exact il) hc hb] at this
        exact this
      · refine ⟨_, _, rfl, e2.trans e3, fun j hj => ?_⟩
        rcases Nat.lt_succ_iff_lt_or_eq.mp hj with h | rfl
        · exact hb j h
        · exact hc
    · rintro σ' H' ⟨u, v, rfl, e1, hb⟩
      dsimp only
      refine s_ret (v := .non) ev_c fun H4 e4 => ?_
      have := k H4 (e1.trans e4)
      rw [show wrongStand ds = none from first_none (by rw [← hx.len]; exact hb)] at this
      exact this
end
end L2.KC

set_option Elab.async false
set_option maxRecDepth 100000
set_option maxHeartbeats 4000000
set_option linter.all false
/-! The parts of a row, a row, the first wrong row. -/
namespace L2.XK
open PySem PySem.Spec PyProof.Rows XC Evl
section
variable {K : PySem.W.Frag} {σ : L2.St} {H : Hp} {ta tb tc te : TE} {t : TT}
theorem el_if {b : Bool} {xs : List V} (h : EvT t σ H b) (h1 : b = true → EvL ta σ H xs) (h2 : b = false → EvL tb σ H xs) : EvL (tIf t ta tb) σ H xs := fun H1 e Q q => h H1 e _ fun H2 e2 => by
  cases b with
  | true => exact h1 rfl H2 (e.trans e2) Q fun p H3 hp e3 h3 => q p H3 (fresh_back e2 hp) (e2.trans e3) h3
  | false => exact h2 rfl H2 (e.trans e2) Q fun p H3 hp e3 h3 => q p H3 (fresh_back e2 hp) (e2.trans e3) h3
theorem el_split {x y : Str} (ha : Ev ta σ H (.str x)) (hb : Ev tb σ H (.str y)) (s : Sep y) (hz : x.length ≤ 100000) :
    EvL (tBM K "str" (fun x xs H Q => ∃ a b, x = .str a ∧ xs = [.str b] ∧ (b.length == 0) = false ∧ a.length + 2 ≤ sizeLine ∧ rNewStrs (Txt.split a b) H Q) ta (tCons tb tNil)) σ H ((Txt.split x y).map V.str) := fun H1 e Q q =>
  ha H1 e _ fun H2 e2 => ⟨rfl, hb H2 (e.trans e2) _ fun H3 e3 => ⟨x, y, rfl, rfl, s.len, Nat.le_trans (Nat.add_le_add_right hz 2) (by decide), fun p hp => q p _ (fresh_back (e2.trans e3) hp) ((e2.trans e3).trans (Ex.new hp)) upd_same⟩⟩
theorem el_nil : EvL (tLst tNil) σ H [] := el_lst ea_nil (by decide)
theorem et_truthS {z : Str} (h : Ev te σ H (.str z)) (hz : z.length ≤ 100000) : EvT (fun σ H Q => te σ H fun x H' => ∃ k, TruV K x H' k ∧ Q k H') σ H ((z.length : Int) != 0) := fun H1 e Q q =>
  h H1 e _ fun H2 e2 => ⟨_, ⟨sz_of hz, rfl⟩, q H2 e2⟩
end
end L2.XK
namespace L2.KC
open PySem PySem.Spec PyProof.Rows XK Evl
theorem sep1 : Sep (": " : Str) := ⟨by decide +kernel, by decide +kernel⟩
theorem sep2 : Sep (" if " : Str) := ⟨by decide +kernel, by decide +kernel⟩
theorem sep3 : Sep (" and " : Str) := ⟨by decide +kernel, by decide +kernel⟩
theorem sep4 : Sep (", " : Str) := ⟨by decide +kernel, by decide +kernel⟩
def headS (s : Str) : Str := (Txt.partition s ": ").1
def tailS (s : Str) : Str := (Txt.partition s ": ").2.2
def occS (s : Str) : Str := (Txt.partition (headS s) " if ").1
def jointS (s : Str) : Str := (Txt.partition (headS s) " if ").2.1
def restS (s : Str) : Str := (Txt.partition (headS s) " if ").2.2
def condsS (s : Str) : List Str := if ((jointS s).length : Int) != 0 then Txt.split (restS s) " and " else []
def deedsS (s : Str) : List Str := Txt.split (tailS s) ", "
theorem head_len (s : Str) : (headS s).length ≤ s.length := (part_len sep1).1
theorem tail_len (s : Str) : (tailS s).length ≤ s.length := (part_len sep1).2.2
theorem occ_len (s : Str) : (occS s).length ≤ s.length := Nat.le_trans (part_len sep2).1 (head_len s)
theorem rest_len (s : Str) : (restS s).length ≤ s.length := Nat.le_trans (part_len sep2).2.2 (head_len s)
theorem joint_len (s : Str) : (jointS s).length ≤ 100000 := Nat.le_trans (part_len sep2).2.1 (by decide)
theorem cond_len {s c : Str} (h : c ∈ condsS s) : c.length ≤ s.length := by
  unfold condsS at h
  split at h
  · exact Nat.le_trans (split_len sep3 h) (rest_len s)
  · cases h
theorem deed_len {s c : Str} (h : c ∈ deedsS s) : c.length ≤ s.length := Nat.le_trans (split_len sep4 h) (tail_len s)
def rowS (s : Str) (words keys : List Str) : Bool :=
  !(decide (((condsS s).length : Int) > 4) || (decide (((deedsS s).length : Int) > 4) || !occOk (occS s) keys)) &&
    ((condsS s).all (fun c => condOk c (occS s) words) && (deedsS s).all fun c => deedOk c (occS s) words)
def rowD (d : PyData) (words keys : List Str) : Bool := match d with
  | .str s => rowS s words keys
  | _ => false
def badRow (ds : List PyData) (words keys : List Str) (i : Nat) : Bool := !rowD (ds.getD i .none) words keys
def wrongRow (ds : List PyData) (words keys : List Str) : Option Nat := firstOf ds.length (badRow ds words keys)
def spParts : Sp := fun vs H Q _ => ∃ s, vs = [.str s] ∧ s.length ≤ 100000 ∧ ∀ p c d H', Ex H H' → H' p = some (.tup [.str (occS s), .ref c, .ref d]) →
  H' c = some (.lst ((condsS s).map V.str)) → H' d = some (.lst ((deedsS s).map V.str)) → Q (.ref p) H'
def pRow (K : PySem.W.Frag) : List V → Hp → Bool → Prop := fun vs H b => ∃ x d r ys ss k ks, vs = [x, .ref r, .ref k] ∧ Da K H x d ∧ SqT K H r ys ∧ DaAll K H ys ss ∧ ss.length ≤ 40000 ∧
  (∀ d ∈ ss, standD d = true) ∧ SqT K H k (ks.map V.str) ∧ b = rowD d (ss.map wordOf) ks
def pWrongRow (K : PySem.W.Frag) : List V → Hp → Option Nat → Prop := fun vs H o => ∃ q rs ds r ys ss k ks, vs = [.ref q, .ref r, .ref k] ∧ SqT K H q rs ∧ DaAll K H rs ds ∧ SqT K H r ys ∧ DaAll K H ys ss ∧ ss.length ≤ 40000 ∧
  (∀ d ∈ ss, standD d = true) ∧ SqT K H k (ks.map V.str) ∧ o = wrongRow ds (ss.map wordOf) ks
section
variable {P : Program} {w : World} {K : PySem.W.Frag} {mg : Str → Option Value} {base : Heap} {a : AdrC}
theorem ok_parts (T : TxtC K mg a) : FnOk P w K mg base CX0 1 a.RowParts a.fdRowParts ["row"] spParts := by
  refine T.fRowParts.ok scRowParts (fun vs H Q E h => ?_) (fun cdv A outer s H vs Q E hr h => ?_)
  · obtain ⟨b, rfl, _⟩ := h
    rfl
  · obtain ⟨s, rfl, hz, k⟩ := h
    refine ⟨_, (pss_cons (ps_asg (pe_bm PySem.F.plainAttrs_str PySem.F.slot_str_partition PySem.F.type_str_partition mt_partition (pv 0) (pa_cons pe_str pa_nil)) (pg_tup (by rfl) (pgs_cons (pg_name (i := 2) scRowParts.nd rfl (by first | exact Or.inl rfl | exact Or.inr rfl)) (pgs_cons (pg_name (i := 3) scRowParts.nd rfl (by first | exact Or.inl rfl | exact Or.inr rfl)) (pgs_cons (pg_name (i := 4) scRowParts.nd rfl (by first | exact Or.inl rfl | exact Or.inr rfl)) pgs_nil)))))
      (pss_cons (ps_asg (pe_bm PySem.F.plainAttrs_str PySem.F.slot_str_partition PySem.F.type_str_partition mt_partition (pv 2) (pa_cons pe_str pa_nil)) (pg_tup (by rfl) (pgs_cons (pg_name (i := 5) scRowParts.nd rfl (by first | exact Or.inl rfl | exact Or.inr rfl)) (pgs_cons (pg_name (i := 6) scRowParts.nd rfl (by first | exact Or.inl rfl | exact Or.inr rfl)) (pgs_cons (pg_name (i := 7) scRowParts.nd rfl (by first | exact Or.inl rfl | exact Or.inr rfl)) pgs_nil)))))
      (pss_cons (ps_set (i := 1) scRowParts.nd rfl (by first | exact Or.inl rfl | exact Or.inr rfl) (by exact (pe_ifExp (pt_truth (pv 6) (by intro _; rfl)) (pe_bm PySem.F.plainAttrs_str PySem.F.slot_str_split PySem.F.type_str_split mt_split (pv 7) (pa_cons pe_str pa_nil)) (pe_lst pa_nil))))
      (pss_one (ps_ret (by exact (pe_tup (pa_cons (pv 5) (pa_cons (pv 1) (pa_cons (pe_bm PySem.F.plainAttrs_str PySem.F.slot_str_split PySem.F.type_str_split mt_split (pv 4) (pa_cons pe_str pa_nil)) pa_nil)))))))))), ?_⟩
    have h1 : (headS s).length ≤ 100000 := Nat.le_trans (head_len s) hz
    have h2 : (restS s).length ≤ 100000 := Nat.le_trans (rest_len s) hz
    have h3 : (tailS s).length ≤ 100000 := Nat.le_trans (tail_len s) hz
    refine ⟨_, rfl, rfl, s, ": ", rfl, rfl, sep1.len, sz_of hz, fun p1 hp1 => ?_⟩
    refine ⟨p1, _, rfl, st_of upd_same, rfl, _, _, rfl, _, _, rfl, _, _, rfl, rfl, ?_⟩
    refine ⟨_, rfl, rfl, headS s, " if ", rfl, rfl, sep2.len, sz_of h1, fun p2 hp2 => ?_⟩
    refine ⟨p2, _, rfl, st_of upd_same, rfl, _, _, rfl, _, _, rfl, _, _, rfl, rfl, ?_⟩
    have e0 : Ex H (upd (upd H p1 (.tup [.str (Txt.partition s ": ").1, .str (Txt.partition s ": ").2.1, .str (Txt.partition s ": ").2.2])) p2
      (.tup [.str (Txt.partition (headS s) " if ").1, .str (Txt.partition (headS s) " if ").2.1, .str (Txt.partition (headS s) " if ").2.2])) := (Ex.new hp1).trans (Ex.new hp2)
    dsimp only [tNext, tSeq]
    refine s_asgL (xs := (condsS s).map V.str) ?_ fun c H1 hc e1 h1c => ?_
    · refine el_if (et_truthS (ev_var (by rfl)) (joint_len s)) (fun hb => ?_) fun hb => ?_
      · have : condsS s = Txt.split (restS s) " and " := if_pos hb
        rw [this]
        exact el_split (ev_var (by rfl)) ev_c sep3 h2
      · have : condsS s = [] := if_neg (by
          have hb' : (((jointS s).length : Int) != 0) = false := hb
          rw [hb']
          decide)
        rw [this]
        exact el_nil
    · refine ⟨_, rfl, _, rfl, _, rfl, rfl, tailS s, ", ", rfl, rfl, sep4.len, Nat.le_trans (Nat.add_le_add_right h3 2) (by decide), fun d hd => ?_⟩
      refine ⟨by show 3 ≤ sizeLine; decide, fun p hp => ?_⟩
      refine k p c d _ ((e0.trans e1).trans ((Ex.new hd).trans (Ex.new hp))) upd_same ?_ ?_
      · exact Ex.new hp _ _ (Ex.new hd _ _ h1c)
      · exact Ex.new hp _ _ upd_same
theorem ok_row (T : TxtC K mg a) : FnOk P w K mg base CX0 4 a.IsRow a.fdIsRow ["thing", "stands", "keys"] (SpB (pRow K)) := by
  have GRowParts : FnOk P w K mg base CX0 1 a.RowParts a.fdRowParts ["row"] spParts := ok_parts T
  have GIsOccasion : FnOk P w K mg base CX0 2 a.IsOccasion a.fdIsOccasion ["text", "keys"] (SpB (pOcc K)) := ok_occ T
  have GIsCondition : FnOk P w K mg base CX0 3 a.IsCondition a.fdIsCondition ["text", "occasion", "words"] (SpB (pCond K)) := ok_cond T
  have GIsDeed : FnOk P w K mg base CX0 3 a.IsDeed a.fdIsDeed ["text", "occasion", "words"] (SpB (pDeed K)) := ok_deed T
  have GStandWords : FnOk P w K mg base CX0 1 a.StandWords a.fdStandWords ["stands"] (SpU (pWords K)) := ok_words T
  refine T.fIsRow.ok scIsRow (fun vs H Q E h => ?_) (fun cdv A outer s H vs Q E hr h => ?_)
  · obtain ⟨b, ⟨x, d, r, ys, ss, k, ks, rfl, _⟩, _⟩ := h
    rfl
  · obtain ⟨b, ⟨x, d, r, ys, ss, kk, ks, rfl, hd, hq, hx, hl, hs, hk, rfl⟩, k⟩ := h
    refine ⟨_, (pss_cons (ps_if (pt_not (pt_val (pe_callB (id := "isinstance") (r := rIsi K) call_isi (by rfl) T.bisinstance (by decide +kernel) (pa_cons (pv 0) (pa_cons (pe_bltn (v := .ty "str") (by rfl) T.bstr (by decide +kernel) rfl) pa_nil))))) (pss_one (ps_ret (by exact pe_bl))) pss_nil)
      (pss_cons (ps_asg (pe_call GRowParts (hr.mono (by decide)) (by rfl) T.gRowParts T.kRowParts T.bRowParts .nil pass0 (pa_cons (pv 0) pa_nil)) (pg_tup (by rfl) (pgs_cons (pg_name (i := 4) scIsRow.nd rfl (by first | exact Or.inl rfl | exact Or.inr rfl)) (pgs_cons (pg_name (i := 5) scIsRow.nd rfl (by first | exact Or.inl rfl | exact Or.inr rfl)) (pgs_cons (pg_name (i := 6) scIsRow.nd rfl (by first | exact Or.inl rfl | exact Or.inr rfl)) pgs_nil)))))
      (pss_cons (ps_if (PW.pt (pw_or (pt_cmpR op_gt (pe_callB call_len (by rfl) T.blen (by decide +kernel) (pa_cons (pv 5) pa_nil)) (pe_glob (v := .int 4) rfl T.mgMostConditions ⟨_, rfl⟩) (nomark _)) (pw_or (pt_cmpR op_gt (pe_callB call_len (by rfl) T.blen (by decide +kernel) (pa_cons (pv 6) pa_nil)) (pe_glob (v := .int 4) rfl T.mgMostDeeds ⟨_, rfl⟩) (nomark _)) (pw_or1 (pt_not (pt_val (pe_call GIsOccasion (hr.mono (by decide)) (by rfl) T.gIsOccasion T.kIsOccasion T.bIsOccasion .nil pass0 (pa_cons (pv 4) (pa_cons (pv 2) pa_nil))))))))) (pss_one (ps_ret (by exact pe_bl))) pss_nil)
      (pss_cons (ps_set (i := 3) scIsRow.nd rfl (by first | exact Or.inl rfl | exact Or.inr rfl) (by exact (pe_call GStandWords (hr.mono (by decide)) (by rfl) T.gStandWords T.kStandWords T.bStandWords .nil pass0 (pa_cons (pv 1) pa_nil))))
      (pss_one (ps_ret (by exact (pe_and (pe_callB (cr_all rfl) (by rfl) T.ball (by decide +kernel) (pa_cons (pe_lc (own := [("condition", 7)]) (g := gName 7) (tt := tYes) rfl scIsRow.nd (pi_list (pv 5)) (blkOk_by (own := [("condition", 7)]) (N := NIsRow) (sc := defScope sIsRow) (by decide +kernel)) (fun _ _ _ _ _ => pg_name (i := 7) scIsRow.nd rfl (Or.inl rfl)) (fun _ _ _ _ _ => by exact pts_nil) (fun _ _ _ _ _ => by exact (pe_call GIsCondition (hr.mono (by decide)) (by rfl) T.gIsCondition T.kIsCondition T.bIsCondition .nil pass0 (pa_cons (pv 7) (pa_cons (pv 4) (pa_cons (pv 3) pa_nil)))))) pa_nil)) (pe_one (pe_callB (cr_all rfl) (by rfl) T.ball (by decide +kernel) (pa_cons (pe_lc (own := [("deed", 8)]) (g := gName 8) (tt := tYes) rfl scIsRow.nd (pi_list (pv 6)) (blkOk_by (own := [("deed", 8)]) (N := NIsRow) (sc := defScope sIsRow) (by decide +kernel)) (fun _ _ _ _ _ => pg_name (i := 8) scIsRow.nd rfl (Or.inl rfl)) (fun _ _ _ _ _ => by exact pts_nil) (fun _ _ _ _ _ => by exact (pe_call GIsDeed (hr.mono (by decide)) (by rfl) T.gIsDeed T.kIsDeed T.bIsDeed .nil pass0 (pa_cons (pv 8) (pa_cons (pv 4) (pa_cons (pv 3) pa_nil)))))) pa_nil))))))))))), ?_⟩
    have v0 : ∀ H', Ev (tVar 0) (start NIsRow [x, .ref r, .ref kk]) H' x := fun H' => ev_var rfl
    refine s_when (b := !isD "str" d) (et_not (et_test (ev_isi (by decide) (v0 _) hd))) (fun hb H1 e1 => ?_) fun hb H1 e1 => ?_
    · refine s_ret (v := .bl (rowD d (ss.map wordOf) ks)) (ev_is ev_c ?_) fun H2 e2 => k H2 (e1.trans e2)
      cases d <;> first | rfl | (simp [isD, isTy, tyN] at hb)
    · have hb' : isD "str" d = true := by simpa using hb
      obtain ⟨z, rfl⟩ := isD_str hb'
      cases hd with
      | str _ hz =>
        refine ⟨_, rfl, z, rfl, hz, fun p c dd H2 e2 hp hc hdd => ?_⟩
        refine ⟨p, _, rfl, st_of hp, rfl, _, _, rfl, _, _, rfl, _, _, rfl, rfl, ?_⟩
        have e12 := e1.trans e2
        refine s_when (b := decide (((condsS z).length : Int) > 4) || (decide (((deedsS z).length : Int) > 4) || !occOk (occS z) ks)) (et_or (et_test (ev_op (ev_is (ev_lenL (ev_var (by rfl)) (sq_of hc)) (by rw [List.length_map])) ev_c rv_I0)) fun _ =>
            et_or (et_test (ev_op (ev_is (ev_lenL (ev_var (by rfl)) (sq_of hdd)) (by rw [List.length_map])) ev_c rv_I0)) fun _ => et_not (et_test (ev_callB (ea_cons (ev_var (by rfl)) (ea_cons (ev_var (by rfl)) ea_nil)) fun H3 e3 =>
              ⟨occS z, kk, ks, rfl, ex_t (e12.trans e3) hk, Nat.le_trans (occ_len z) hz, rfl⟩))) (fun hc2 H3 e3 => ?_) fun hc2 H3 e3 => ?_
        · refine s_ret (v := .bl (rowD (.str z) (ss.map wordOf) ks)) (ev_is ev_c ?_) fun H4 e4 => k H4 ((e12.trans e3).trans e4)
          show _ = V.bl (rowS z _ _)
          unfold rowS
          rw [hc2]
          rfl
        · dsimp only
          refine s_asgU (xs := (ss.map wordOf).map V.str) ?_ fun wp H4 hwp e4 hw => ?_
          · rw [List.map_map]
            exact eu_call (ea_cons (ev_var (by rfl)) ea_nil) fun H5 e5 => ⟨r, ys, ss, rfl, ex_t ((e12.trans e3).trans e5) hq, hx.ex ((e12.trans e3).trans e5), hl, hs, rfl⟩
          · dsimp only
            have n1 : (condsS z).length ≤ 4 ∧ (deedsS z).length ≤ 4 := by
              simp only [Bool.or_eq_false_iff, decide_eq_false_iff_not] at hc2
              omega
            refine s_ret (v := .bl (rowD (.str z) (ss.map wordOf) ks)) ?_ fun H5 e5 => k H5 (((e12.trans e3).trans e4).trans e5)
            show Ev _ _ _ (.bl (rowS z _ _))
            unfold rowS
            rw [hc2, Bool.not_false, Bool.true_and]
            refine ev_andV (ev_allL (fun c => condOk c (occS z) (ss.map wordOf)) (ev_var (by rfl)) (sq_of (e4 _ _ (e3 _ _ hc))) (by omega) (fun _ => rfl) fun c H6 hm e6 => ?_) fun _ => ?_
            · exact ev_callB (ea_cons (ev_var (by rfl)) (ea_cons (ev_var (by rfl)) (ea_cons (ev_var (by rfl)) ea_nil))) fun H7 e7 => ⟨c, occS z, wp, ss.map wordOf, rfl, st_of (e7 _ _ (e6 _ _ hw)), Nat.le_trans (cond_len hm) hz, rfl⟩
            · refine ev_allL (fun c => deedOk c (occS z) (ss.map wordOf)) (ev_var (by rfl)) (sq_of (e4 _ _ (e3 _ _ hdd))) (by omega) (fun _ => rfl) fun c H6 hm e6 => ?_
              exact ev_callB (ea_cons (ev_var (by rfl)) (ea_cons (ev_var (by rfl)) (ea_cons (ev_var (by rfl)) ea_nil))) fun H7 e7 => ⟨c, occS z, wp, ss.map wordOf, rfl, st_of (e7 _ _ (e6 _ _ hw)), Nat.le_trans (deed_len hm) hz, rfl⟩
theorem ok_wrongRow (T : TxtC K mg a) : FnOk P w K mg base CX0 5 a.WrongRow a.fdWrongRow ["rows", "stands", "keys"] (SpN (pWrongRow K)) := by
  have GIsRow : FnOk P w K mg base CX0 4 a.IsRow a.fdIsRow ["thing", "stands", "keys"] (SpB (pRow K)) := ok_row T
  refine T.fWrongRow.ok scWrongRow (fun vs H Q E h => ?_) (fun cdv A outer s H vs Q E hr h => ?_)
  · obtain ⟨b, ⟨q, rs, ds, r, ys, ss, k, ks, rfl, _⟩, _⟩ := h
    rfl
  · obtain ⟨b, ⟨q, rs, ds, r, ys, ss, kk, ks, rfl, hq0, hx0, hq, hx, hl, hs, hk, rfl⟩, k⟩ := h
    refine ⟨_, (pss_cons (ps_for PassesOwn.never rfl (XK.pi_enumT (by rfl) T.benumerate (pa_cons (pv 0) pa_nil)) (pg_tup (by rfl) (pgs_cons (pg_name (i := 3) scWrongRow.nd rfl (by first | exact Or.inl rfl | exact Or.inr rfl)) (pgs_cons (pg_name (i := 4) scWrongRow.nd rfl (by first | exact Or.inl rfl | exact Or.inr rfl)) pgs_nil))) (pss_one (ps_if (pt_not (pt_val (pe_call GIsRow (hr.mono (by decide)) (by rfl) T.gIsRow T.kIsRow T.bIsRow .nil pass0 (pa_cons (pv 4) (pa_cons (pv 1) (pa_cons (pv 2) pa_nil)))))) (pss_one (ps_ret (by exact (pv 3)))) pss_nil)))
      (pss_one (ps_ret (by exact pe_non)))), ?_⟩
    refine s_forE (xs := rs) (ea_cons (ev_var (by rfl)) ea_nil) hq0 (fun i σ H' => ∃ u v, σ = [some (.ref q), some (.ref r), some (.ref kk), u, v] ∧ Ex H H' ∧ ∀ j, j < i → badRow ds (ss.map wordOf) ks j = false) ?_ ?_ ?_ ?_
    · exact fun H1 e1 => ⟨_, _, rfl, e1, fun j hj => absurd hj (Nat.not_lt_zero _)⟩
    · rintro i σ' H' hi ⟨u, v, rfl, e1, _⟩
      exact ex_t e1 hq0
    · rintro i x Tt σ' H' hi ⟨u, v, rfl, e1, hb⟩ hT
      refine ⟨Tt, [.int (i : Nat), x], rfl, st_of upd_same, rfl, _, _, rfl, ?_⟩
      refine ⟨_, _, rfl, ?_⟩
      refine ⟨rfl, ?_⟩
      obtain ⟨d, hd, p⟩ := hx0.get hi
      have e2 : Ex H (upd H' Tt (.tup [.int (i : Nat), x])) := e1.trans (Ex.new hT)
      have eg : ds.getD i .none = d := by
        rw [List.getD, hd]
        rfl
      have il : i < rs.length := (List.getElem?_eq_some_iff.mp hi).1
      refine s_when (b := badRow ds (ss.map wordOf) ks i) (et_is (et_not (et_test (ev_callB (b := rowD d (ss.map wordOf) ks) (ea_cons (ev_var (by rfl)) (ea_cons (ev_var (by rfl)) (ea_cons (ev_var (by rfl)) ea_nil))) fun H3 e3 =>
          ⟨x, d, r, ys, ss, kk, ks, rfl, p.ex (e2.trans e3), ex_t (e2.trans e3) hq, hx.ex (e2.trans e3), hl, hs, ex_t (e2.trans e3) hk, rfl⟩))) ?_) (fun hc H3 e3 => ?_) fun hc H3 e3 => ?_
      · unfold badRow
        rw [eg]
      · refine s_ret (v := .int (i : Int)) (ev_var (by rfl)) fun H4 e4 => ?_
        have := k H4 ((e2.trans e3).trans e4)
        rw [show wrongRow ds (ss.map wordOf) ks = some i from first_some (by rw [← hx0.len]; exact il) hc hb] at this
        exact this
      · refine ⟨_, _, rfl, e2.trans e3, fun j hj => ?_⟩
        rcases Nat.lt_succ_iff_lt_or_eq.mp hj with h | rfl
        · exact hb j h
        · exact hc
    · rintro σ' H' ⟨u, v, rfl, e1, hb⟩
      dsimp only
      refine s_ret (v := .non) ev_c fun H4 e4 => ?_
      have := k H4 (e1.trans e4)
      rw [show wrongRow ds (ss.map wordOf) ks = none from first_none (by rw [← hx0.len]; exact hb)] at this
      exact this
end
end L2.KC

set_option Elab.async false
set_option maxRecDepth 100000
set_option maxHeartbeats 4000000
set_option linter.all false
/-! raise C(..) of an own class whose __init__ stores its parameters; the exception's context is None. -/
namespace L2.XK
open PySem PySem.Spec PyProof.Rows XC Evl
section
variable {P : Program} {w : World} {K : PySem.W.Frag} {mg : Str → Option Value} {base : Heap}
theorem Fun.okN {x qual : Str} {st : Stmt} {f : Addr} {fd : FuncData} {N ps : List Str} {k : Nat} {sp : Sp} (F : Fun K x qual st f fd) (S : FnScope N ps (defScope st))
    (len : ∀ vs H Q E, sp vs H Q E → vs.length = ps.length)
    (hbody : ∀ (cdv : Value) (A : Around) (outer : List Env) (s : Shared) (H : Hp) (vs : List V) (Q : VK) (E : XK), Room k (A.deeper (envOfC qual (defScope st) s.heap.objs.size f cdv)) → sp vs H Q E →
      ∃ t, PSs (cxOf (L2N.CX P w) P w K mg base N qual (defScope st) f cdv A outer s H E) (defBody st) t ∧ t { nx := fun _ H' => Q .non H', rt := Q } (start N vs) H) :
    FnOk P w K mg base (L2N.CX P w) (k + 1) f fd ps sp := by
  obtain ⟨oc, od, kV, doc, pm, an, cdv, ct, osl, rfl, lk, hcd⟩ := F.ex
  exact fn_of lk hcd S len fun A outer s H vs Q E hr hsp => hbody cdv A outer s H vs Q E hr hsp
end
section
variable {X : Cx} {pins : List (Addr × Obj)} {σ : St} {H1 : Hp} {s1 : Shared}
/-- the reading of raise C(..) -/
def tMkX (C : Addr) (fsOf : List V → Option (List (Str × V))) (ta : TA) : St → Hp → XK → Prop := fun σ H Q => ta σ H fun vs H1 => ∃ fs, fsOf vs = some fs ∧
  ∀ d, H1 d = none → Q (.ref C) (some d) (upd H1 d (.xd fs))
theorem pmk_x {C : Addr} {n : Nat} {x : Str} {p pos : Pos} {e : Expr} {es : List Expr} {ta : TA} {fsOf : List V → Option (List (Str × V))}
    (mk : Maker X C n [] fsOf) (hl : ∀ vs fs, fsOf vs = some fs → vs.length = n) (kC : PySem.W.keepIn X.K (.ref C) = true) (gC : X.mg x = some (.ref C)) (rs : Raises X (.ref C)) (ha : PA X (e :: es) ta) (hg : Gl X x := by rfl)
    (hdb : (x == ("__debug__" : Str)) = false := by decide)
    (he : starEach (e :: es) X.env = (false, eval e X.env) :: starEach es X.env := by rfl) (hpl : (backTo pos (starEach es X.env)).any (·.1) = false := by rfl) :
    L2N.PMk X (.Call (.Name x p) (e :: es) [] pos) (tMkX C fsOf ta) := by
  intro pins s σ H Q I h
  refine wpAny_Call_Name_kw (ld_glob I hg gC ?_ hdb)
  refine PySem.W.callWith_K (h₀ := X.base) I.ok.mod.kin kC (thn (ha.run pos pins s σ H _ I h) fun us s1 hh => ?_) he hpl
  obtain ⟨vs, H1, I1, r1, fs, ef, q1⟩ := hh
  refine ⟨I1.kIn, ?_⟩
  show wpAny _ _ (call (.ref C) us) _ _ _
  refine wpAny_call (mk s1 vs us [] fs _ I1.kIn I1.nolimit ?_ rfl (by rw [List.append_nil]; exact r1) ef fun h' tk e d m M r => ?_)
  · rw [← r1.length]
    exact hl vs fs ef
  · obtain ⟨t1, hoe⟩ := M.obj
    have he : H1 e = none := I1.hok.fresh M.new
    have hd : H1 d = none := I1.hok.fresh M.dbig
    obtain ⟨G, g1, g2⟩ := L2.restrict h' fun b => decide (b ≠ e)
    have gk : ∀ b, b ≠ e → G.get? b = h'.get? b := fun b hb => g1 b (decide_eq_true hb)
    have ge : G.get? e = none := g2 e (by simp)
    have old : ∀ b o, s1.heap.get? b = some o → G.get? b = some o := fun b o q => by
      refine (gk b ?_).trans (M.keep b o q)
      exact Nat.ne_of_lt (Nat.lt_of_lt_of_le (Heap.lt_size q) M.new)
    have ob : ObjOk X.prog X.w (upd H1 d (.xd fs)) G d (.xd fs) := ⟨m, M.ns.at (fun o q => (gk d M.dne).trans q), r⟩
    have J : Inv X pins σ (upd H1 d (.xd fs)) { s1 with heap := G, toks := tk } := I1.laid (t' := tk) old M.dbig ob
    have he2 : (upd H1 d (.xd fs)) e = none := by
      rw [upd_ne (Ne.symm M.dne)]
      exact he
    have hup : ∀ b o, G.get? b = some o → h'.get? b = some o := fun b o q => by
      have hb : b ≠ e := fun z => by
        rw [z, ge] at q
        cases q
      exact (gk b hb).symm.trans q
    exact ⟨e, _, _, _, _, .ref C, some d, rfl, J, hup, ge, hoe, ⟨rfl, rfl, fun vs q => by cases q; rfl⟩, rfl, rfl, he2, rfl, J.bare, rs, q1 d hd⟩
end
section
variable {K : PySem.W.Frag} {σ : L2.St} {H : Hp} {ta : TA} {C : Addr} {W : WX}
theorem s_raise {vs : List V} {fsOf : List V → Option (List (Str × V))} {fs : List (Str × V)} (h : EvA ta σ H vs) (hf : fsOf vs = some fs)
    (k : ∀ d H1, H d = none → Ex H H1 → H1 d = some (.xd fs) → W (.ref C) (some d) σ H1) : tMkX C fsOf ta σ H fun cls d H' => W cls d σ H' :=
  h H (Ex.refl _) _ fun H1 e1 => ⟨fs, hf, fun d hd => k d _ (fresh_back e1 hd) (e1.trans (Ex.new hd)) upd_same⟩
/-- a def that may raise: none, or the one field of an exception of the class C -/
def SpE (C : Addr) (f : Str) (P : List V → Hp → Option V → Prop) : Sp := fun vs H Q E => ∃ o, P vs H o ∧ match o with
  | none => ∀ H', Ex H H' → Q .non H'
  | some v => ∀ d H', H d = none → Ex H H' → H' d = some (.xd [(f, v)]) → E (.ref C) (some d) H'
end
end L2.XK

set_option Elab.async false
set_option maxRecDepth 100000
set_option maxHeartbeats 4000000
set_option linter.all false
/-! The checks that raise. -/
namespace L2.XK
open PySem PySem.Spec PyProof.Rows XC Evl
structure RaB (K : PySem.W.Frag) (C : Addr) : Prop where
  sb : PySem.W.subIn K (.ref C) (.type "BaseException") = some true
  ty : PySem.W.typeIn K (.ref C) = some (.type "type")
theorem RaB.raises {X : Cx} {C : Addr} (r : RaB X.K C) : Raises X (.ref C) := raises_own r.sb r.ty
theorem rv_notN {H : Hp} {x : V} : RV (fun x y H Q => y = .non ∧ Q (.bl (!decide (x = .non))) H) x .non H (.bl (!decide (x = .non))) := fun H1 e Q q => ⟨rfl, q H1 (Ex.refl _)⟩
end L2.XK
namespace L2.KC
open PySem PySem.Spec PyProof.Rows XK Evl
abbrev sCheckStands : Stmt := topS 64
abbrev NCheckStands : List Str := ["stands", "at"]
theorem scCheckStands : FnScope NCheckStands ["stands"] (defScope sCheckStands) := ⟨rfl, rfl, rfl, by decide +kernel, rfl, by decide +kernel, by decide +kernel⟩
abbrev sCheckKeys : Stmt := topS 65
abbrev NCheckKeys : List Str := ["keys", "at"]
theorem scCheckKeys : FnScope NCheckKeys ["keys"] (defScope sCheckKeys) := ⟨rfl, rfl, rfl, by decide +kernel, rfl, by decide +kernel, by decide +kernel⟩
abbrev sCheckRows : Stmt := topS 66
abbrev NCheckRows : List Str := ["rows", "stands", "keys", "at"]
theorem scCheckRows : FnScope NCheckRows ["rows", "stands", "keys"] (defScope sCheckRows) := ⟨rfl, rfl, rfl, by decide +kernel, rfl, by decide +kernel, by decide +kernel⟩
/-- where the checks that raise stand -/
structure AdrH where
  CheckStands : Addr
  fdCheckStands : FuncData
  CheckKeys : Addr
  fdCheckKeys : FuncData
  CheckRows : Addr
  fdCheckRows : FuncData
  InvalidStands : Addr
  iInvalidStands : Addr
  InvalidKeys : Addr
  iInvalidKeys : Addr
  InvalidRows : Addr
  iInvalidRows : Addr
  InvalidNumber : Addr
  iInvalidNumber : Addr
structure TxtH (K : PySem.W.Frag) (mg : Str → Option Value) (a : AdrC) (b : AdrH) : Prop extends TxtC K mg a where
  gCheckStands : mg "check_stands" = some (.ref b.CheckStands)
  kCheckStands : PySem.W.keepIn K (.ref b.CheckStands) = true
  fCheckStands : Fun K "check_stands" "check_stands" sCheckStands b.CheckStands b.fdCheckStands
  bCheckStands : Binds K b.fdCheckStands ["stands"] []
  gCheckKeys : mg "check_keys" = some (.ref b.CheckKeys)
  kCheckKeys : PySem.W.keepIn K (.ref b.CheckKeys) = true
  fCheckKeys : Fun K "check_keys" "check_keys" sCheckKeys b.CheckKeys b.fdCheckKeys
  bCheckKeys : Binds K b.fdCheckKeys ["keys"] []
  gCheckRows : mg "check_rows" = some (.ref b.CheckRows)
  kCheckRows : PySem.W.keepIn K (.ref b.CheckRows) = true
  fCheckRows : Fun K "check_rows" "check_rows" sCheckRows b.CheckRows b.fdCheckRows
  bCheckRows : Binds K b.fdCheckRows ["rows", "stands", "keys"] []
  gInvalidStands : mg "InvalidStands" = some (.ref b.InvalidStands)
  cInvalidStands : XC.ClsIx K b.InvalidStands b.iInvalidStands "ValueError" "ValueError.__new__" "ValueError.__init__" [.type "ValueError", .type "Exception", .type "BaseException", .type "object"]
  rInvalidStands : XK.RaB K b.InvalidStands
  gInvalidKeys : mg "InvalidKeys" = some (.ref b.InvalidKeys)
  cInvalidKeys : XC.ClsIx K b.InvalidKeys b.iInvalidKeys "ValueError" "ValueError.__new__" "ValueError.__init__" [.type "ValueError", .type "Exception", .type "BaseException", .type "object"]
  rInvalidKeys : XK.RaB K b.InvalidKeys
  gInvalidRows : mg "InvalidRows" = some (.ref b.InvalidRows)
  cInvalidRows : XC.ClsIx K b.InvalidRows b.iInvalidRows "ValueError" "ValueError.__new__" "ValueError.__init__" [.type "ValueError", .type "Exception", .type "BaseException", .type "object"]
  rInvalidRows : XK.RaB K b.InvalidRows
  gInvalidNumber : mg "InvalidNumber" = some (.ref b.InvalidNumber)
  cInvalidNumber : XC.ClsGv K b.InvalidNumber b.iInvalidNumber "ValueError" "ValueError.__new__" "ValueError.__init__" [.type "ValueError", .type "Exception", .type "BaseException", .type "object"]
  rInvalidNumber : XK.RaB K b.InvalidNumber

def faultOf : Option Nat → Option V
  | some i => some (.int (i : Int))
  | none => none
def keysFault (d : PyData) : Option V := match d with
  | .tuple ds => if ds.length ≤ 3 then faultOf (wrongKey ds) else some .non
  | _ => some .non
def standsFault (d : PyData) : Option V := match d with
  | .tuple ds => if 2 ≤ ds.length ∧ ds.length ≤ 6 then faultOf (wrongStand ds) else some .non
  | _ => some .non
def rowsFault (d : PyData) (words keys : List Str) : Option V := match d with
  | .tuple ds => if ds.length ≤ 16 then faultOf (wrongRow ds words keys) else some .non
  | _ => some .non
def pCheck (K : PySem.W.Frag) (g : PyData → Option V) : List V → Hp → Option V → Prop := fun vs H o => ∃ x d, vs = [x] ∧ Da K H x d ∧ o = g d
def pCheckRows (K : PySem.W.Frag) : List V → Hp → Option V → Prop := fun vs H o => ∃ x d r ys ss k ks, vs = [x, .ref r, .ref k] ∧ Da K H x d ∧ SqT K H r ys ∧ DaAll K H ys ss ∧ ss.length ≤ 40000 ∧
  (∀ d ∈ ss, standD d = true) ∧ SqT K H k (ks.map V.str) ∧ o = rowsFault d (ss.map wordOf) ks
section
variable {P : Program} {w : World} {K : PySem.W.Frag} {mg : Str → Option Value} {base : Heap} {a : AdrC} {b : AdrH}
theorem ok_checkKeys (T : TxtH K mg a b) : FnOk P w K mg base (L2N.CX P w) 3 b.CheckKeys b.fdCheckKeys ["keys"] (SpE b.InvalidKeys "index" (pCheck K keysFault)) := by
  have GWrongKey : FnOk P w K mg base CX0 2 a.WrongKey a.fdWrongKey ["keys"] (SpN (pWrongKey K)) := ok_wrongKey T.toTxtC
  refine Fun.okN T.fCheckKeys scCheckKeys (fun vs H Q E h => ?_) (fun cdv A outer s H vs Q E hr h => ?_)
  · obtain ⟨o, ⟨x, d, rfl, _⟩, _⟩ := h
    rfl
  · obtain ⟨o, ⟨x, d, rfl, hd, rfl⟩, k⟩ := h
    refine ⟨_, (pss_cons (ps_if (PW.pt (pw_or (pt_not (pt_val (pe_callB (id := "isinstance") (r := rIsi K) call_isi (by rfl) T.bisinstance (by decide +kernel) (pa_cons (pv 0) (pa_cons (pe_bltn (v := .ty "tuple") (by rfl) T.btuple (by decide +kernel) rfl) pa_nil))))) (pw_or1 (pt_cmpR op_gt (pe_callB call_len (by rfl) T.blen (by decide +kernel) (pa_cons (pv 0) pa_nil)) (pe_glob (v := .int 3) rfl T.mgMostKeys ⟨_, rfl⟩) (nomark _))))) (pss_one (L2N.ps_raise rfl (L2N.takes_of rfl rfl rfl rfl) (XK.pmk_x (XK.mkIxP T.cInvalidKeys (hr.mono (by decide) : Room 1 _)) XK.hlOne T.cInvalidKeys.kC T.gInvalidKeys (T.rInvalidKeys.raises) (pa_cons pe_non pa_nil)))) pss_nil)
      (pss_cons (ps_set (i := 1) scCheckKeys.nd rfl (by first | exact Or.inl rfl | exact Or.inr rfl) (by exact (pe_call GWrongKey (hr.mono (by decide)) (by rfl) T.gWrongKey T.kWrongKey T.bWrongKey .nil pass0 (pa_cons (pv 0) pa_nil))))
      (pss_one (ps_if (pt_cmpR op_notN (pv 1) pe_non (nomark _)) (pss_one (L2N.ps_raise rfl (L2N.takes_of rfl rfl rfl rfl) (XK.pmk_x (XK.mkIxP T.cInvalidKeys (hr.mono (by decide) : Room 1 _)) XK.hlOne T.cInvalidKeys.kC T.gInvalidKeys (T.rInvalidKeys.raises) (pa_cons (pv 1) pa_nil)))) pss_nil)))), ?_⟩
    refine s_when (b := !isD "tuple" d || decide (((tupLen d : Nat) : Int) > 3)) (et_or (et_not (et_test (ev_isi (by decide) (ev_var (by rfl)) hd))) fun h1 => ?_) (fun hb H1 e1 => ?_) fun hb H1 e1 => ?_
    · have h1' : isD "tuple" d = true := by simpa using h1
      obtain ⟨ds, rfl⟩ := isD_tup h1'
      cases hd with
      | tup hq hx =>
        refine et_test (ev_op (ev_is (ev_lenT (ev_var (by rfl)) hq) ?_) ev_c rv_I0)
        rw [hx.len]
        rfl
    · have e : keysFault d = some .non := by
        cases d <;> first | rfl | skip
        rename_i ds
        have : ¬ ds.length ≤ 3 := by
          have q : decide (((tupLen (.tuple ds) : Nat) : Int) > 3) = true := by simpa [isD, isTy, tyN] using hb
          have q' := of_decide_eq_true q
          have e : tupLen (.tuple ds) = ds.length := rfl
          omega
        exact if_neg this
      rw [e] at k
      exact s_raise (W := fun cls d _ H => E cls d H) (ea_cons ev_c ea_nil) rfl fun d H2 hd e2 h2 => k d H2 (fresh_back e1 hd) (e1.trans e2) h2
    · simp only [Bool.or_eq_false_iff, Bool.not_eq_false', decide_eq_false_iff_not] at hb
      obtain ⟨ds, rfl⟩ := isD_tup hb.1
      have hl : ds.length ≤ 3 := by
        have e : tupLen (.tuple ds) = ds.length := rfl
        omega
      have e : keysFault (.tuple ds) = faultOf (wrongKey ds) := if_pos hl
      rw [e] at k
      cases hd with
      | tup hq hx =>
        dsimp only [tNext, tSeq]
        refine s_asg (v := optV (wrongKey ds)) (ev_callN (ea_cons (ev_var (by rfl)) ea_nil) fun H2 e2 => ⟨_, _, ds, rfl, ex_t (e1.trans e2) hq, hx.ex (e1.trans e2), by omega, rfl⟩) fun H2 e2 => ?_
        cases hw : wrongKey ds with
        | none =>
          rw [hw] at k
          dsimp only [tNext, tSeq]
          refine s_when (b := false) (et_test (ev_op (ev_var (by rfl)) ev_c (rv_notN (x := .non)))) (fun z => nomatch z) fun _ H3 e3 => ?_
          exact k H3 ((e1.trans e2).trans e3)
        | some i =>
          rw [hw] at k
          dsimp only [tNext, tSeq]
          refine s_when (b := true) (et_test (ev_op (ev_var (by rfl)) ev_c (rv_notN (x := .int (i : Int))))) (fun _ H3 e3 => ?_) fun z => nomatch z
          exact s_raise (W := fun cls d _ H => E cls d H) (ea_cons (ev_var (by rfl)) ea_nil) rfl fun d H4 hd e4 h4 => k d H4 (fresh_back ((e1.trans e2).trans e3) hd) (((e1.trans e2).trans e3).trans e4) h4
theorem ok_checkStands (T : TxtH K mg a b) : FnOk P w K mg base (L2N.CX P w) 4 b.CheckStands b.fdCheckStands ["stands"] (SpE b.InvalidStands "index" (pCheck K standsFault)) := by
  have GWrongStand : FnOk P w K mg base CX0 3 a.WrongStand a.fdWrongStand ["stands"] (SpN (pWrongStand K)) := ok_wrongStand T.toTxtC
  refine Fun.okN T.fCheckStands scCheckStands (fun vs H Q E h => ?_) (fun cdv A outer s H vs Q E hr h => ?_)
  · obtain ⟨o, ⟨x, d, rfl, _⟩, _⟩ := h
    rfl
  · obtain ⟨o, ⟨x, d, rfl, hd, rfl⟩, k⟩ := h
    refine ⟨_, (pss_cons (ps_if (PW.pt (pw_or (pt_not (pt_val (pe_callB (id := "isinstance") (r := rIsi K) call_isi (by rfl) T.bisinstance (by decide +kernel) (pa_cons (pv 0) (pa_cons (pe_bltn (v := .ty "tuple") (by rfl) T.btuple (by decide +kernel) rfl) pa_nil))))) (pw_or1 (pt_not (pt_chain op_le op_le (pe_glob (v := .int 2) rfl T.mgFewestStands ⟨_, rfl⟩) (pe_callB call_len (by rfl) T.blen (by decide +kernel) (pa_cons (pv 0) pa_nil)) (pe_glob (v := .int 6) rfl T.mgMostStands ⟨_, rfl⟩)))))) (pss_one (L2N.ps_raise rfl (L2N.takes_of rfl rfl rfl rfl) (XK.pmk_x (XK.mkIxP T.cInvalidStands (hr.mono (by decide) : Room 1 _)) XK.hlOne T.cInvalidStands.kC T.gInvalidStands (T.rInvalidStands.raises) (pa_cons pe_non pa_nil)))) pss_nil)
      (pss_cons (ps_set (i := 1) scCheckStands.nd rfl (by first | exact Or.inl rfl | exact Or.inr rfl) (by exact (pe_call GWrongStand (hr.mono (by decide)) (by rfl) T.gWrongStand T.kWrongStand T.bWrongStand .nil pass0 (pa_cons (pv 0) pa_nil))))
      (pss_one (ps_if (pt_cmpR op_notN (pv 1) pe_non (nomark _)) (pss_one (L2N.ps_raise rfl (L2N.takes_of rfl rfl rfl rfl) (XK.pmk_x (XK.mkIxP T.cInvalidStands (hr.mono (by decide) : Room 1 _)) XK.hlOne T.cInvalidStands.kC T.gInvalidStands (T.rInvalidStands.raises) (pa_cons (pv 1) pa_nil)))) pss_nil)))), ?_⟩
    refine s_when (b := !isD "tuple" d || !(decide ((2 : Int) ≤ ((tupLen d : Nat) : Int)) && decide (((tupLen d : Nat) : Int) ≤ 6))) (et_or (et_not (et_test (ev_isi (by decide) (ev_var (by rfl)) hd))) fun h1 => ?_) (fun hb H1 e1 => ?_) fun hb H1 e1 => ?_
    · have h1' : isD "tuple" d = true := by simpa using h1
      obtain ⟨ds, rfl⟩ := isD_tup h1'
      cases hd with
      | tup hq hx =>
        refine et_not (et_test (ev_chain ev_c (ev_is (ev_lenT (ev_var (by rfl)) hq) ?_) rv_I0 ev_c rv_I0))
        rw [hx.len]
        rfl
    · have e : standsFault d = some .non := by
        cases d <;> first | rfl | skip
        rename_i ds
        have : ¬ (2 ≤ ds.length ∧ ds.length ≤ 6) := by
          intro z
          have e : tupLen (.tuple ds) = ds.length := rfl
          rw [e] at hb
          have z1 : (2 : Int) ≤ ((ds.length : Nat) : Int) := by omega
          have z2 : ((ds.length : Nat) : Int) ≤ 6 := by omega
          simp [isD, isTy, tyN, z1, z2] at hb
        exact if_neg this
      rw [e] at k
      exact s_raise (W := fun cls d _ H => E cls d H) (ea_cons ev_c ea_nil) rfl fun d H2 hd e2 h2 => k d H2 (fresh_back e1 hd) (e1.trans e2) h2
    · simp only [Bool.or_eq_false_iff, Bool.not_eq_false', Bool.and_eq_true, decide_eq_true_eq] at hb
      obtain ⟨ds, rfl⟩ := isD_tup hb.1
      have hl : 2 ≤ ds.length ∧ ds.length ≤ 6 := by
        have e : tupLen (.tuple ds) = ds.length := rfl
        rw [e] at hb
        omega
      have e : standsFault (.tuple ds) = faultOf (wrongStand ds) := if_pos hl
      rw [e] at k
      cases hd with
      | tup hq hx =>
        dsimp only [tNext, tSeq]
        refine s_asg (v := optV (wrongStand ds)) (ev_callN (ea_cons (ev_var (by rfl)) ea_nil) fun H2 e2 => ⟨_, _, ds, rfl, ex_t (e1.trans e2) hq, hx.ex (e1.trans e2), by omega, rfl⟩) fun H2 e2 => ?_
        cases hw : wrongStand ds with
        | none =>
          rw [hw] at k
          dsimp only [tNext, tSeq]
          refine s_when (b := false) (et_test (ev_op (ev_var (by rfl)) ev_c (rv_notN (x := .non)))) (fun z => nomatch z) fun _ H3 e3 => ?_
          exact k H3 ((e1.trans e2).trans e3)
        | some i =>
          rw [hw] at k
          dsimp only [tNext, tSeq]
          refine s_when (b := true) (et_test (ev_op (ev_var (by rfl)) ev_c (rv_notN (x := .int (i : Int))))) (fun _ H3 e3 => ?_) fun z => nomatch z
          exact s_raise (W := fun cls d _ H => E cls d H) (ea_cons (ev_var (by rfl)) ea_nil) rfl fun d H4 hd e4 h4 => k d H4 (fresh_back ((e1.trans e2).trans e3) hd) (((e1.trans e2).trans e3).trans e4) h4
theorem ok_checkRows (T : TxtH K mg a b) : FnOk P w K mg base (L2N.CX P w) 6 b.CheckRows b.fdCheckRows ["rows", "stands", "keys"] (SpE b.InvalidRows "index" (pCheckRows K)) := by
  have GWrongRow : FnOk P w K mg base CX0 5 a.WrongRow a.fdWrongRow ["rows", "stands", "keys"] (SpN (pWrongRow K)) := ok_wrongRow T.toTxtC
  refine Fun.okN T.fCheckRows scCheckRows (fun vs H Q E h => ?_) (fun cdv A outer s H vs Q E hr h => ?_)
  · obtain ⟨o, ⟨x, d, r, ys, ss, kk, ks, rfl, _⟩, _⟩ := h
    rfl
  · obtain ⟨o, ⟨x, d, r, ys, ss, kk, ks, rfl, hd, hq2, hx2, hl2, hs2, hk2, rfl⟩, k⟩ := h
    refine ⟨_, (pss_cons (ps_if (PW.pt (pw_or (pt_not (pt_val (pe_callB (id := "isinstance") (r := rIsi K) call_isi (by rfl) T.bisinstance (by decide +kernel) (pa_cons (pv 0) (pa_cons (pe_bltn (v := .ty "tuple") (by rfl) T.btuple (by decide +kernel) rfl) pa_nil))))) (pw_or1 (pt_cmpR op_gt (pe_callB call_len (by rfl) T.blen (by decide +kernel) (pa_cons (pv 0) pa_nil)) (pe_glob (v := .int 16) rfl T.mgMostRows ⟨_, rfl⟩) (nomark _))))) (pss_one (L2N.ps_raise rfl (L2N.takes_of rfl rfl rfl rfl) (XK.pmk_x (XK.mkIxP T.cInvalidRows (hr.mono (by decide) : Room 1 _)) XK.hlOne T.cInvalidRows.kC T.gInvalidRows (T.rInvalidRows.raises) (pa_cons pe_non pa_nil)))) pss_nil)
      (pss_cons (ps_set (i := 3) scCheckRows.nd rfl (by first | exact Or.inl rfl | exact Or.inr rfl) (by exact (pe_call GWrongRow (hr.mono (by decide)) (by rfl) T.gWrongRow T.kWrongRow T.bWrongRow .nil pass0 (pa_cons (pv 0) (pa_cons (pv 1) (pa_cons (pv 2) pa_nil))))))
      (pss_one (ps_if (pt_cmpR op_notN (pv 3) pe_non (nomark _)) (pss_one (L2N.ps_raise rfl (L2N.takes_of rfl rfl rfl rfl) (XK.pmk_x (XK.mkIxP T.cInvalidRows (hr.mono (by decide) : Room 1 _)) XK.hlOne T.cInvalidRows.kC T.gInvalidRows (T.rInvalidRows.raises) (pa_cons (pv 3) pa_nil)))) pss_nil))))
, ?_⟩
    refine s_when (b := !isD "tuple" d || decide (((tupLen d : Nat) : Int) > 16)) (et_or (et_not (et_test (ev_isi (by decide) (ev_var (by rfl)) hd))) fun h1 => ?_) (fun hb H1 e1 => ?_) fun hb H1 e1 => ?_
    · have h1' : isD "tuple" d = true := by simpa using h1
      obtain ⟨ds, rfl⟩ := isD_tup h1'
      cases hd with
      | tup hq hx =>
        refine et_test (ev_op (ev_is (ev_lenT (ev_var (by rfl)) hq) ?_) ev_c rv_I0)
        rw [hx.len]
        rfl
    · have e : rowsFault d (ss.map wordOf) ks = some .non := by
        cases d <;> first | rfl | skip
        rename_i ds
        have : ¬ ds.length ≤ 16 := by
          have q : decide (((tupLen (.tuple ds) : Nat) : Int) > 16) = true := by simpa [isD, isTy, tyN] using hb
          have q' := of_decide_eq_true q
          have e : tupLen (.tuple ds) = ds.length := rfl
          omega
        exact if_neg this
      rw [e] at k
      exact s_raise (W := fun cls d _ H => E cls d H) (ea_cons ev_c ea_nil) rfl fun d H2 hd e2 h2 => k d H2 (fresh_back e1 hd) (e1.trans e2) h2
    · simp only [Bool.or_eq_false_iff, Bool.not_eq_false', decide_eq_false_iff_not] at hb
      obtain ⟨ds, rfl⟩ := isD_tup hb.1
      have hl : ds.length ≤ 16 := by
        have e : tupLen (.tuple ds) = ds.length := rfl
        omega
      have e : rowsFault (.tuple ds) (ss.map wordOf) ks = faultOf (wrongRow ds (ss.map wordOf) ks) := if_pos hl
      rw [e] at k
      cases hd with
      | tup hq hx =>
        dsimp only [tNext, tSeq]
        refine s_asg (v := optV (wrongRow ds (ss.map wordOf) ks)) (ev_callN (ea_cons (ev_var (by rfl)) (ea_cons (ev_var (by rfl)) (ea_cons (ev_var (by rfl)) ea_nil))) fun H2 e2 =>
          ⟨_, _, ds, r, ys, ss, kk, ks, rfl, ex_t (e1.trans e2) hq, hx.ex (e1.trans e2), ex_t (e1.trans e2) hq2, hx2.ex (e1.trans e2), hl2, hs2, ex_t (e1.trans e2) hk2, rfl⟩) fun H2 e2 => ?_
        cases hw : wrongRow ds (ss.map wordOf) ks with
        | none =>
          rw [hw] at k
          dsimp only [tNext, tSeq]
          refine s_when (b := false) (et_test (ev_op (ev_var (by rfl)) ev_c (rv_notN (x := .non)))) (fun z => nomatch z) fun _ H3 e3 => ?_
          exact k H3 ((e1.trans e2).trans e3)
        | some i =>
          rw [hw] at k
          dsimp only [tNext, tSeq]
          refine s_when (b := true) (et_test (ev_op (ev_var (by rfl)) ev_c (rv_notN (x := .int (i : Int))))) (fun _ H3 e3 => ?_) fun z => nomatch z
          exact s_raise (W := fun cls d _ H => E cls d H) (ea_cons (ev_var (by rfl)) ea_nil) rfl fun d H4 hd e4 h4 => k d H4 (fresh_back ((e1.trans e2).trans e3) hd) (((e1.trans e2).trans e3).trans e4) h4
end
end L2.KC

set_option Elab.async false
set_option maxRecDepth 100000
set_option maxHeartbeats 4000000
set_option linter.all false
/-! The text of a house. -/
namespace L2.XK
open PySem PySem.Spec PyProof.Rows XC Evl TL
section
variable {K : PySem.W.Frag} {σ : L2.St} {H : Hp} {ta tb tc te : TE}
def EvJ (ts : List TE) (acc : Str) (σ : L2.St) (H : Hp) (out : Str) : Prop := ∀ H1, Ex H H1 → ∀ Q : Str → Hp → Prop, (∀ H2, Ex H1 H2 → Q out H2) → tJs ts acc σ H1 Q
theorem ej_nil {acc : Str} : EvJ [] acc σ H acc := fun H1 e Q q => q H1 (Ex.refl _)
theorem ej_cons {t : TE} {ts : List TE} {acc y out : Str} (h : Ev t σ H (.str y)) (hz : (acc ++ y).length ≤ 100000) (r : EvJ ts (acc ++ y) σ H out) : EvJ (t :: ts) acc σ H out := fun H1 e Q q =>
  h H1 e _ fun H2 e2 => ⟨y, rfl, sz_of hz, r H2 (e.trans e2) Q fun H3 e3 => q H3 (e2.trans e3)⟩
theorem ev_joined {ts : List TE} {out : Str} (h : EvJ ts Str.empty σ H out) : Ev (fun σ H Q => tJs ts Str.empty σ H fun out H1 => Q (.str out) H1) σ H (.str out) := fun H1 e Q q => h H1 e _ fun H2 e2 => q H2 e2
theorem ev_fmtS {y : Str} (h : Ev te σ H (.str y)) (hz : y.length ≤ 100000) : Ev (tFmt te) σ H (.str y) := fun H1 e Q q => h H1 e _ fun H2 e2 => .inl ⟨y, rfl, sz_of hz, q H2 e2⟩
theorem ev_fmtI {i : Int} (h : Ev te σ H (.int i)) (hz : i.natAbs.log2 < 1920) : Ev (tFmt te) σ H (.str (toString i)) := fun H1 e Q q => h H1 e _ fun H2 e2 => .inr ⟨i, rfl, hz, q H2 e2⟩
/-- a list made pair by pair of a tuple -/
theorem el_lcP {a : Addr} {xs : List V} {j l : Nat} {vs : List Nat} (v : Nat → V) (h : Ev te σ H (.ref a)) (hx : SqT K H a xs) (hz : xs.length ≤ 40000)
    (hw : ∀ x y, wipe (((wipe σ vs).set j (some x)).set l (some y)) vs = wipe σ vs)
    (he : ∀ (i : Nat) (x : V), xs[i]? = some x → ∃ q u w, x = .ref q ∧ SqT K H q [u, w] ∧ ∀ H1, Ex H H1 → Ev tb (((wipe σ vs).set j (some u)).set l (some w)) H1 (v i)) :
    EvL (tLc (iTup K te) (gTup K 2 (gCons (gName j) (gCons (gName l) gNil))) tYes tb vs) σ H ((List.range xs.length).map v) := fun H0 e Q q => h H0 e _ fun H1 e1 => ⟨a, rfl, ⟨xs, ex_t (e.trans e1) hx⟩, fun Dl hD =>
  lc_tup (xs := xs) (fun i H' => H1 Dl = none ∧ Ex H1 H' ∧ H' Dl = some (.lst ((List.range i).map v))) ⟨hD, Ex.new hD, upd_same⟩ (fun i H' _ p => ex_t ((e.trans e1).trans p.2.1) hx)
    (fun i x H' hi ⟨p1, p2, p3⟩ => by
      obtain ⟨r, u, w, rfl, hq, hv⟩ := he i x hi
      refine ⟨r, _, rfl, ex_t ((e.trans e1).trans p2) hq, rfl, _, _, rfl, _, _, rfl, rfl, hw _ _, ?_⟩
      exact hv H1 (e.trans e1) H' p2 _ fun H4 e4 => ⟨(List.range i).map v, e4 _ _ p3, sz_lt (by
        have := (List.getElem?_eq_some_iff.mp hi).1
        simp; omega), p1, Ex.mut (p2.trans e4) p1, by
          rw [List.range_succ, List.map_append]
          exact upd_same⟩)
    (fun H' p => q Dl H' (fresh_back e1 p.1) (e1.trans p.2.1) p.2.2)⟩
def rJoin (K : PySem.W.Frag) : V → List V → Hp → VK → Prop := fun x xs H Q => ∃ a p, ∃ ys : List Str, x = .str a ∧ xs = [.ref p] ∧ (SqL K H p (ys.map V.str) ∨ SqT K H p (ys.map V.str)) ∧
  (ys.map (·.length)).sum + ys.length * a.length ≤ 16777216 ∧ Q (.str (Txt.join a ys)) H
theorem ev_joinT {x : Str} {p : Addr} {ys : List Str} (ha : Ev ta σ H (.str x)) (hb : Ev tb σ H (.ref p)) (hp : SqT K H p (ys.map V.str)) (hz : (ys.map (·.length)).sum + ys.length * x.length ≤ 16777216) :
    Ev (tBM K "str" (rJoin K) ta (tCons tb tNil)) σ H (.str (Txt.join x ys)) := fun H1 e Q q =>
  ha H1 e _ fun H2 e2 => ⟨rfl, hb H2 (e.trans e2) _ fun H3 e3 => ⟨x, p, ys, rfl, rfl, .inr (ex_t ((e.trans e2).trans e3) hp), hz, q H3 (e2.trans e3)⟩⟩
theorem ev_joinL {x : Str} {ys : List Str} (ha : Ev ta σ H (.str x)) (hb : EvL tb σ H (ys.map V.str)) (hz : (ys.map (·.length)).sum + ys.length * x.length ≤ 16777216) :
    Ev (tBM K "str" (rJoin K) ta (tCons tb tNil)) σ H (.str (Txt.join x ys)) := fun H1 e Q q =>
  ha H1 e _ fun H2 e2 => ⟨rfl, hb H2 (e.trans e2) _ fun p H3 _ e3 h3 => ⟨x, p, ys, rfl, rfl, .inl (sq_of h3), hz, q H3 (e2.trans e3)⟩⟩
theorem sum_le {m : Nat} : ∀ {l : List Str}, (∀ y ∈ l, y.length ≤ m) → (l.map (·.length)).sum ≤ l.length * m
  | [], _ => by simp
  | y :: l, h => by
    have h1 := h y List.mem_cons_self
    have h2 := sum_le (l := l) fun z hz => h z (List.mem_cons_of_mem _ hz)
    simp only [List.map_cons, List.sum_cons, List.length_cons]
    rw [Nat.succ_mul]
    omega
theorem joinL_len (S : List Nat) : ∀ l : List (List Nat), (joinL S l).length ≤ (l.map (·.length)).sum + l.length * S.length
  | [] => by simp [joinL]
  | [p] => by simp [joinL]
  | p :: r :: t => by
    have h := joinL_len S (r :: t)
    simp only [joinL, List.map_cons, List.sum_cons, List.length_cons, List.length_append] at h ⊢
    rw [Nat.succ_mul]
    omega
theorem join_len (y : Str) (l : List Str) : (Txt.join y l).length ≤ (l.map (·.length)).sum + l.length * y.length := by
  have h := joinL_len (tl y) (l.map tl)
  rw [← tl_join, ← join_eq, ← len_tl, List.map_map, List.length_map, ← len_tl] at h
  have e : (l.map ((·.length) ∘ tl)) = l.map (·.length) := by
    apply List.map_congr_left
    intro z _
    exact (len_tl z).symm
  rw [e] at h
  exact h
/-- a list display with parts spliced in: [x, *new list, *tuple] -/
theorem el_spl {x : V} {xs zs : List V} {p : Addr} (ha : Ev ta σ H x) (hb : EvL tb σ H xs) (hc : Ev tc σ H (.ref p)) (hp : SqT K H p zs) (hz : 1 + (xs.length + zs.length) ≤ 100000) :
    EvL (tLst (tCons ta (StX.tStar K tb (StX.tStar K tc tNil)))) σ H (x :: (xs ++ zs)) := fun H1 e Q q =>
  ha H1 e _ fun H2 e2 => hb H2 (e.trans e2) _ fun l H3 hl e3 h3 => ⟨l, xs, rfl, .inr (sq_of h3), hc H3 ((e.trans e2).trans e3) _ fun H4 e4 => ⟨p, zs, rfl, .inl (ex_t (((e.trans e2).trans e3).trans e4) hp), by
    show (x :: (xs ++ (zs ++ []))).length ≤ _ ∧ _
    rw [List.append_nil]
    exact ⟨sz_of (by simp; omega), fun r hr => q r _ (fresh_back ((e2.trans e3).trans e4) hr) (((e2.trans e3).trans e4).trans (Ex.new hr)) upd_same⟩⟩⟩
theorem rv_addS {i j : Str} (h : i.length + j.length ≤ 100000) : RV (fun x y H Q => ∃ i j, x = .str i ∧ y = .str j ∧ i.length + j.length ≤ sizeLine ∧ Q (.str (i ++ j)) H) (.str i) (.str j) H (.str (i ++ j)) :=
  fun H1 e Q q => ⟨i, j, rfl, rfl, sz_of h, q H1 (Ex.refl _)⟩
def SpS (P : List V → Hp → Str → Prop) : Sp := fun vs H Q _ => ∃ z, P vs H z ∧ ∀ H', Ex H H' → Q (.str z) H'
end
end L2.XK
namespace L2.KC
open PySem PySem.Spec PyProof.Rows XK Evl
abbrev sHouseText : Stmt := topS 67
abbrev NHouseText : List Str := ["lines", "stands", "keys", "rows", "first", "stand", "sound"]
theorem scHouseText : FnScope NHouseText ["lines", "stands", "keys", "rows"] (defScope sHouseText) := ⟨rfl, rfl, rfl, by decide +kernel, rfl, by decide +kernel, by decide +kernel⟩
/-- where the text's maker stands -/
structure TxtT (K : PySem.W.Frag) (mg : Str → Option Value) (f : Addr) (fd : FuncData) : Prop where
  gHouseText : mg "house_text" = some (.ref f)
  kHouseText : PySem.W.keepIn K (.ref f) = true
  fHouseText : Fun K "house_text" "house_text" sHouseText f fd
  bHouseText : Binds K fd ["lines", "stands", "keys", "rows"] []

def numT (n : Int) : Str := (Str.empty ++ ("lines " : Str)) ++ ((toString n : String) : Str)
def keysT (ks : List Str) : Str := Txt.join " " ks
def firstT (n : Int) (ks : List Str) : Str := if ks.isEmpty then numT n else (numT n ++ (", keys " : Str)) ++ keysT ks
def pairOf : PyData → Str × Str
  | .tuple [.str s, .str u] => (s, u)
  | _ => default
def standT (p : Str × Str) : Str := (((Str.empty ++ ("stand " : Str)) ++ p.1) ++ (" " : Str)) ++ p.2
def partsT (n : Int) (ps : List (Str × Str)) (ks rows : List Str) : List Str := firstT n ks :: (ps.map standT ++ rows)
def houseT (n : Int) (ps : List (Str × Str)) (ks rows : List Str) : Str := Txt.join "\n" (partsT n ps ks rows)
def pText (K : PySem.W.Frag) : List V → Hp → Str → Prop := fun vs H z => ∃ (n : Int) (r : Addr) (ys : List V) (ss : List PyData) (k : Addr) (ks : List Str) (q : Addr) (rows : List Str),
  vs = [.int n, .ref r, .ref k, .ref q] ∧ 1 ≤ n ∧ n ≤ 3 ∧ SqT K H r ys ∧ DaAll K H ys ss ∧ (∀ d ∈ ss, standD d = true) ∧ ss.length ≤ 6 ∧
  SqT K H k (ks.map V.str) ∧ ks.length ≤ 3 ∧ (∀ x ∈ ks, x.length ≤ 8) ∧ SqT K H q (rows.map V.str) ∧ rows.length ≤ 16 ∧ (∀ x ∈ rows, x.length ≤ 100000) ∧ z = houseT n (ss.map pairOf) ks rows
theorem len_app (x y : Str) : (x ++ y).length = x.length + y.length := by
  show (x ++ y).cps.size = _
  rw [Str.cps_append, Array.size_append]
  rfl
theorem num_len {n : Int} (h1 : 1 ≤ n) (h2 : n ≤ 3) : ((toString n : String) : Str).length ≤ 20 := by
  obtain rfl | rfl | rfl : n = 1 ∨ n = 2 ∨ n = 3 := by omega
  all_goals decide +kernel
theorem numT_len {n : Int} (h1 : 1 ≤ n) (h2 : n ≤ 3) : (numT n).length ≤ 40 := by
  have := num_len h1 h2
  unfold numT
  rw [len_app, len_app]
  have e1 : Str.empty.length = 0 := rfl
  have e2 : ("lines " : Str).length = 6 := by decide +kernel
  omega
theorem word_len {s : Str} (h : wordS s = true) : s.length ≤ 8 := by
  unfold wordS lenB at h
  simp at h
  omega
theorem keysT_len {ks : List Str} (h : ks.length ≤ 3) (h8 : ∀ x ∈ ks, x.length ≤ 8) : (keysT ks).length ≤ 40 ∧ (ks.map (·.length)).sum + ks.length * (" " : Str).length ≤ 40 := by
  have h1 := join_len " " ks
  have h2 := sum_le h8
  have e : (" " : Str).length = 1 := by decide +kernel
  rw [e] at h1 ⊢
  unfold keysT
  omega
theorem firstT_len {n : Int} {ks : List Str} (h1 : 1 ≤ n) (h2 : n ≤ 3) (h : ks.length ≤ 3) (h8 : ∀ x ∈ ks, x.length ≤ 8) : (firstT n ks).length ≤ 100 := by
  have a := numT_len h1 h2
  have b := (keysT_len h h8).1
  have e : (", keys " : Str).length = 7 := by decide +kernel
  unfold firstT
  split
  · omega
  · rw [len_app, len_app]
    omega
theorem standT_len {p : Str × Str} (h1 : p.1.length ≤ 8) (h2 : p.2.length ≤ 8) : (standT p).length ≤ 40 := by
  unfold standT
  rw [len_app, len_app, len_app, len_app]
  have e1 : Str.empty.length = 0 := rfl
  have e2 : ("stand " : Str).length = 6 := by decide +kernel
  have e3 : (" " : Str).length = 1 := by decide +kernel
  omega
section
variable {P : Program} {w : World} {K : PySem.W.Frag} {mg : Str → Option Value} {base : Heap} {a : AdrC} {f : Addr} {fd : FuncData}
theorem ok_text (T : TxtT K mg f fd) : FnOk P w K mg base CX0 1 f fd ["lines", "stands", "keys", "rows"] (SpS (pText K)) := by
  refine T.fHouseText.ok scHouseText (fun vs H Q E h => ?_) (fun cdv A outer s H vs Q E hr h => ?_)
  · obtain ⟨z, ⟨n, r, ys, ss, k, ks, q, rows, rfl, _⟩, _⟩ := h
    rfl
  · obtain ⟨z, ⟨n, r, ys, ss, kk, ks, q, rows, rfl, n1, n3, hq, hx, hs, hl, hk, hkl, hk8, hr0, hrl, hr8, rfl⟩, k⟩ := h
    refine ⟨_, (pss_cons (ps_set (i := 4) scHouseText.nd rfl (by first | exact Or.inl rfl | exact Or.inr rfl) (by exact (pe_joined (.cons pe_str (.cons (pe_fmt (pv 0)) PJ.nil)))))
      (pss_cons (ps_if (pt_truth (pv 2) (by intro _; rfl)) (pss_one (ps_set (i := 4) scHouseText.nd rfl (by first | exact Or.inl rfl | exact Or.inr rfl) (by exact (pe_op op_add_str (pe_op op_add_str (pv 4) pe_str) (pe_bm PySem.F.plainAttrs_str PySem.F.slot_str_join PySem.F.type_str_join mt_join pe_str (pa_cons (pv 2) pa_nil)))))) pss_nil)
      (pss_one (ps_ret (by exact (pe_bm PySem.F.plainAttrs_str PySem.F.slot_str_join PySem.F.type_str_join mt_join pe_str (pa_cons (pe_lst (pa_cons (pv 4) (StX.pa_star (pe_lc (own := [("stand", 5), ("sound", 6)]) (g := gTup K 2 (gCons (gName 5) (gCons (gName 6) gNil))) (tt := tYes) rfl scHouseText.nd (pi_tup (pv 1)) (blkOk_by (own := [("stand", 5), ("sound", 6)]) (N := NHouseText) (sc := defScope sHouseText) (by decide +kernel)) (fun _ _ _ _ _ => pg_tup (by rfl) (pgs_cons (pg_name (i := 5) scHouseText.nd rfl (Or.inl rfl)) (pgs_cons (pg_name (i := 6) scHouseText.nd rfl (Or.inl rfl)) pgs_nil))) (fun _ _ _ _ _ => by exact pts_nil) (fun _ _ _ _ _ => by exact (pe_joined (.cons pe_str (.cons (pe_fmt (pv 5)) (.cons pe_str (.cons (pe_fmt (pv 6)) PJ.nil))))))) (StX.pa_star (pv 3) pa_nil)))) pa_nil)))))))
, ?_⟩
    have nl : n.natAbs.log2 < 1920 := by
      obtain rfl | rfl | rfl : n = 1 ∨ n = 2 ∨ n = 3 := by omega
      all_goals decide +kernel
    have l0 := numT_len n1 n3
    have l1 := keysT_len hkl hk8
    have l2 := firstT_len n1 n3 hkl hk8
    have e7 : (", keys " : Str).length = 7 := by decide +kernel
    have e6 : ("lines " : Str).length = 6 := by decide +kernel
    have e1 : ("\n" : Str).length = 1 := by decide +kernel
    refine s_asg (v := .str (numT n)) (ev_joined (ej_cons ev_c (by rw [len_app, e6]; decide) (ej_cons (ev_fmtI (ev_var (by rfl)) nl) (by show (numT n).length ≤ _; omega) ej_nil))) fun H1 e1' => ?_
    dsimp only [tNext, tSeq]
    refine s_ifAsg (v := .str (firstT n ks)) (b := !ks.isEmpty) (fun H2 e2 Q2 q2 => ⟨_, rfl, !ks.isEmpty, .inr (.inl ⟨_, ex_t (e1'.trans e2) hk, by cases ks <;> rfl⟩), q2 H2 (Ex.refl _)⟩) (fun hb => ?_) (fun hb => ?_) fun H2 e2 => ?_
    · have eb : ks.isEmpty = false := by simpa using hb
      have ef : firstT n ks = (numT n ++ (", keys " : Str)) ++ keysT ks := if_neg (by rw [eb]; decide)
      rw [ef]
      refine ev_op (ev_op (ev_var (by rfl)) ev_c (rv_addS (by omega))) (ev_joinT ev_c (ev_var (by rfl)) (ex_t e1' hk) (by omega)) (rv_addS ?_)
      rw [len_app]
      have := l1.1
      unfold keysT at this
      omega
    · have eb : ks.isEmpty = true := by simpa using hb
      have ef : firstT n ks = numT n := if_pos eb
      rw [ef]
      rfl
    · have e12 := e1'.trans e2
      have es : ((ss.map pairOf).map standT).map V.str = (List.range ys.length).map fun i => V.str (standT (pairOf (ss.getD i .none))) := by
        rw [hx.len, List.map_map, List.map_map]
        exact (range_map ss .none (V.str ∘ standT ∘ pairOf)).symm
      have ep : (partsT n (ss.map pairOf) ks rows).map V.str = V.str (firstT n ks) :: (((List.range ys.length).map fun i => V.str (standT (pairOf (ss.getD i .none)))) ++ rows.map V.str) := by
        unfold partsT
        rw [List.map_cons, List.map_append, es]
      have hm : ∀ y ∈ partsT n (ss.map pairOf) ks rows, y.length ≤ 100000 := by
        intro y hy
        rcases List.mem_cons.mp hy with rfl | hy
        · omega
        · rcases List.mem_append.mp hy with hy | hy
          · obtain ⟨p, hp, rfl⟩ := List.mem_map.mp hy
            obtain ⟨d, hd, rfl⟩ := List.mem_map.mp hp
            obtain ⟨s1, u1, rfl⟩ := standD_is (hs d hd)
            have hw := hs _ hd
            unfold standD at hw
            simp only [Bool.and_eq_true] at hw
            have := standT_len (p := (s1, u1)) (word_len (s := s1) hw.1) (word_len (s := u1) hw.2.1)
            exact Nat.le_trans this (by decide)
          · exact hr8 y hy
      have hc : (partsT n (ss.map pairOf) ks rows).length ≤ 23 := by
        unfold partsT
        simp
        omega
      have hsum : ((partsT n (ss.map pairOf) ks rows).map (·.length)).sum + (partsT n (ss.map pairOf) ks rows).length * ("\n" : Str).length ≤ 16777216 := by
        have h1 := sum_le hm
        rw [e1]
        have h2 : (partsT n (ss.map pairOf) ks rows).length * 100000 ≤ 23 * 100000 := Nat.mul_le_mul_right _ hc
        omega
      dsimp only
      refine s_ret (v := .str (houseT n (ss.map pairOf) ks rows)) (ev_joinL ev_c ?_ hsum) fun H3 e3 => k H3 (e12.trans e3)
      rw [ep]
      refine el_spl (ev_var (by rfl)) (el_lcP _ (ev_var (by rfl)) (ex_t e12 hq) (by rw [hx.len]; omega) (fun _ _ => rfl) fun i x hi => ?_) (ev_var (by rfl)) (ex_t e12 hr0) (by simp; have := hx.len; omega)
      obtain ⟨d, hd, p⟩ := hx.get hi
      have hw := hs d (List.mem_of_getElem? hd)
      obtain ⟨s1, u1, rfl⟩ := standD_is hw
      unfold standD at hw
      simp only [Bool.and_eq_true] at hw
      have w1 := word_len (s := s1) hw.1
      have w2 := word_len (s := u1) hw.2.1
      have e2' : ss.getD i .none = .tuple [.str s1, .str u1] := by
        rw [List.getD, hd]
        rfl
      rw [e2', show pairOf (.tuple [.str s1, .str u1]) = (s1, u1) from rfl]
      have w1' : (s1, u1).1.length ≤ 8 := w1
      have w2' : (s1, u1).2.length ≤ 8 := w2
      cases p with
      | @tup q2 _ _ hq2 hx2 =>
        cases hx2 with
        | cons a1 b1 =>
          cases a1
          cases b1 with
          | cons a2 b2 =>
            cases a2
            cases b2
            refine ⟨q2, _, _, rfl, ex_t e12 hq2, fun H4 e4 => ev_joined ?_⟩
            have l3 := standT_len (p := (s1, u1)) w1 w2
            unfold standT at l3
            rw [len_app, len_app, len_app] at l3
            exact ej_cons ev_c (by omega) (ej_cons (ev_fmtS (ev_var (by rfl)) (by omega)) (by rw [len_app]; omega) (ej_cons ev_c (by rw [len_app, len_app]; omega) (ej_cons (ev_fmtS (ev_var (by rfl)) (by omega)) (by rw [len_app, len_app, len_app]; omega) ej_nil)))
end
end L2.KC

set_option Elab.async false
set_option maxRecDepth 100000
set_option maxHeartbeats 4000000
set_option linter.all false
/-! A house is made. -/
namespace L2.KC
open PySem PySem.Spec PyProof.Rows XK Evl
def clsS (i j : Nat) : Stmt := match topS i with
  | .ClassDef _ _ _ body .. => body.getD j (.Pass ⟨0, 0, 0, 0⟩)
  | _ => .Pass ⟨0, 0, 0, 0⟩
abbrev sHouseInit : Stmt := clsS 63 0
abbrev NHouseInit : List Str := ["self", "lines", "stands", "keys", "rows"]
theorem scHouseInit : FnScope NHouseInit ["self", "lines", "stands", "keys", "rows"] (defScope sHouseInit) := ⟨rfl, rfl, rfl, by decide +kernel, rfl, by decide +kernel, by decide +kernel⟩
structure AdrO where
  House : Addr
  Init : Addr
  fdInit : FuncData
  Text : Addr
  fdText : FuncData
  E1 : Addr
  E2 : Addr
/-- what the top has written of the class -/
structure TxtO (K : PySem.W.Frag) (mg : Str → Option Value) (a : AdrC) (b : AdrH) (o : AdrO) : Prop extends TxtH K mg a b where
  tx : TxtT K mg o.Text o.fdText
  cl : Cls K o.House
  n1 : NoAttr K o.House "line_count"
  n2 : NoAttr K o.House "stand_pairs"
  n3 : NoAttr K o.House "key_names"
  n4 : NoAttr K o.House "row_texts"
  n5 : NoAttr K o.House "text"
  init : FunD K "__init__" "House.__init__" (defArgs sHouseInit) (defBody sHouseInit) (defScope sHouseInit) [.ref o.E1, .ref o.E2] [] o.Init o.fdInit
  e1 : WT K o.E1 []
  e2 : WT K o.E2 []
  mkH : Mk K o.House o.Init
  gHouse : mg "House" = some (.ref o.House)

theorem first_all {n : Nat} {f : Nat → Bool} (h : firstOf n f = none) : ∀ i, i < n → f i = false := by
  unfold firstOf at h
  rw [List.find?_eq_none] at h
  intro i hi
  have := h i (List.mem_range.mpr hi)
  simpa using this
theorem fault_none {o : Option Nat} (h : faultOf o = none) : o = none := by
  cases o with
  | none => rfl
  | some i => cases h
theorem mem_bad {ds : List PyData} {f : PyData → Bool} {bad : Nat → Bool} (hb : ∀ j, bad j = false → f (ds.getD j .none) = true) (h : firstOf ds.length bad = none) : ∀ d ∈ ds, f d = true := by
  intro d hd
  obtain ⟨i, hi, e⟩ := List.mem_iff_getElem.mp hd
  have := hb i (first_all h i hi)
  rw [List.getD, List.getElem?_eq_getElem hi] at this
  rw [← e]
  exact this
theorem stands_none {d : PyData} (h : standsFault d = none) : ∃ ss, d = .tuple ss ∧ 2 ≤ ss.length ∧ ss.length ≤ 6 ∧ ∀ x ∈ ss, standD x = true := by
  cases d <;> try (cases h)
  rename_i ss
  unfold standsFault at h
  dsimp only at h
  split at h
  · rename_i hl
    refine ⟨ss, rfl, hl.1, hl.2, mem_bad (bad := badStand ss) (fun j hj => ?_) (fault_none h)⟩
    unfold badStand at hj
    simp only [Bool.or_eq_false_iff, Bool.not_eq_false'] at hj
    exact hj.1
  · cases h
theorem strs_of : ∀ {ds : List PyData}, (∀ d ∈ ds, ∃ s, d = .str s) → ds = (ds.map strOf).map PyData.str
  | [], _ => rfl
  | d :: ds, h => by
    obtain ⟨s, rfl⟩ := h d List.mem_cons_self
    rw [List.map_cons, List.map_cons, ← strs_of fun x hx => h x (List.mem_cons_of_mem _ hx)]
    rfl
theorem keys_none {d : PyData} (h : keysFault d = none) : ∃ ks : List Str, d = .tuple (ks.map PyData.str) ∧ ks.length ≤ 3 ∧ ∀ x ∈ ks, wordS x = true := by
  cases d <;> try (cases h)
  rename_i ds
  unfold keysFault at h
  dsimp only at h
  split at h
  · rename_i hl
    have hw : ∀ x ∈ ds, wordD x = true := mem_bad (bad := badKey ds) (fun j hj => by
      unfold badKey at hj
      simp only [Bool.or_eq_false_iff, Bool.not_eq_false'] at hj
      exact hj.1) (fault_none h)
    have e := strs_of fun x hx => by
      obtain ⟨s, hs, _⟩ := wordD_str (hw x hx)
      exact ⟨s, hs⟩
    refine ⟨ds.map strOf, by rw [← e], by rw [List.length_map]; exact hl, fun x hx => ?_⟩
    obtain ⟨y, hy, rfl⟩ := List.mem_map.mp hx
    obtain ⟨s, rfl, hs⟩ := wordD_str (hw y hy)
    exact hs
  · cases h
theorem rowD_str {d : PyData} {ws ks : List Str} (h : rowD d ws ks = true) : ∃ s, d = .str s ∧ rowS s ws ks = true := by
  cases d <;> first | exact ⟨_, rfl, h⟩ | (simp [rowD] at h)
theorem rows_none {d : PyData} {ws ks : List Str} (h : rowsFault d ws ks = none) : ∃ rs : List Str, d = .tuple (rs.map PyData.str) ∧ rs.length ≤ 16 ∧ ∀ x ∈ rs, rowS x ws ks = true := by
  cases d <;> try (cases h)
  rename_i ds
  unfold rowsFault at h
  dsimp only at h
  split at h
  · rename_i hl
    have hw : ∀ x ∈ ds, rowD x ws ks = true := mem_bad (f := fun d => rowD d ws ks) (bad := badRow ds ws ks) (fun j hj => by
      unfold badRow at hj
      simpa using hj) (fault_none h)
    have e := strs_of fun x hx => by
      obtain ⟨s, hs, _⟩ := rowD_str (hw x hx)
      exact ⟨s, hs⟩
    refine ⟨ds.map strOf, by rw [← e], by rw [List.length_map]; exact hl, fun x hx => ?_⟩
    obtain ⟨y, hy, rfl⟩ := List.mem_map.mp hx
    obtain ⟨s, rfl, hs⟩ := rowD_str (hw y hy)
    exact hs
  · cases h
theorem daStrs {K : PySem.W.Frag} {H : Hp} : ∀ {vs : List V} {l : List Str}, DaAll K H vs (l.map PyData.str) → vs = l.map V.str ∧ ∀ x ∈ l, x.length ≤ 100000
  | [], [], _ => ⟨rfl, fun x hx => by cases hx⟩
  | v :: vs, s :: l, h => by
    cases h with
    | cons p q =>
      obtain ⟨e, hl⟩ := daStrs q
      cases p with
      | str _ hz => exact ⟨by rw [e]; rfl, fun x hx => by
        rcases List.mem_cons.mp hx with rfl | hx
        · exact hz
        · exact hl x hx⟩
  | [], _ :: _, h => by cases h
  | _ :: _, [], h => by cases h
/-- the error that is told first -/
def standsOf : PyData → List PyData
  | .tuple ss => ss
  | _ => []
def keysOf : PyData → List Str
  | .tuple ds => ds.map strOf
  | _ => []
def intD : PyData → Int
  | .int i => i
  | _ => 0
def houseFault (b : AdrH) (l : V) (dl ds dk dr : PyData) : Option (Addr × Str × V) :=
  if betw dl 1 3 then match standsFault ds with
    | some v => some (b.InvalidStands, ("index" : Str), v)
    | none => match keysFault dk with
      | some v => some (b.InvalidKeys, ("index" : Str), v)
      | none => match rowsFault dr ((standsOf ds).map wordOf) (keysOf dk) with
        | some v => some (b.InvalidRows, ("index" : Str), v)
        | none => none
  else some (b.InvalidNumber, ("given" : Str), l)
def fieldsOf (l st ky rw : V) (t : Str) : List (Str × V) := [("line_count", l), ("stand_pairs", st), ("key_names", ky), ("row_texts", rw), ("text", .str t)]
def houseD (dl ds dk dr : PyData) : Str := houseT (intD dl) ((standsOf ds).map pairOf) (keysOf dk) (keysOf dr)
def spInit (K : PySem.W.Frag) (b : AdrH) (C : Addr) : Sp := fun vs H Q E => ∃ x dx l st ky rw dl ds dk dr, vs = [.ref x, l, st, ky, rw] ∧ H x = some (.ins C dx []) ∧
  Da K (delH H x) l dl ∧ Da K (delH H x) st ds ∧ Da K (delH H x) ky dk ∧ Da K (delH H x) rw dr ∧
  match houseFault b l dl ds dk dr with
  | some (c, f, v) => ∀ d H', H d = none → Ex H H' → H' d = some (.xd [(f, v)]) → E (.ref c) (some d) H'
  | none => ∀ H', But x H H' → H' x = some (.ins C dx (fieldsOf l st ky rw (houseD dl ds dk dr))) → Q .non H'
theorem fault_some {o : Option V} (h : o ≠ none) : ∃ v, o = some v := by
  cases o with
  | none => exact absurd rfl h
  | some v => exact ⟨v, rfl⟩
section
variable {P : Program} {w : World} {K : PySem.W.Frag} {mg : Str → Option Value} {base : Heap} {a : AdrC} {b : AdrH} {o : AdrO}
theorem ok_init (T : TxtO K mg a b o) : FnOk P w K mg base (L2N.CX P w) 7 o.Init o.fdInit ["self", "lines", "stands", "keys", "rows"] (spInit K b o.House) := by
  have GIsBetween : FnOk P w K mg base CX0 2 a.IsBetween a.fdIsBetween ["thing", "least", "most"] (SpB (pBetween K)) := ok_between T.toTxtC
  have GCheckStands : FnOk P w K mg base (L2N.CX P w) 4 b.CheckStands b.fdCheckStands ["stands"] (SpE b.InvalidStands "index" (pCheck K standsFault)) := ok_checkStands T.toTxtH
  have GCheckKeys : FnOk P w K mg base (L2N.CX P w) 3 b.CheckKeys b.fdCheckKeys ["keys"] (SpE b.InvalidKeys "index" (pCheck K keysFault)) := ok_checkKeys T.toTxtH
  have GCheckRows : FnOk P w K mg base (L2N.CX P w) 6 b.CheckRows b.fdCheckRows ["rows", "stands", "keys"] (SpE b.InvalidRows "index" (pCheckRows K)) := ok_checkRows T.toTxtH
  have GHouseText : FnOk P w K mg base CX0 1 o.Text o.fdText ["lines", "stands", "keys", "rows"] (SpS (pText K)) := ok_text T.tx
  refine T.init.ok scHouseInit (fun vs H Q E h => ?_) (fun cdv A outer s H vs Q E hr h => ?_)
  · obtain ⟨x, dx, l, st, ky, rw, dl, ds, dk, dr, rfl, _⟩ := h
    rfl
  · obtain ⟨x, dx, l, st, ky, rw', dl, ds, dk, dr, rfl, hx, hl, hs, hk, hrw, k⟩ := h
    refine ⟨_, (pss_cons (ps_if (pt_not (pt_val (pe_call GIsBetween (hr.mono (by decide)) (by rfl) T.gIsBetween T.kIsBetween T.bIsBetween .nil pass0 (pa_cons (pv 1) (pa_cons pe_int (pa_cons (pe_glob (v := .int 3) rfl T.mgMostLines ⟨_, rfl⟩) pa_nil)))))) (pss_one (L2N.ps_raise rfl (L2N.takes_of rfl rfl rfl rfl) (XK.pmk_x (XK.mkGvP T.cInvalidNumber (hr.mono (by decide) : Room 1 _)) XK.hlOne T.cInvalidNumber.kC T.gInvalidNumber (T.rInvalidNumber.raises) (pa_cons (pv 1) pa_nil)))) pss_nil)
      (pss_cons (ps_expr (pe_call GCheckStands (hr.mono (by decide)) (by rfl) T.gCheckStands T.kCheckStands T.bCheckStands .nil (L2N.passes_call (L2N.takes_of rfl rfl rfl rfl) fun _ _ _ _ h => h) (pa_cons (pv 2) pa_nil)))
      (pss_cons (ps_expr (pe_call GCheckKeys (hr.mono (by decide)) (by rfl) T.gCheckKeys T.kCheckKeys T.bCheckKeys .nil (L2N.passes_call (L2N.takes_of rfl rfl rfl rfl) fun _ _ _ _ h => h) (pa_cons (pv 3) pa_nil)))
      (pss_cons (ps_expr (pe_call GCheckRows (hr.mono (by decide)) (by rfl) T.gCheckRows T.kCheckRows T.bCheckRows .nil (L2N.passes_call (L2N.takes_of rfl rfl rfl rfl) fun _ _ _ _ h => h) (pa_cons (pv 4) (pa_cons (pv 2) (pa_cons (pv 3) pa_nil)))))
      (pss_cons (ps_fld (pv 0) (pv 1) rfl)
      (pss_cons (ps_fld (pv 0) (pv 2) rfl)
      (pss_cons (ps_fld (pv 0) (pv 3) rfl)
      (pss_cons (ps_fld (pv 0) (pv 4) rfl)
      (pss_one (ps_fld (pv 0) (pe_call GHouseText (hr.mono (by decide)) (by rfl) T.tx.gHouseText T.tx.kHouseText T.tx.bHouseText .nil pass0 (pa_cons (pv 1) (pa_cons (pv 2) (pa_cons (pv 3) (pa_cons (pv 4) pa_nil))))) rfl))))))))))
, ?_⟩
    have up : ∀ {v : V} {d : PyData}, Da K (delH H x) v d → Da K H v d := fun h => h.ex delEx
    refine s_when (b := !betw dl 1 3) (et_not (et_test (ev_callB (ea_cons (ev_var (by rfl)) (ea_cons ev_c (ea_cons ev_c ea_nil))) fun H1 e1 => ⟨l, dl, 1, 3, rfl, (up hl).ex e1, rfl⟩))) (fun hb H1 e1 => ?_) fun hb H1 e1 => ?_
    · have hb' : betw dl 1 3 = false := by simpa using hb
      have e : houseFault b l dl ds dk dr = some (b.InvalidNumber, ("given" : Str), l) := by
        unfold houseFault
        rw [hb']
        rfl
      rw [e] at k
      exact s_raise (W := fun cls d _ H => E cls d H) (ea_cons (ev_var (by rfl)) ea_nil) rfl fun d H2 hd e2 h2 => k d H2 (fresh_back e1 hd) (e1.trans e2) h2
    · have hb' : betw dl 1 3 = true := by simpa using hb
      dsimp only [tNext, tSeq]
      refine ⟨_, rfl, ?_⟩
      refine ⟨standsFault ds, ⟨st, ds, rfl, (up hs).ex e1, rfl⟩, ?_⟩
      cases hsf : standsFault ds with
      | some v =>
        have e : houseFault b l dl ds dk dr = some (b.InvalidStands, ("index" : Str), v) := by
          unfold houseFault
          rw [hb', if_pos rfl, hsf]
        rw [e] at k
        exact fun d H2 hd e2 h2 => k d H2 (fresh_back e1 hd) (e1.trans e2) h2
      | none =>
        intro H2 e2
        dsimp only [tNext, tSeq]
        refine ⟨_, rfl, ?_⟩
        refine ⟨keysFault dk, ⟨ky, dk, rfl, (up hk).ex (e1.trans e2), rfl⟩, ?_⟩
        cases hkf : keysFault dk with
        | some v =>
          have e : houseFault b l dl ds dk dr = some (b.InvalidKeys, ("index" : Str), v) := by
            unfold houseFault
            rw [hb', if_pos rfl, hsf, hkf]
          rw [e] at k
          exact fun d H3 hd e3 h3 => k d H3 (fresh_back (e1.trans e2) hd) ((e1.trans e2).trans e3) h3
        | none =>
          intro H3 e3
          have e13 := (e1.trans e2).trans e3
          obtain ⟨ss, rfl, ss2, ss6, hss⟩ := stands_none hsf
          obtain ⟨ks, rfl, ks3, hks⟩ := keys_none hkf
          have kx : keysOf (.tuple (ks.map PyData.str)) = ks := by
            show (ks.map PyData.str).map strOf = ks
            rw [List.map_map]
            exact List.map_id _
          cases hs with
          | @tup r ys _ hq hxx =>
          cases hk with
          | @tup kk zs _ hkq hkx =>
          obtain ⟨rfl, ks0⟩ := daStrs hkx
          have hq' : SqT K H r ys := ex_t delEx hq
          have hkq' : SqT K H kk (ks.map V.str) := ex_t delEx hkq
          have hxx' : DaAll K H ys ss := hxx.ex delEx
          dsimp only [tNext, tSeq]
          refine ⟨_, rfl, _, rfl, _, rfl, ?_⟩
          refine ⟨rowsFault dr (ss.map wordOf) ks, ⟨rw', dr, r, ys, ss, kk, ks, rfl, (up hrw).ex e13, ex_t e13 hq', hxx'.ex e13, by omega, hss, ex_t e13 hkq', rfl⟩, ?_⟩
          cases hrf : rowsFault dr (ss.map wordOf) ks with
          | some v =>
            have e : houseFault b l dl (.tuple ss) (.tuple (ks.map PyData.str)) dr = some (b.InvalidRows, ("index" : Str), v) := by
              unfold houseFault
              rw [hb', if_pos rfl, hsf]
              dsimp only
              rw [hkf]
              dsimp only
              rw [kx]
              show (match rowsFault dr (ss.map wordOf) ks with | some v => _ | none => _) = _
              rw [hrf]
            rw [e] at k
            exact fun d H4 hd e4 h4 => k d H4 (fresh_back e13 hd) (e13.trans e4) h4
          | none =>
            intro H4 e4
            have e14 := e13.trans e4
            have e : houseFault b l dl (.tuple ss) (.tuple (ks.map PyData.str)) dr = none := by
              unfold houseFault
              rw [hb', if_pos rfl, hsf]
              dsimp only
              rw [hkf]
              dsimp only
              rw [kx]
              show (match rowsFault dr (ss.map wordOf) ks with | some v => _ | none => _) = _
              rw [hrf]
            rw [e] at k
            obtain ⟨rs, rfl, rs16, hrs⟩ := rows_none hrf
            have rx : keysOf (.tuple (rs.map PyData.str)) = rs := by
              show (rs.map PyData.str).map strOf = rs
              rw [List.map_map]
              exact List.map_id _
            cases hrw with
            | @tup q zr _ hrq hrx =>
            obtain ⟨rfl, rs0⟩ := daStrs hrx
            have hn : ∃ n : Int, dl = .int n ∧ 1 ≤ n ∧ n ≤ 3 := by
              cases dl <;> try (simp [betw] at hb')
              exact ⟨_, rfl, hb'.1, hb'.2⟩
            obtain ⟨n, rfl, n1, n3⟩ := hn
            cases hl
            have bt : ∀ {H5 : Hp} {g : HO}, Ex (delH H x) H5 → Ex (delH H x) (upd H5 x g) := fun {H5 g} e5 => Ex.mut e5 delH_same
            have x0 : H4 x = some (.ins o.House dx []) := e14 _ _ hx
            have b0 : Ex (delH H x) H4 := fun p u h => e14 p u (delEx p u h)
            dsimp only [tNext, tSeq]
            refine ⟨_, rfl, _, rfl, x, o.House, dx, [], rfl, x0, T.cl, T.n1, by decide, ?_⟩
            refine ⟨_, rfl, _, rfl, x, o.House, dx, _, rfl, upd_same, T.cl, T.n2, by show 1 < 1000; decide, ?_⟩
            refine ⟨_, rfl, _, rfl, x, o.House, dx, _, rfl, upd_same, T.cl, T.n3, by show 2 < 1000; decide, ?_⟩
            refine ⟨_, rfl, _, rfl, x, o.House, dx, _, rfl, upd_same, T.cl, T.n4, by show 3 < 1000; decide, ?_⟩
            rw [upd_upd, upd_upd, upd_upd]
            have b1 := bt (g := .ins o.House dx (putF "row_texts" (.ref q) (putF "key_names" (.ref kk) (putF "stand_pairs" (.ref r) (putF "line_count" (.int n) []))))) b0
            refine ⟨_, rfl, _, rfl, _, rfl, _, rfl, ?_⟩
            refine ⟨houseT n (ss.map pairOf) ks rs, ⟨n, r, ys, ss, kk, ks, q, rs, rfl, n1, n3, ex_t b1 hq, hxx.ex b1, hss, ss6, ex_t b1 hkq, ks3, fun z hz => word_len (hks z hz), ex_t b1 hrq, rs16, rs0, rfl⟩, fun H5 e5 => ?_⟩
            refine ⟨_, rfl, x, o.House, dx, _, rfl, e5 _ _ upd_same, T.cl, T.n5, by show 4 < 1000; decide, ?_⟩
            refine k _ (fun p u hp h => ?_) ?_
            · rw [upd_ne hp]
              refine e5 _ _ ?_
              rw [upd_ne hp]
              exact e14 _ _ h
            · rw [upd_same]
              unfold houseD
              rw [kx, rx]
              rfl
end
end L2.KC

set_option Elab.async false
set_option maxRecDepth 100000
set_option maxHeartbeats 4000000
set_option linter.all false
/-! House(..), and what its properties tell. -/
namespace L2.KC
open PySem PySem.Spec PyProof.Rows XK Evl
abbrev sHouseLines : Stmt := clsS 63 2
abbrev sHouseStands : Stmt := clsS 63 3
abbrev sHouseKeys : Stmt := clsS 63 4
abbrev sHouseRows : Stmt := clsS 63 5
theorem scHouseRows : FnScope ["self"] ["self"] (defScope sHouseRows) := ⟨rfl, rfl, rfl, by decide +kernel, rfl, by decide +kernel, by decide +kernel⟩
theorem scHouseStands : FnScope ["self"] ["self"] (defScope sHouseStands) := ⟨rfl, rfl, rfl, by decide +kernel, rfl, by decide +kernel, by decide +kernel⟩
theorem scHouseKeys : FnScope ["self"] ["self"] (defScope sHouseKeys) := ⟨rfl, rfl, rfl, by decide +kernel, rfl, by decide +kernel, by decide +kernel⟩
theorem scHouseLines : FnScope ["self"] ["self"] (defScope sHouseLines) := ⟨rfl, rfl, rfl, by decide +kernel, rfl, by decide +kernel, by decide +kernel⟩
section
variable {P : Program} {w : World} {K : PySem.W.Frag} {mg : Str → Option Value} {base : Heap} {a : AdrC} {b : AdrH} {o : AdrO}
theorem ok_getter {x qual f : Str} {st : Stmt} {g : Addr} {fd : FuncData} {C : Addr} {p1 p2 p3 : Pos} (F : Fun K x qual st g fd) (S : FnScope ["self"] ["self"] (defScope st))
    (hb : defBody st = [.Return (some (.Attribute (.Name "self" p1) f p2)) p3]) (c : Cls K C) (n : NoAttr K C f) : FnOk P w K mg base CX0 1 g fd ["self"] (getSp C f) := by
  obtain ⟨oc, od, kV, doc, pm, an, cdv, ct, osl, rfl, lk, hcd⟩ := F.ex
  exact fn_getter lk hcd S rfl hb c n
theorem ok_rows (T : TxtO K mg a b o) {g : Addr} {fd : FuncData} (F : Fun K "rows" "House.rows" sHouseRows g fd) : FnOk P w K mg base CX0 1 g fd ["self"] (getSp o.House "row_texts") :=
  ok_getter F scHouseRows (by rfl) T.cl T.n4
theorem ok_stands (T : TxtO K mg a b o) {g : Addr} {fd : FuncData} (F : Fun K "stands" "House.stands" sHouseStands g fd) : FnOk P w K mg base CX0 1 g fd ["self"] (getSp o.House "stand_pairs") :=
  ok_getter F scHouseStands (by rfl) T.cl T.n2
theorem ok_lines (T : TxtO K mg a b o) {g : Addr} {fd : FuncData} (F : Fun K "lines" "House.lines" sHouseLines g fd) : FnOk P w K mg base CX0 1 g fd ["self"] (getSp o.House "line_count") :=
  ok_getter F scHouseLines (by rfl) T.cl T.n1
/-- what House(..) with these values does -/
def Made (K : PySem.W.Frag) (b : AdrH) (C : Addr) (l st ky rw : V) (dl ds dk dr : PyData) (H : Hp) (Q : VK) (E : XK) : Prop :=
  match houseFault b l dl ds dk dr with
  | some (c, f, v) => ∀ d H', H d = none → Ex H H' → H' d = some (.xd [(f, v)]) → E (.ref c) (some d) H'
  | none => ∀ x dx H', H x = none → Ex H H' → H' x = some (.ins C dx (fieldsOf l st ky rw (houseD dl ds dk dr))) → Q (.ref x) H'
theorem make_house {C : Addr} {H : Hp} {l st ky rw : V} {dl ds dk dr : PyData} {Q : VK} {E : XK} (hl : Da K H l dl) (hs : Da K H st ds) (hk : Da K H ky dk) (hr : Da K H rw dr) (m : Made K b C l st ky rw dl ds dk dr H Q E) :
    ∀ x dx, H x = none → H dx = none → dx ≠ x → spInit K b C [.ref x, l, st, ky, rw] (upd (upd H dx (.own x)) x (.ins C dx [])) (fun v H2 => v = .non ∧ Q (.ref x) H2) E := by
  intro x dx nx ndx hne
  have e1 : Ex H (upd (upd H dx (.own x)) x (.ins C dx [])) := (Ex.new ndx).trans (Ex.new (by rw [upd_ne (Ne.symm hne)]; exact nx))
  have e2 : Ex H (delH (upd (upd H dx (.own x)) x (.ins C dx [])) x) := fun p u h => by
    have hp : p ≠ x := fun z => by
      rw [z, nx] at h
      cases h
    rw [delH_ne hp]
    exact e1 p u h
  refine ⟨x, dx, l, st, ky, rw, dl, ds, dk, dr, rfl, upd_same, hl.ex e2, hs.ex e2, hk.ex e2, hr.ex e2, ?_⟩
  unfold Made at m
  cases hf : houseFault b l dl ds dk dr with
  | some q =>
    obtain ⟨c, f, v⟩ := q
    rw [hf] at m
    exact fun d H' hd e h => m d H' (fresh_back e1 hd) (e1.trans e) h
  | none =>
    rw [hf] at m
    intro H' bt hx
    refine ⟨rfl, m x dx H' nx (fun p u h => ?_) hx⟩
    have hp : p ≠ x := fun z => by
      rw [z, nx] at h
      cases h
    exact bt p u hp (e1 p u h)
end
end L2.KC

set_option Elab.async false
set_option maxRecDepth 100000
set_option maxHeartbeats 4000000
set_option linter.all false
/-! A def that is called in an except suite with the caught exception: isinstance and a field of it. -/
namespace L2.XK
open PySem PySem.Spec PyProof.Rows XC Evl L2H
/-- what a def promises where the exception p is handled; the promise may speak of p -/
structure FnP (P : Program) (w : World) (K : PySem.W.Frag) (mg : Str → Option Value) (base : Heap) (k : Nat) (f : Addr) (fd : FuncData) (ps : List Str) (sp : Addr × Obj → Sp) : Prop where
  len : ∀ p vs H Q E, sp p vs H Q E → vs.length = ps.length
  run : ∀ (A : Around) (outer : List Env) (s : Shared) (H : Hp) (args : Args) (us : List Value) (vs : List V) (Q : VK) (E : XK) (p : Addr × Obj), RoomH k A → Hot1 A p → PinOk outer H s p →
    Env0 P w K mg base A outer s H → BindsTo s fd args (ps.zip us) → Vals vs us → sp p vs H Q E → codeAny (model P w) A (.call (.ref f) args) (CR CX0 outer P w H s Q E) s
section
variable {P : Program} {w : World} {K : PySem.W.Frag} {mg : Str → Option Value} {base : Heap}
theorem Fun.okP {x qual : Str} {st : Stmt} {f : Addr} {fd : FuncData} {N ps : List Str} {k : Nat} {sp : Addr × Obj → Sp} (F : Fun K x qual st f fd) (S : FnScope N ps (defScope st))
    (len : ∀ p vs H Q E, sp p vs H Q E → vs.length = ps.length)
    (hbody : ∀ (cdv : Value) (A : Around) (outer : List Env) (s : Shared) (H : Hp) (vs : List V) (Q : VK) (E : XK) (p : Addr × Obj), Hot1 A p → RoomH k (A.deeper (envOfC qual (defScope st) s.heap.objs.size f cdv)) → sp p vs H Q E →
      ∃ t, PSs (cxH CX0 P w K mg base N qual (defScope st) f cdv A outer s H E p) (defBody st) t ∧ t { nx := fun _ H' => Q .non H', rt := Q } (start N vs) H) : FnP P w K mg base (k + 1) f fd ps sp := by
  obtain ⟨oc, od, kV, doc, pm, an, cdv, ct, osl, rfl, lk, hcd⟩ := F.ex
  refine ⟨len, fun A outer s H args us vs Q E p hr hot hpin e0 hb r hsp => ?_⟩
  have hl := len _ _ _ _ _ hsp
  have KX : K.In s.heap := e0.mod.kin.keeps fun b o e => (e0.bs b o e).1
  have lim : s.heap.NoLimit := e0.mod.nolimit.keeps fun b o e => (e0.bs b o e).1
  have kinds : ∀ y ∈ ps.zip us, (defScope st).names.lookup y.1 = some .local ∨
      ((defScope st).names.lookup y.1 = some .cell ∧ ((cellsFrom (s.heap.objs.size + 1) (defScope st).names []).lookup y.1).isSome = true) := by
    rintro ⟨n, v⟩ hy
    rcases S.par n (List.of_mem_zip hy).1 with q | q
    · exact .inl q
    · exact .inr ⟨q, PySem.W.cellsFrom_some _ _ _ (.inl q)⟩
  refine codeAny_call_function hr.depth (KX _ _ lk) rfl S.co S.gen rfl (PySem.W.codeRec_of KX hcd) (hb _ _ _ _ ?_)
  refine wpAny_newFunctionEnv_cells S.kind kinds fun env he s1 x => ?_
  subst he
  refine ⟨lim.keeps x.toInCall.keep, codeAny_func ?_⟩
  obtain ⟨t, ht, hq⟩ := hbody cdv A outer s H vs Q E p hot (hr.deeper _) hsp
  have I := inv_startH (CX := CX0) (E := E) S hpin e0 hl r x
  refine wpAny_mono (ht.run [] s1 (start N vs) H _ I hq) (fun fl s' hs => ?_) fun e s' hs => hs
  cases fl with
  | ret u =>
    obtain ⟨v, σ', H', J, rv, q⟩ := hs
    exact ⟨v, H', J.os, J.bare, J.base, J.hok, rv, q⟩
  | next =>
    obtain ⟨σ', H', J, q⟩ := hs
    exact ⟨V.non, H', J.os, J.bare, J.base, J.hok, rfl, q⟩
  | brk =>
    obtain ⟨_, _, _, q⟩ := hs
    exact q.elim
  | cont =>
    obtain ⟨_, _, _, q⟩ := hs
    exact q.elim
end
section
variable {X : Cx} {k : Nat} {f : Addr} {fd : FuncData} {ps : List Str} {sp : Addr × Obj → Sp} {x : Str} {p : Addr × Obj} {q pos : Pos} {e : Expr} {es : List Expr} {t : TA}
/-- f(e, ..) in the suite of p -/
theorem pe_callP (F : FnP X.prog X.w X.K X.mg X.base k f fd ps sp) (hr : RoomH k X.A) (hot : Hot1 X.A p) (hp : p ∈ X.pn) (hg : Gl X x) (hm : X.mg x = some (.ref f)) (hk : PySem.W.keepIn X.K (.ref f) = true) (hb : Binds X.K fd ps [])
    (ha : PA X (e :: es) t) (hdb : (x == ("__debug__" : Str)) = false := by decide) (he : starEach (e :: es) X.env = (false, eval e X.env) :: starEach es X.env := by rfl)
    (hpl : (backTo pos (starEach es X.env)).any (·.1) = false := by rfl) : PE X (.Call (.Name x q) (e :: es) [] pos) (tCall (sp p) [] E0 t) := by
  refine ⟨fun pins s σ H Q I h => ?_⟩
  refine wpAny_Call_Name_kw (ld_glob I hg hm ?_ hdb)
  refine PySem.W.callWith_K (h₀ := X.base) I.ok.mod.kin hk ?_ he hpl
  refine thn (ha.run pos pins s σ H _ I h) fun us s1 ⟨vs, H1, I1, r, q0⟩ => ⟨I1.kIn, ?_⟩
  have q1 : sp p (vs ++ []) H1 Q E0 := q0
  rw [List.append_nil] at q1
  have hl : us.length = ps.length := by
    rw [← r.length]
    exact F.len _ _ _ _ _ q1
  have bb := hb s1 us I1.kIn (by rw [List.append_nil]; exact hl)
  rw [List.append_nil] at bb
  have P1 := I1.pin p (List.mem_append_left _ hp)
  have hpin : PinOk X.stack H1 s1 p := ⟨P1.1, P1.2.1, fun hm => (List.mem_cons.mp (I1.stkSub p.1 hm)).elim P1.2.2.1 P1.2.2.2.1, P1.2.2.2.2⟩
  refine wpAny_call (codeAny_mono (F.run X.A X.stack s1 H1 ⟨us, []⟩ us vs Q E0 p hr hot hpin I1.env0 bb r q1) fun r s' hq => ?_)
  cases r with
  | error e => exact hq.elim
  | ok fl =>
    cases fl with
    | ret u => exact I1.after hq
    | next => exact hq.elim
    | brk => exact hq.elim
    | cont => exact hq.elim
/-- the pinned exception: its class, its own dict -/
structure PinX (p : Addr × Obj) (C : Addr) (d : Option Addr) : Prop where
  cls : p.2.cls = .ref C
  dic : p.2.dict = d
  dat : ∃ vs, p.2.data = .fields vs
/-- isinstance(e, c), e the pinned exception -/
def rIsP (K : PySem.W.Frag) (p : Addr × Obj) : List V → Hp → VK → Prop := fun xs H Q => ∃ (C : Addr) (d : Option Addr) (c : V) (u : Value) (b : Bool), xs = [.ref p.1, c] ∧ PinX p C d ∧
  (∀ z, d = some z → ∃ fs, H z = some (.xd fs)) ∧ XIs K C ∧ ClsV c u ∧ PySem.W.kitOne K (.ref C) u = some b ∧ Q (.bl b) H
theorem notCls_fields {o : Obj} (h : ∃ vs, o.data = .fields vs) : PySem.W.notCls o = true := by
  obtain ⟨vs, e⟩ := h
  unfold PySem.W.notCls
  rw [e]
theorem pin_none {s : Shared} {C : Addr} (h : PinX p C none) (g : s.heap.get? p.1 = some p.2) : PySem.W.InstAt s.heap p.1 p.2 C none := ⟨g, h.cls, notCls_fields h.dat, by rw [h.dic]; exact True.intro⟩
theorem pin_some {s : Shared} {C z : Addr} {o : Obj} (h : PinX p C (some z)) (g : s.heap.get? p.1 = some p.2) (ho : s.heap.get? z = some o) : PySem.W.InstAt s.heap p.1 p.2 C (some o) := ⟨g, h.cls, notCls_fields h.dat, by rw [h.dic]; exact ho⟩
theorem call_isP (hp : p ∈ X.pn) : CallR X (.builtin "isinstance") (rIsP X.K p) := by
  intro pins s σ H xs us Q I r h
  obtain ⟨C, d, c, u, b, rfl, px, ed, T, k, e, q⟩ := h
  obtain ⟨u1, u2, rfl, r1, r2⟩ := vals2 r
  have e2 := k.eq r2
  subst e2
  cases (show u1 = Value.ref p.1 from r1)
  have g := (I.pin p (List.mem_append_left _ hp)).1
  cases d with
  | none => exact PySem.W.kia_one (PySem.W.kitx_exc T.cl T.ga T.gg T.exC T.cC T.hn T.tk T.mo) I.kIn (pin_none px g) e (fun z => nomatch z) fun tk => ⟨.bl b, H, I.tok tk, rfl, q⟩
  | some d =>
    obtain ⟨fs, ez⟩ := ed d rfl
    obtain ⟨mA, hns, hr⟩ := (show ObjOk X.prog X.w H s.heap d (.xd fs) from I.hok d _ ez)
    obtain ⟨od, ho, hl⟩ := lookIn_ns hns
    exact PySem.W.kia_one (PySem.W.kitx_exc T.cl T.ga T.gg T.exC T.cC T.hn T.tk T.mo) I.kIn (pin_some px g ho) e (fun z => nomatch z) fun tk => ⟨.bl b, H, I.tok tk, rfl, q⟩
/-- e.f, e the pinned exception -/
def tPFld (K : PySem.W.Frag) (p : Addr × Obj) (f : Str) (te : TE) : TE := fun σ H Q => te σ H fun x H1 => ∃ (C d : Addr) (fs : List (Str × V)) (v : V), x = .ref p.1 ∧ PinX p C (some d) ∧ H1 d = some (.xd fs) ∧ fs.lookup f = some v ∧
  (∃ B newId initId bmB, EC K C B newId initId bmB) ∧ PySem.W.findIn K (.ref C) f = some none ∧ Q v H1
theorem pe_pfld {te : TE} {n : Str} (hp : p ∈ X.pn) (he : PE X e te) (hb : attributeBase e n X.env (eval e X.env) = eval e X.env := by rfl) : PE X (.Attribute e n pos) (tPFld X.K p n te) := by
  refine ⟨fun pins s σ H Q I h => ?_⟩
  refine attr_of hb (thn (he.run pins s σ H _ I h) fun u s1 hh => ?_)
  obtain ⟨x, H1, I1, rx, C, d, fs, v, ex, px, ed, el, ⟨B, newId, initId, bmB, T⟩, nf, q⟩ := hh
  subst ex
  obtain rfl : u = Value.ref p.1 := rx
  have g := (I1.pin p (List.mem_append_left _ hp)).1
  obtain ⟨mA, hns, hr⟩ := (show ObjOk X.prog X.w H1 s1.heap d (.xd fs) from I1.hok d _ ed)
  obtain ⟨od, ho, hl⟩ := lookIn_ns hns
  obtain ⟨u, hu, ru⟩ := RelO.some_of (v := v) (o := mA n) (by rw [← el]; exact hr n)
  exact HandSPX.exc_get I1.kIn (pin_some px g ho) T.ga T.gg T.exC (PySem.W.findObj_own T.hd nf rfl (by rw [hl, hu])) (handed_of ru) ⟨v, H1, I1.tok _, ru, q⟩
end
end L2.XK

set_option Elab.async false
set_option maxRecDepth 100000
set_option maxHeartbeats 4000000
namespace L2.K06
open PySem PySem.Spec PyProof.Rows
def topS (i : Nat) : Stmt := PySem.Challenge.pw_holdhouse_k05_rows_that_are_none.main.body.getD i (.Pass ⟨0, 0, 0, 0⟩)
abbrev sLawPool : Stmt := topS 71
abbrev NLawPool : List Str := ["_law_cells", "_law_turn", "_law_cell", "_law_seed", "_law_each"]
theorem scLawPool : FnScope NLawPool ["_law_cells", "_law_turn"] (defScope sLawPool) := ⟨rfl, rfl, rfl, by decide +kernel, rfl, by decide +kernel, by decide +kernel⟩
abbrev sLawDraw : Stmt := topS 72
abbrev NLawDraw : List Str := ["_law_pool_here", "_law_many", "_law_digit"]
theorem scLawDraw : FnScope NLawDraw ["_law_pool_here", "_law_many"] (defScope sLawDraw) := ⟨rfl, rfl, rfl, by decide +kernel, rfl, by decide +kernel, by decide +kernel⟩
abbrev sLawPick : Stmt := topS 73
abbrev NLawPick : List Str := ["_law_pool_here", "_law_things"]
theorem scLawPick : FnScope NLawPick ["_law_pool_here", "_law_things"] (defScope sLawPick) := ⟨rfl, rfl, rfl, by decide +kernel, rfl, by decide +kernel, by decide +kernel⟩
abbrev sLawError : Stmt := topS 77
abbrev NLawError : List Str := ["_law_e", "_law_sorts", "_law_bases", "_law_at"]
theorem scLawError : FnScope NLawError ["_law_e"] (defScope sLawError) := ⟨rfl, rfl, rfl, by decide +kernel, rfl, by decide +kernel, by decide +kernel⟩
abbrev sLawField : Stmt := topS 78
abbrev NLawField : List Str := ["_law_e", "_law_at"]
theorem scLawField : FnScope NLawField ["_law_e", "_law_at"] (defScope sLawField) := ⟨rfl, rfl, rfl, by decide +kernel, rfl, by decide +kernel, by decide +kernel⟩
/-- where the defs and the classes stand -/
structure Adr where
  LawPool : Addr
  fdLawPool : FuncData
  LawDraw : Addr
  fdLawDraw : FuncData
  LawPick : Addr
  fdLawPick : FuncData
  LawError : Addr
  fdLawError : FuncData
  LawField : Addr
  fdLawField : FuncData
  InvalidNumber : Addr
  InvalidText : Addr
  InvalidName : Addr
  InvalidWish : Addr
  InvalidIndex : Addr
  InvalidPicture : Addr
  InvalidEvent : Addr
  InvalidHearing : Addr
  NotAHouse : Addr
  InvalidStands : Addr
  InvalidKeys : Addr
  InvalidRows : Addr
  WrongLine : Addr
  InvalidWeaving : Addr
  UnknownName : Addr
  InUse : Addr
  NothingToUndo : Addr
  TooMany : Addr
  Broken : Addr
  WrongValue : Addr
  WrongState : Addr
  NoAnswer : Addr
  iInvalidNumber : Addr
  iInvalidText : Addr
  iInvalidName : Addr
  iInvalidWish : Addr
  iInvalidIndex : Addr
  iInvalidPicture : Addr
  iInvalidEvent : Addr
  iInvalidHearing : Addr
  iNotAHouse : Addr
  iInvalidStands : Addr
  iInvalidKeys : Addr
  iInvalidRows : Addr
  iWrongLine : Addr
  iInvalidWeaving : Addr
  iUnknownName : Addr
  iInUse : Addr
  iNothingToUndo : Addr
  iTooMany : Addr
  iBroken : Addr
/-- the classes in their order: the class, the one above it, the built-in one -/
def sorts (a : Adr) : Nat → Option (Addr × Addr × String)
  | 0 => some (a.InvalidNumber, a.WrongValue, "ValueError")
  | 1 => some (a.InvalidText, a.WrongValue, "ValueError")
  | 2 => some (a.InvalidName, a.WrongValue, "ValueError")
  | 3 => some (a.InvalidWish, a.WrongValue, "ValueError")
  | 4 => some (a.InvalidIndex, a.WrongValue, "ValueError")
  | 5 => some (a.InvalidPicture, a.WrongValue, "ValueError")
  | 6 => some (a.InvalidEvent, a.WrongValue, "ValueError")
  | 7 => some (a.InvalidHearing, a.WrongValue, "ValueError")
  | 8 => some (a.NotAHouse, a.WrongValue, "ValueError")
  | 9 => some (a.InvalidStands, a.WrongValue, "ValueError")
  | 10 => some (a.InvalidKeys, a.WrongValue, "ValueError")
  | 11 => some (a.InvalidRows, a.WrongValue, "ValueError")
  | 12 => some (a.WrongLine, a.WrongValue, "ValueError")
  | 13 => some (a.InvalidWeaving, a.WrongValue, "ValueError")
  | 14 => some (a.UnknownName, a.WrongState, "LookupError")
  | 15 => some (a.InUse, a.WrongState, "LookupError")
  | 16 => some (a.NothingToUndo, a.WrongState, "LookupError")
  | 17 => some (a.TooMany, a.NoAnswer, "ArithmeticError")
  | 18 => some (a.Broken, a.NoAnswer, "ArithmeticError")
  | _ => none
def owns (a : Adr) : List Addr := [a.InvalidNumber, a.InvalidText, a.InvalidName, a.InvalidWish, a.InvalidIndex, a.InvalidPicture, a.InvalidEvent, a.InvalidHearing, a.NotAHouse, a.InvalidStands, a.InvalidKeys, a.InvalidRows, a.WrongLine, a.InvalidWeaving, a.UnknownName, a.InUse, a.NothingToUndo, a.TooMany, a.Broken, a.WrongValue, a.WrongState, a.NoAnswer]
/-- what the top has written -/
structure Txt (K : PySem.W.Frag) (mg : Str → Option Value) (a : Adr) : Prop where
  gLawPool : mg "_law_pool" = some (.ref a.LawPool)
  kLawPool : PySem.W.keepIn K (.ref a.LawPool) = true
  fLawPool : Fun K "_law_pool" "_law_pool" sLawPool a.LawPool a.fdLawPool
  bLawPool : Binds K a.fdLawPool ["_law_cells", "_law_turn"] []
  gLawDraw : mg "_law_draw" = some (.ref a.LawDraw)
  kLawDraw : PySem.W.keepIn K (.ref a.LawDraw) = true
  fLawDraw : Fun K "_law_draw" "_law_draw" sLawDraw a.LawDraw a.fdLawDraw
  bLawDraw : Binds K a.fdLawDraw ["_law_pool_here", "_law_many"] []
  gLawPick : mg "_law_pick" = some (.ref a.LawPick)
  kLawPick : PySem.W.keepIn K (.ref a.LawPick) = true
  fLawPick : Fun K "_law_pick" "_law_pick" sLawPick a.LawPick a.fdLawPick
  bLawPick : Binds K a.fdLawPick ["_law_pool_here", "_law_things"] []
  gLawError : mg "_law_error" = some (.ref a.LawError)
  kLawError : PySem.W.keepIn K (.ref a.LawError) = true
  fLawError : Fun K "_law_error" "_law_error" sLawError a.LawError a.fdLawError
  bLawError : Binds K a.fdLawError ["_law_e"] []
  gLawField : mg "_law_field" = some (.ref a.LawField)
  kLawField : PySem.W.keepIn K (.ref a.LawField) = true
  fLawField : Fun K "_law_field" "_law_field" sLawField a.LawField a.fdLawField
  bLawField : Binds K a.fdLawField ["_law_e", "_law_at"] []
  blen : mg "len" = none
  bint : mg "int" = none
  babs : mg "abs" = none
  bdivmod : mg "divmod" = none
  bmin : mg "min" = none
  bmax : mg "max" = none
  bisinstance : mg "isinstance" = none
  bValueError : mg "ValueError" = none
  bLookupError : mg "LookupError" = none
  bArithmeticError : mg "ArithmeticError" = none
  gInvalidNumber : mg "InvalidNumber" = some (.ref a.InvalidNumber)
  gInvalidText : mg "InvalidText" = some (.ref a.InvalidText)
  gInvalidName : mg "InvalidName" = some (.ref a.InvalidName)
  gInvalidWish : mg "InvalidWish" = some (.ref a.InvalidWish)
  gInvalidIndex : mg "InvalidIndex" = some (.ref a.InvalidIndex)
  gInvalidPicture : mg "InvalidPicture" = some (.ref a.InvalidPicture)
  gInvalidEvent : mg "InvalidEvent" = some (.ref a.InvalidEvent)
  gInvalidHearing : mg "InvalidHearing" = some (.ref a.InvalidHearing)
  gNotAHouse : mg "NotAHouse" = some (.ref a.NotAHouse)
  gInvalidStands : mg "InvalidStands" = some (.ref a.InvalidStands)
  gInvalidKeys : mg "InvalidKeys" = some (.ref a.InvalidKeys)
  gInvalidRows : mg "InvalidRows" = some (.ref a.InvalidRows)
  gWrongLine : mg "WrongLine" = some (.ref a.WrongLine)
  gInvalidWeaving : mg "InvalidWeaving" = some (.ref a.InvalidWeaving)
  gUnknownName : mg "UnknownName" = some (.ref a.UnknownName)
  gInUse : mg "InUse" = some (.ref a.InUse)
  gNothingToUndo : mg "NothingToUndo" = some (.ref a.NothingToUndo)
  gTooMany : mg "TooMany" = some (.ref a.TooMany)
  gBroken : mg "Broken" = some (.ref a.Broken)
  gWrongValue : mg "WrongValue" = some (.ref a.WrongValue)
  gWrongState : mg "WrongState" = some (.ref a.WrongState)
  gNoAnswer : mg "NoAnswer" = some (.ref a.NoAnswer)
  cInvalidNumber : XC.ClsGv K a.InvalidNumber a.iInvalidNumber "ValueError" "ValueError.__new__" "ValueError.__init__" [.type "ValueError", .type "Exception", .type "BaseException", .type "object"]
  cInvalidText : XC.ClsGv K a.InvalidText a.iInvalidText "ValueError" "ValueError.__new__" "ValueError.__init__" [.type "ValueError", .type "Exception", .type "BaseException", .type "object"]
  cInvalidName : XC.ClsGv K a.InvalidName a.iInvalidName "ValueError" "ValueError.__new__" "ValueError.__init__" [.type "ValueError", .type "Exception", .type "BaseException", .type "object"]
  cInvalidWish : XC.ClsGv K a.InvalidWish a.iInvalidWish "ValueError" "ValueError.__new__" "ValueError.__init__" [.type "ValueError", .type "Exception", .type "BaseException", .type "object"]
  cInvalidIndex : XC.ClsGv K a.InvalidIndex a.iInvalidIndex "ValueError" "ValueError.__new__" "ValueError.__init__" [.type "ValueError", .type "Exception", .type "BaseException", .type "object"]
  cInvalidPicture : XC.ClsGv K a.InvalidPicture a.iInvalidPicture "ValueError" "ValueError.__new__" "ValueError.__init__" [.type "ValueError", .type "Exception", .type "BaseException", .type "object"]
  cInvalidEvent : XC.ClsGv K a.InvalidEvent a.iInvalidEvent "ValueError" "ValueError.__new__" "ValueError.__init__" [.type "ValueError", .type "Exception", .type "BaseException", .type "object"]
  cInvalidHearing : XC.ClsGv K a.InvalidHearing a.iInvalidHearing "ValueError" "ValueError.__new__" "ValueError.__init__" [.type "ValueError", .type "Exception", .type "BaseException", .type "object"]
  cNotAHouse : XC.ClsGv K a.NotAHouse a.iNotAHouse "ValueError" "ValueError.__new__" "ValueError.__init__" [.type "ValueError", .type "Exception", .type "BaseException", .type "object"]
  cInvalidStands : XC.ClsIx K a.InvalidStands a.iInvalidStands "ValueError" "ValueError.__new__" "ValueError.__init__" [.type "ValueError", .type "Exception", .type "BaseException", .type "object"]
  cInvalidKeys : XC.ClsIx K a.InvalidKeys a.iInvalidKeys "ValueError" "ValueError.__new__" "ValueError.__init__" [.type "ValueError", .type "Exception", .type "BaseException", .type "object"]
  cInvalidRows : XC.ClsIx K a.InvalidRows a.iInvalidRows "ValueError" "ValueError.__new__" "ValueError.__init__" [.type "ValueError", .type "Exception", .type "BaseException", .type "object"]
  cWrongLine : XC.ClsIx K a.WrongLine a.iWrongLine "ValueError" "ValueError.__new__" "ValueError.__init__" [.type "ValueError", .type "Exception", .type "BaseException", .type "object"]
  cInvalidWeaving : XC.ClsIx K a.InvalidWeaving a.iInvalidWeaving "ValueError" "ValueError.__new__" "ValueError.__init__" [.type "ValueError", .type "Exception", .type "BaseException", .type "object"]
  cUnknownName : XC.ClsGv K a.UnknownName a.iUnknownName "LookupError" "LookupError.__new__" "LookupError.__init__" [.type "LookupError", .type "Exception", .type "BaseException", .type "object"]
  cInUse : XC.ClsIx K a.InUse a.iInUse "LookupError" "LookupError.__new__" "LookupError.__init__" [.type "LookupError", .type "Exception", .type "BaseException", .type "object"]
  cNothingToUndo : XC.ClsNo K a.NothingToUndo a.iNothingToUndo "LookupError" "LookupError.__new__" "LookupError.__init__" [.type "LookupError", .type "Exception", .type "BaseException", .type "object"]
  cTooMany : XC.ClsMo K a.TooMany a.iTooMany "ArithmeticError" "ArithmeticError.__new__" "ArithmeticError.__init__" [.type "ArithmeticError", .type "Exception", .type "BaseException", .type "object"]
  cBroken : XC.ClsBr K a.Broken a.iBroken "ArithmeticError" "ArithmeticError.__new__" "ArithmeticError.__init__" [.type "ArithmeticError", .type "Exception", .type "BaseException", .type "object"]
  sort : ∀ i C W B, sorts a i = some (C, W, B) → XK.Srt K C W B
  cls : ∀ C, C ∈ owns a → XK.isOwn K C
  nd : (owns a).Nodup
end L2.K06

set_option Elab.async false
set_option maxRecDepth 100000
set_option maxHeartbeats 4000000
namespace L2.K06
open PySem PySem.Spec PyProof.Rows XK Evl
section
variable {P : Program} {w : World} {K : PySem.W.Frag} {mg : Str → Option Value} {base : Heap} {a : Adr}
theorem ok_draw (T : Txt K mg a) : FnOk P w K mg base CX0 1 a.LawDraw a.fdLawDraw ["_law_pool_here", "_law_many"] spDraw := by
  refine T.fLawDraw.ok scLawDraw (fun vs H Q E h => ?_) (fun cdv A outer s H vs Q E hr h => ?_)
  · obtain ⟨p, n, m, rfl, _⟩ := h
    rfl
  · obtain ⟨p, n, m, rfl, ⟨x, y, z, hp, x0, x1, y0, z0, z1⟩, hn, hm1, hm2, k⟩ := h
    refine ⟨_, (pss_cons (ps_asg (pe_op op_add (pe_ix ix_list (pv 0) pe_int (fun _ _ => rfl)) pe_int) (pg_sub (pv 0) pe_int set_list))
      (pss_cons (ps_if (pt_cmpR op_gt (pe_ix ix_list (pv 0) pe_int (fun _ _ => rfl)) pe_int (nomark _)) (pss_cons (ps_asg (pe_callB call_divmod (by rfl) T.bdivmod (by decide +kernel) (pa_cons (pe_ix ix_list (pv 0) pe_int (fun _ _ => rfl)) (pa_cons (pv 1) pa_nil))) (pg_tup (by rfl) (pgs_cons (pg_sub (pv 0) pe_int set_list) (pgs_cons (pg_name (i := 2) scLawDraw.nd rfl (by first | exact Or.inl rfl | exact Or.inr rfl)) pgs_nil))))
      (pss_one (ps_ret (by exact (pv 2))))) pss_nil)
      (pss_cons (ps_asg (pe_op op_mod (pe_callTy call_int1 (by rfl) T.bint (by decide +kernel) (pa_cons (pe_op op_add (pe_op op_add (pe_op op_mul (pe_ix ix_list (pv 0) pe_int (fun _ _ => rfl)) pe_int) (pe_op op_mul (pe_op op_mul (pe_ix ix_list (pv 0) pe_int (fun _ _ => rfl)) (pe_ix ix_list (pv 0) pe_int (fun _ _ => rfl))) pe_int)) pe_int) pa_nil)) pe_int) (pg_sub (pv 0) pe_int set_list))
      (pss_one (ps_ret (by exact (pe_op op_mod (pe_callTy call_int1 (by rfl) T.bint (by decide +kernel) (pa_cons (pe_op op_add (pe_op op_fdiv (pe_ix ix_list (pv 0) pe_int (fun _ _ => rfl)) pe_int) (pe_op op_fdiv (pe_ix ix_list (pv 0) pe_int (fun _ _ => rfl)) pe_int)) pa_nil)) (pv 1)))))))), ?_⟩
    refine s_setL (j := 2) hp (ev_op (ev_op (ev_var rfl) ev_c (rv_ixL (sq_of hp) rfl)) ev_c rv_I0) (ev_var rfl) ev_c (by show 2 < 3; decide) fun H1 e1 => ?_
    have hp1 : (upd H1 p (.lst [.int x, .int y, .int (z + 1)])) p = some (.lst [.int x, .int y, .int (z + 1)]) := upd_same
    refine s_if (b := decide (0 < y)) (et_test (ev_op (ev_op (ev_var rfl) ev_c (rv_ixL (sq_of hp1) rfl)) ev_c rv_I0)) (fun hy H2 e2 => ?_) fun hy H2 e2 => ?_
    · have hp2 := e2 _ _ hp1
      have y0' : 0 < y := of_decide_eq_true hy
      refine ⟨_, rfl, p, _, _, _, rfl, rfl, sq_of hp2, rfl, _, rfl, y, m, rfl, ⟨by omega, by omega⟩, fun q hq => ?_⟩
      have np : p ≠ q := ne_of_none hp2 hq
      refine ⟨q, _, rfl, st_of upd_same, rfl, ?_⟩
      have hp3 : (upd H2 q (.tup [.int (y / m), .int (y % m)])) p = some (.lst [.int x, .int y, .int (z + 1)]) := by
        rw [upd_ne np]
        exact hp2
      refine ⟨_, _, rfl, _, rfl, p, _, 1, 1, rfl, rfl, hp3, rfl, _, _, rfl, rfl, _, rfl, ?_⟩
      refine k _ _ ⟨x, y / m, z + 1, upd_same, x0, x1, Int.ediv_nonneg y0 (by omega), by omega, by omega⟩ ?_ (Int.emod_nonneg _ (by omega)) (Int.emod_lt_of_pos _ (by omega))
      exact (((But.of e1).trans But.upd).trans (But.of e2)).trans ((But.of (Ex.new hq)).trans But.upd)
    · have hp2 := e2 _ _ hp1
      have v0 : ∀ H', Ev (tVar 0) (start NLawDraw [.ref p, .int m]) H' (.ref p) := fun H' => ev_var rfl
      have v1 : ∀ H', Ev (tVar 1) (start NLawDraw [.ref p, .int m]) H' (.int m) := fun H' => ev_var rfl
      have e0 : ∀ i : Int, RC (fun xs H Q => (∃ i, xs = [V.int i] ∧ Q (V.int i) H) ∨ ∃ k, xs = [V.bl k] ∧ Q (V.int (if k = true then 1 else 0)) H) [.int i] H2 (.int i) :=
        fun i H4 e4 R q => .inl ⟨_, rfl, q _ (Ex.refl _)⟩
      dsimp only [tNext, tSeq]
      refine s_setL (j := 0) (v := .int ((x * 39373 + (z + 1) * (z + 1) * 7919 + 271) % 2147483563)) hp2 ?_ (v0 _) ev_c (by show 0 < 3; decide) fun H3 e3 => ?_
      · refine ev_op (ev_cb (ea_cons ?_ ea_nil) (e0 _)) ev_c (rv_I (show (0 : Int) < 2147483563 by decide))
        refine ev_op (ev_op ?_ ?_ rv_I0) ev_c rv_I0
        · exact ev_op (ev_op (v0 _) ev_c (rv_ixL (sq_of hp2) rfl)) ev_c (rv_I (.inr ⟨by decide, by decide⟩))
        · refine ev_op (ev_op (ev_op (v0 _) ev_c (rv_ixL (sq_of hp2) rfl)) (ev_op (v0 _) ev_c (rv_ixL (sq_of hp2) rfl)) (rv_I ?_)) ev_c (rv_I (.inr ⟨by decide, by decide⟩))
          exact .inl ⟨by omega, by omega⟩
      obtain ⟨u, hu⟩ : ∃ u, u = (x * 39373 + (z + 1) * (z + 1) * 7919 + 271) % 2147483563 := ⟨_, rfl⟩
      have u0 : 0 ≤ u := by rw [hu]; exact Int.emod_nonneg _ (by decide)
      have u1 : u < 2147483563 := by rw [hu]; exact Int.emod_lt_of_pos _ (by decide)
      have hp4 : (upd H3 p (.lst [.int u, .int y, .int (z + 1)])) p = some (.lst [.int u, .int y, .int (z + 1)]) := upd_same
      rw [← hu]
      dsimp only [List.set]
      have e0' : ∀ i : Int, RC (fun xs H Q => (∃ i, xs = [V.int i] ∧ Q (V.int i) H) ∨ ∃ k, xs = [V.bl k] ∧ Q (V.int (if k = true then 1 else 0)) H) [.int i] (upd H3 p (.lst [.int u, .int y, .int (z + 1)])) (.int i) :=
        fun i H4 e4 R q => .inl ⟨_, rfl, q _ (Ex.refl _)⟩
      refine s_ret (v := .int ((u / 97 + u / 65521) % m)) ?_ fun H5 e5 => ?_
      · refine ev_op (ev_cb (ea_cons ?_ ea_nil) (e0' _)) (v1 _) (rv_I (show (0 : Int) < m by omega))
        refine ev_op ?_ ?_ rv_I0
        · exact ev_op (ev_op (v0 _) ev_c (rv_ixL (sq_of hp4) rfl)) ev_c (rv_I ⟨by decide, by decide⟩)
        · exact ev_op (ev_op (v0 _) ev_c (rv_ixL (sq_of hp4) rfl)) ev_c (rv_I ⟨by decide, by decide⟩)
      refine k _ _ ⟨u, y, z + 1, e5 _ _ hp4, u0, u1, y0, by omega, by omega⟩ ?_ (Int.emod_nonneg _ (by omega)) (Int.emod_lt_of_pos _ (by omega))
      exact ((((But.of e1).trans But.upd).trans (But.of e2)).trans (But.of e3)).trans (But.upd.trans (But.of e5))
end
end L2.K06

set_option Elab.async false
set_option maxRecDepth 100000
set_option maxHeartbeats 4000000
namespace L2.K06
open PySem PySem.Spec PyProof.Rows XK Evl
section
variable {P : Program} {w : World} {K : PySem.W.Frag} {mg : Str → Option Value} {base : Heap} {a : Adr}
theorem ok_pick (T : Txt K mg a) : FnOk P w K mg base CX0 2 a.LawPick a.fdLawPick ["_law_pool_here", "_law_things"] spPick := by
  have GLawDraw : FnOk P w K mg base CX0 1 a.LawDraw a.fdLawDraw ["_law_pool_here", "_law_many"] spDraw := ok_draw T
  refine T.fLawPick.ok scLawPick (fun vs H Q E h => ?_) (fun cdv A outer s H vs Q E hr h => ?_)
  · obtain ⟨p, l, n, xs, rfl, _⟩ := h
    rfl
  · obtain ⟨p, l, n, xs, rfl, hp, hn, np, hl, h1, h2, k⟩ := h
    refine ⟨_, (pss_one (ps_ret (by exact (pe_ix ix_list (pv 1) (pe_call GLawDraw (hr.mono (by decide)) (by rfl) T.gLawDraw T.kLawDraw T.bLawDraw .nil pass0 (pa_cons (pv 0) (pa_cons (pe_callB call_len (by rfl) T.blen (by decide +kernel) (pa_cons (pv 1) pa_nil)) pa_nil))) (fun _ _ => rfl))))), ?_⟩
    refine ⟨_, rfl, _, rfl, _, rfl, _, xs.length, rfl, .inl ⟨xs, SqL.of hl, rfl⟩, p, n, _, rfl, hp, hn, by omega, by omega, fun H' r hp' b r0 r1 => ?_⟩
    obtain ⟨j, rfl⟩ := Int.eq_ofNat_of_zero_le r0
    have hj : j < xs.length := by omega
    refine ⟨l, xs, (j : Int), xs[j], rfl, rfl, SqL.of (b l _ np hl), ?_, ?_⟩
    · exact atI_nat (List.getElem?_eq_getElem hj)
    · exact k H' _ hp' b (List.getElem_mem hj)
theorem ok_pool (T : Txt K mg a) : FnOk P w K mg base CX0 1 a.LawPool a.fdLawPool ["_law_cells", "_law_turn"] (spPool K) := by
  refine T.fLawPool.ok scLawPool (fun vs H Q E h => ?_) (fun cdv A outer s H vs Q E hr h => ?_)
  · obtain ⟨c, ns, k, rfl, _⟩ := h
    rfl
  · obtain ⟨c, ns, k, rfl, hS, hlen, k0, k1, q⟩ := h
    refine ⟨_, (pss_cons (ps_set (i := 2) scLawPool.nd rfl (by first | exact Or.inl rfl | exact Or.inr rfl) (by exact (pe_ifExp (pt_cmpR op_lt (pv 1) (pe_callB call_len (by rfl) T.blen (by decide +kernel) (pa_cons (pv 0) pa_nil)) (nomark _)) (pe_callTy call_int1 (by rfl) T.bint (by decide +kernel) (pa_cons (pe_ix ix_list (pv 0) (pv 1) (fun _ _ => rfl)) pa_nil)) pe_int)))
      (pss_cons (ps_set (i := 3) scLawPool.nd rfl (by first | exact Or.inl rfl | exact Or.inr rfl) (by exact (pe_op op_mul pe_int (pe_op op_add (pv 1) pe_int))))
      (pss_cons (ps_for PassesOwn.never rfl (pi_list (pe_slice sl_list (pv 0) po_none (po_some pe_int))) (pg_name (i := 4) scLawPool.nd rfl (by first | exact Or.inl rfl | exact Or.inr rfl)) (pss_one (ps_set (i := 3) scLawPool.nd rfl (by first | exact Or.inl rfl | exact Or.inr rfl) (by exact (pe_op op_mod (pe_callTy call_int1 (by rfl) T.bint (by decide +kernel) (pa_cons (pe_op op_add (pe_op op_mul (pv 3) pe_int) (pv 4)) pa_nil)) pe_int)))))
      (pss_one (ps_ret (by exact (pe_lst (pa_cons (pe_op op_mod (pe_callTy call_int1 (by rfl) T.bint (by decide +kernel) (pa_cons (pe_op op_add (pe_op op_mul (pv 3) pe_int) (pv 2)) pa_nil)) pe_int) (pa_cons (pe_ifExp (PW.pt (pw_or (pt_cmpR op_lt (pv 2) pe_int (nomark _)) (pw_or1 (pt_cmpR op_ge (pv 2) (pe_op op_pow pe_int pe_int) (nomark _))))) (pe_callB call_abs (by rfl) T.babs (by decide +kernel) (pa_cons (pv 2) pa_nil)) pe_int) (pa_cons pe_int pa_nil)))))))))), ?_⟩
    obtain ⟨x, hx⟩ : ∃ x : Int, x = if k < (ns.length : Int) then ns.getD k.toNat 0 else 0 := ⟨_, rfl⟩
    have hS' : ∀ H', Ex H H' → SqL K H' c (ns.map V.int) := fun H' e => ex_l e hS
    have st : start NLawPool [.ref c, .int k] = [some (.ref c), some (.int k), none, none, none] := rfl
    have e0 : ∀ (i : Int) H', RC (fun xs H Q => (∃ i, xs = [V.int i] ∧ Q (V.int i) H) ∨ ∃ k, xs = [V.bl k] ∧ Q (V.int (if k = true then 1 else 0)) H) [.int i] H' (.int i) :=
      fun i H' H4 e4 R q => .inl ⟨_, rfl, q _ (Ex.refl _)⟩
    refine s_asg (v := .int x) ?_ fun H1 e1 => ?_
    · refine ev_if (b := decide (k < (ns.length : Int))) ?_ (fun hb => ?_) fun hb => ?_
      · refine et_test (ev_op (ev_var rfl) (ev_cb (ea_cons (ev_var rfl) ea_nil) (z := .int (ns.length : Int)) ?_) rv_I0)
        intro H2 e2 R hR
        exact ⟨_, ns.length, rfl, .inl ⟨_, hS' H2 e2, by rw [List.length_map]⟩, hR _ (Ex.refl _)⟩
      · have hk := of_decide_eq_true hb
        rw [if_pos hk] at hx
        refine ev_cb (ea_cons (ev_op (ev_var rfl) (ev_var rfl) (rv_ixL hS ?_)) ea_nil) (e0 x H)
        obtain ⟨j, rfl⟩ := Int.eq_ofNat_of_zero_le k0
        refine atI_nat ?_
        have hj : j < ns.length := by omega
        have ex : x = ns[j] := by
          rw [hx]
          simp [List.getD, hj]
        rw [List.getElem?_map, List.getElem?_eq_getElem hj, ex]
        rfl
      · have hk := of_decide_eq_false hb
        rw [if_neg hk] at hx
        rw [hx]
        exact ev_c
    · refine s_asg (v := .int (15485863 * (k + 1))) (ev_op ev_c (ev_op (ev_var rfl) ev_c rv_I0) (rv_I (.inl ⟨by decide, by decide⟩))) fun H2 e2 => ?_
      refine s_forNL (xs := cutV (ns.map V.int) none (some 3)) (el_sl (ev_var rfl) eo_none (eo_some ev_c) (hS' H2 (e1.trans e2)))
        (fun p i σ H' => ∃ (sd : Int) (v : Option V), σ = [some (.ref c), some (.int k), some (.int x), some (.int sd), v] ∧ 0 ≤ sd ∧ sd < 1000000000000 ∧ Ex H H' ∧ H' p = some (.lst (cutV (ns.map V.int) none (some 3)))) ?_ ?_ ?_ ?_
      · intro p H3 hp e3 h3
        exact ⟨_, _, rfl, by omega, by omega, (e1.trans e2).trans e3, h3⟩
      · rintro p i σ H' hi ⟨_, _, _, _, _, _, h3⟩
        exact sq_of h3
      · rintro p i y σ H' hy ⟨sd, v, rfl, s0, s1, e3, h3⟩
        obtain ⟨z, rfl⟩ : ∃ z, y = V.int z := by
          have h1 : y ∈ ns.map V.int := List.mem_of_mem_drop (List.mem_of_mem_take (List.mem_of_getElem? hy))
          obtain ⟨z, _, ez⟩ := List.mem_map.mp h1
          exact ⟨z, ez.symm⟩
        show tAsg _ _ _ _ _
        refine s_asg (v := .int ((sd * 69997 + z) % 2147483563)) ?_ fun H4 e4 => ?_
        · refine ev_op (ev_cb (ea_cons (ev_op (ev_op (ev_var rfl) ev_c (rv_I (.inr ⟨by decide, by decide⟩))) (ev_var rfl) rv_I0) ea_nil) (e0 _ _)) ev_c (rv_I (show (0 : Int) < 2147483563 by decide))
        · exact ⟨_, _, rfl, Int.emod_nonneg _ (by decide), Int.lt_trans (Int.emod_lt_of_pos _ (by decide)) (by decide), e3.trans e4, e4 _ _ h3⟩
      · rintro p σ H' ⟨sd, v, rfl, s0, s1, e3, h3⟩
        obtain ⟨b, hb, b0⟩ : ∃ b : Int, b = (if decide (x < 0) || decide ((10 : Int) ^ 18 ≤ x) then (if x < 0 then -x else x) else 0) ∧ 0 ≤ b := by
          refine ⟨_, rfl, ?_⟩
          split
          · split <;> omega
          · omega
        dsimp only
        refine s_retL (xs := [.int ((sd * 69997 + x) % 2147483563), .int b, .int 0]) ?_ fun p2 H4 hp2 e4 h4 => ?_
        · refine el_lst (ea_cons ?_ (ea_cons ?_ (ea_cons ev_c ea_nil))) (by show 3 ≤ 100000; decide)
          · refine ev_op (ev_cb (ea_cons (ev_op (ev_op (ev_var rfl) ev_c (rv_I (.inr ⟨by decide, by decide⟩))) (ev_var rfl) rv_I0) ea_nil) (e0 _ _)) ev_c (rv_I (show (0 : Int) < 2147483563 by decide))
          · refine ev_if (b := decide (x < 0) || decide ((10 : Int) ^ 18 ≤ x)) (et_or (et_test (ev_op (ev_var rfl) ev_c rv_I0)) fun _ => et_test (ev_op (ev_var rfl) (ev_op ev_c ev_c (rv_I ⟨by decide, by decide, by decide⟩)) rv_I0)) (fun hc => ?_) fun hc => ?_
            · rw [hc, if_pos rfl] at hb
              rw [hb]
              exact ev_cb (ea_cons (ev_var rfl) ea_nil) fun H5 e5 R hR => ⟨_, rfl, hR _ (Ex.refl _)⟩
            · rw [hc, if_neg Bool.false_ne_true] at hb
              rw [hb]
              exact ev_c
        · refine q _ _ (fresh_back e3 hp2) (e3.trans e4) ⟨_, b, 0, h4, Int.emod_nonneg _ (by decide), Int.emod_lt_of_pos _ (by decide), b0, by omega, by omega⟩
end
end L2.K06

set_option Elab.async false
set_option maxRecDepth 100000
set_option maxHeartbeats 4000000
set_option linter.all false
namespace L2.K06
open PySem PySem.Spec PyProof.Rows XK Evl XC L2H
/-- the pinned p: an exception of the i-th class -/
structure ErrAt (a : Adr) (H : Hp) (p : Addr × Obj) (i : Nat) (C : Addr) (fs : List (Str × V)) : Prop where
  lt : i < 19
  is : ∃ W B, sorts a i = some (C, W, B)
  at_ : ∃ d, PinX p C d ∧ (∀ z, d = some z → H z = some (.xd fs)) ∧ (i ≠ 16 → d ≠ none)
theorem ErrAt.ex {a : Adr} {H H' : Hp} {p : Addr × Obj} {i : Nat} {C : Addr} {fs : List (Str × V)} (h : ErrAt a H p i C fs) (x : Ex H H') : ErrAt a H' p i C fs := by
  obtain ⟨d, h1, h2, h3⟩ := h.at_
  exact ⟨h.lt, h.is, d, h1, fun z hz => x _ _ (h2 z hz), h3⟩
theorem ev_isP {K : PySem.W.Frag} {σ : L2.St} {H : Hp} {ta : TE} {p : Addr × Obj} {C : Addr} {d : Option Addr} {fs : List (Str × V)} {c : V} {u : Value} {b : Bool} (ha : Ev ta σ H (.ref p.1)) (px : PinX p C d) (hd : ∀ z, d = some z → H z = some (.xd fs)) (X : XIs K C)
    (k : ClsV c u) (kit : PySem.W.kitOne K (.ref C) u = some b) : Ev (tCB (rIsP K p) (tCons ta (tCons (tC c) tNil))) σ H (.bl b) := fun H1 e1 Q q =>
  ha H1 e1 _ fun H2 e2 => ⟨C, d, c, u, b, rfl, px, fun z hz => ⟨fs, (e1.trans e2) _ _ (hd z hz)⟩, X, k, kit, q H2 e2⟩
theorem unitsH {k : Nat} {A : Around} (r : RoomH k A) : A.units + 64 < cLine := by
  have := r.un
  omega
theorem nodupAt {l : List Addr} (h : l.Nodup) {i j : Nat} {x y : Addr} (hi : l[i]? = some x) (hj : l[j]? = some y) : decide (y = x) = decide (j = i) := by
  obtain ⟨i1, i2⟩ := List.getElem?_eq_some_iff.mp hi
  obtain ⟨j1, j2⟩ := List.getElem?_eq_some_iff.mp hj
  by_cases e : j = i
  · subst e
    rw [hi] at hj
    cases hj
    simp
  · have : y ≠ x := fun z => e ((List.getElem_inj h).mp (j2.trans (z.trans i2.symm)))
    simp [e, this]
/-- the base class's place among the classes -/
def up (i : Nat) : Nat := if i < 14 then 19 else if i < 17 then 20 else 21
theorem sorts_at (a : Adr) {i : Nat} {C W : Addr} {B : String} (h : sorts a i = some (C, W, B)) : (owns a)[i]? = some C ∧ (owns a)[up i]? = some W ∧ B = (if i < 14 then "ValueError" else if i < 17 then "LookupError" else "ArithmeticError") ∧ i < 19 := by
  match i, h with
  | 0, h => cases h; exact ⟨rfl, rfl, rfl, by decide⟩
  | 1, h => cases h; exact ⟨rfl, rfl, rfl, by decide⟩
  | 2, h => cases h; exact ⟨rfl, rfl, rfl, by decide⟩
  | 3, h => cases h; exact ⟨rfl, rfl, rfl, by decide⟩
  | 4, h => cases h; exact ⟨rfl, rfl, rfl, by decide⟩
  | 5, h => cases h; exact ⟨rfl, rfl, rfl, by decide⟩
  | 6, h => cases h; exact ⟨rfl, rfl, rfl, by decide⟩
  | 7, h => cases h; exact ⟨rfl, rfl, rfl, by decide⟩
  | 8, h => cases h; exact ⟨rfl, rfl, rfl, by decide⟩
  | 9, h => cases h; exact ⟨rfl, rfl, rfl, by decide⟩
  | 10, h => cases h; exact ⟨rfl, rfl, rfl, by decide⟩
  | 11, h => cases h; exact ⟨rfl, rfl, rfl, by decide⟩
  | 12, h => cases h; exact ⟨rfl, rfl, rfl, by decide⟩
  | 13, h => cases h; exact ⟨rfl, rfl, rfl, by decide⟩
  | 14, h => cases h; exact ⟨rfl, rfl, rfl, by decide⟩
  | 15, h => cases h; exact ⟨rfl, rfl, rfl, by decide⟩
  | 16, h => cases h; exact ⟨rfl, rfl, rfl, by decide⟩
  | 17, h => cases h; exact ⟨rfl, rfl, rfl, by decide⟩
  | 18, h => cases h; exact ⟨rfl, rfl, rfl, by decide⟩
  | n + 19, h => cases h
/-- what isinstance says of the i-th class's exception and the j-th class -/
theorem isAt {K : PySem.W.Frag} {mg : Str → Option Value} {a : Adr} (T : Txt K mg a) {i j : Nat} {C W D : Addr} {B : String} (h : sorts a i = some (C, W, B)) (hj : (owns a)[j]? = some D) :
    PySem.W.kitOne K (.ref C) (.ref D) = some (decide (j = i ∨ j = up i)) := by
  obtain ⟨h1, h2, _, _⟩ := sorts_at a h
  rw [kit_own (T.sort _ _ _ _ h) (T.cls D (List.mem_of_getElem? hj))]
  have e1 := nodupAt T.nd h1 hj
  have e2 := nodupAt T.nd h2 hj
  have e1' : (D = C) ↔ (j = i) := by simpa using e1
  have e2' : (D = W) ↔ (j = up i) := by simpa using e2
  simp only [e1', e2']
def bsAt (i : Nat) : List Bool := (List.range 19).map fun j => decide (j = i ∨ j = up i)
def bb (i : Nat) : List Bool := [decide (i < 14), decide (13 < i ∧ i < 17), decide (16 < i)]
theorem b19 : ∀ i, i < 19 → decide (19 = i ∨ 19 = up i) = decide (i < 14) := by decide
theorem b20 : ∀ i, i < 19 → decide (20 = i ∨ 20 = up i) = decide (13 < i ∧ i < 17) := by decide
theorem b21 : ∀ i, i < 19 → decide (21 = i ∨ 21 = up i) = decide (16 < i) := by decide
theorem c0 : ∀ i, i < 19 → [if i < 14 then "ValueError" else if i < 17 then "LookupError" else "ArithmeticError", "Exception", "BaseException", "object"].contains "ValueError" = decide (i < 14) := by decide +kernel
theorem c1 : ∀ i, i < 19 → [if i < 14 then "ValueError" else if i < 17 then "LookupError" else "ArithmeticError", "Exception", "BaseException", "object"].contains "LookupError" = decide (13 < i ∧ i < 17) := by decide +kernel
theorem c2 : ∀ i, i < 19 → [if i < 14 then "ValueError" else if i < 17 then "LookupError" else "ArithmeticError", "Exception", "BaseException", "object"].contains "ArithmeticError" = decide (16 < i) := by decide +kernel
theorem d0 : ∀ i : Nat, i < 19 → V.bl (decide ((i : Int) < 14)) = V.bl (decide (i < 14)) := by decide
theorem d1 : ∀ i : Nat, i < 19 → V.bl (decide ((13 : Int) < i) && decide ((i : Int) < 17)) = V.bl (decide (13 < i ∧ i < 17)) := by decide
theorem d2 : ∀ i : Nat, i < 19 → V.bl (decide ((16 : Int) < i)) = V.bl (decide (16 < i)) := by decide
theorem cnt : ∀ i, i < 19 → (((bsAt i).map V.bl).countP fun z => eqV z (.bl true)) = 1 := by decide +kernel
theorem idx : ∀ i, i < 19 → (bsAt i)[i]? = some true ∧ ∀ m, m < i → (bsAt i)[m]? = some false := by decide +kernel
theorem flatBools : ∀ bs : List Bool, (bs.map V.bl).all flatV = true
  | [] => rfl
  | b :: bs => by rw [List.map_cons, List.all_cons, flatBools bs]; rfl
theorem ev_count {K : PySem.W.Frag} {σ : L2.St} {H : Hp} {ta : TE} {l : Addr} {bs : List Bool} (ha : Ev ta σ H (.ref l)) (hl : H l = some (.lst (bs.map V.bl))) :
    Ev (tBM K "list" (rCountF K) ta (tCons (tC (.bl true)) tNil)) σ H (.int (((bs.map V.bl).countP fun z => eqV z (.bl true) : Nat) : Int)) := fun H1 e Q q =>
  ha H1 e _ fun H2 e2 => ⟨.inl ⟨rfl, _, sq_of ((e.trans e2) _ _ hl)⟩, l, _, .bl true, rfl, rfl, sq_of ((e.trans e2) _ _ hl), rfl, flatBools bs, q H2 e2⟩
theorem ev_index {K : PySem.W.Frag} {σ : L2.St} {H : Hp} {ta : TE} {l : Addr} {bs : List Bool} {i : Nat} (ha : Ev ta σ H (.ref l)) (hl : H l = some (.lst (bs.map V.bl)))
    (hi : bs[i]? = some true ∧ ∀ m, m < i → bs[m]? = some false) : Ev (tBM K "list" (rIndex K) ta (tCons (tC (.bl true)) tNil)) σ H (.int (i : Int)) := fun H1 e Q q =>
  ha H1 e _ fun H2 e2 => ⟨.inl ⟨rfl, _, sq_of ((e.trans e2) _ _ hl)⟩, l, _, .bl true, i, .bl true, rfl, rfl, sq_of ((e.trans e2) _ _ hl), rfl, flatBools bs,
    by rw [List.getElem?_map, hi.1]; rfl, rfl, fun m z hm hz => by
      rw [List.getElem?_map, hi.2 m hm] at hz
      cases hz
      rfl, q H2 e2⟩
def spError (a : Adr) (p : Addr × Obj) : Sp := fun vs H Q _ => ∃ (i : Nat) (C : Addr) (fs : List (Str × V)), vs = [.ref p.1] ∧ ErrAt a H p i C fs ∧ ∀ H', Ex H H' → Q (.int (i : Int)) H'
section
variable {P : Program} {w : World} {K : PySem.W.Frag} {mg : Str → Option Value} {base : Heap} {a : Adr}
theorem ev_own (T : Txt K mg a) {ta : TE} {σ : L2.St} {H : Hp} {p : Addr × Obj} {i : Nat} {C : Addr} {fs : List (Str × V)} (hE : ErrAt a H p i C fs) (ha : Ev ta σ H (.ref p.1)) (j : Nat) {D : Addr} (hj : (owns a)[j]? = some D) :
    Ev (tCB (rIsP K p) (tCons ta (tCons (tC (.ref D)) tNil))) σ H (.bl (decide (j = i ∨ j = up i))) := by
  obtain ⟨W, B, h⟩ := hE.is
  obtain ⟨d, h1, h2, _⟩ := hE.at_
  exact ev_isP ha h1 h2 (T.sort _ _ _ _ h).is (.own D) (isAt T h hj)
theorem ev_blt (T : Txt K mg a) {ta : TE} {σ : L2.St} {H : Hp} {p : Addr × Obj} {i : Nat} {C : Addr} {fs : List (Str × V)} (hE : ErrAt a H p i C fs) (ha : Ev ta σ H (.ref p.1)) (N : String) {b : Bool} (hm : PySem.W.kitMeta N = true)
    (hb : [if i < 14 then "ValueError" else if i < 17 then "LookupError" else "ArithmeticError", "Exception", "BaseException", "object"].contains N = b) :
    Ev (tCB (rIsP K p) (tCons ta (tCons (tC (.ty N)) tNil))) σ H (.bl b) := by
  obtain ⟨W, B, h⟩ := hE.is
  obtain ⟨d, h1, h2, _⟩ := hE.at_
  have S := T.sort _ _ _ _ h
  have k := kit_blt S hm
  obtain ⟨_, _, rfl, _⟩ := sorts_at a h
  rw [hb] at k
  exact ev_isP ha h1 h2 S.is (.ty N) k
theorem ok_error (T : Txt K mg a) : FnP P w K mg base 1 a.LawError a.fdLawError ["_law_e"] (spError a) := by
  refine Fun.okP T.fLawError scLawError (fun p vs H Q E h => ?_) (fun cdv A outer s H vs Q E p hot hr h => ?_)
  · obtain ⟨i, C, fs, rfl, _⟩ := h
    rfl
  · obtain ⟨i, C, fs, rfl, hE, q⟩ := h
    refine ⟨_, (pss_cons (ps_set (i := 1) scLawError.nd rfl (by first | exact Or.inl rfl | exact Or.inr rfl) (by exact (pe_lst (pa_cons (pe_callB (XK.call_isP (p := p) (by exact List.mem_cons_self)) (by rfl) T.bisinstance (by decide +kernel) (pa_cons (pv 0) (pa_cons (pe_glob (v := .ref a.InvalidNumber) rfl T.gInvalidNumber rfl) pa_nil))) (pa_cons (pe_callB (XK.call_isP (p := p) (by exact List.mem_cons_self)) (by rfl) T.bisinstance (by decide +kernel) (pa_cons (pv 0) (pa_cons (pe_glob (v := .ref a.InvalidText) rfl T.gInvalidText rfl) pa_nil))) (pa_cons (pe_callB (XK.call_isP (p := p) (by exact List.mem_cons_self)) (by rfl) T.bisinstance (by decide +kernel) (pa_cons (pv 0) (pa_cons (pe_glob (v := .ref a.InvalidName) rfl T.gInvalidName rfl) pa_nil))) pa_nil))))))
      (pss_cons (ps_set (i := 1) scLawError.nd rfl (by first | exact Or.inl rfl | exact Or.inr rfl) (by exact (pe_op op_cat (pv 1) (pe_lst (pa_cons (pe_callB (XK.call_isP (p := p) (by exact List.mem_cons_self)) (by rfl) T.bisinstance (by decide +kernel) (pa_cons (pv 0) (pa_cons (pe_glob (v := .ref a.InvalidWish) rfl T.gInvalidWish rfl) pa_nil))) (pa_cons (pe_callB (XK.call_isP (p := p) (by exact List.mem_cons_self)) (by rfl) T.bisinstance (by decide +kernel) (pa_cons (pv 0) (pa_cons (pe_glob (v := .ref a.InvalidIndex) rfl T.gInvalidIndex rfl) pa_nil))) (pa_cons (pe_callB (XK.call_isP (p := p) (by exact List.mem_cons_self)) (by rfl) T.bisinstance (by decide +kernel) (pa_cons (pv 0) (pa_cons (pe_glob (v := .ref a.InvalidPicture) rfl T.gInvalidPicture rfl) pa_nil))) pa_nil)))))))
      (pss_cons (ps_set (i := 1) scLawError.nd rfl (by first | exact Or.inl rfl | exact Or.inr rfl) (by exact (pe_op op_cat (pv 1) (pe_lst (pa_cons (pe_callB (XK.call_isP (p := p) (by exact List.mem_cons_self)) (by rfl) T.bisinstance (by decide +kernel) (pa_cons (pv 0) (pa_cons (pe_glob (v := .ref a.InvalidEvent) rfl T.gInvalidEvent rfl) pa_nil))) (pa_cons (pe_callB (XK.call_isP (p := p) (by exact List.mem_cons_self)) (by rfl) T.bisinstance (by decide +kernel) (pa_cons (pv 0) (pa_cons (pe_glob (v := .ref a.InvalidHearing) rfl T.gInvalidHearing rfl) pa_nil))) (pa_cons (pe_callB (XK.call_isP (p := p) (by exact List.mem_cons_self)) (by rfl) T.bisinstance (by decide +kernel) (pa_cons (pv 0) (pa_cons (pe_glob (v := .ref a.NotAHouse) rfl T.gNotAHouse rfl) pa_nil))) pa_nil)))))))
      (pss_cons (ps_set (i := 1) scLawError.nd rfl (by first | exact Or.inl rfl | exact Or.inr rfl) (by exact (pe_op op_cat (pv 1) (pe_lst (pa_cons (pe_callB (XK.call_isP (p := p) (by exact List.mem_cons_self)) (by rfl) T.bisinstance (by decide +kernel) (pa_cons (pv 0) (pa_cons (pe_glob (v := .ref a.InvalidStands) rfl T.gInvalidStands rfl) pa_nil))) (pa_cons (pe_callB (XK.call_isP (p := p) (by exact List.mem_cons_self)) (by rfl) T.bisinstance (by decide +kernel) (pa_cons (pv 0) (pa_cons (pe_glob (v := .ref a.InvalidKeys) rfl T.gInvalidKeys rfl) pa_nil))) (pa_cons (pe_callB (XK.call_isP (p := p) (by exact List.mem_cons_self)) (by rfl) T.bisinstance (by decide +kernel) (pa_cons (pv 0) (pa_cons (pe_glob (v := .ref a.InvalidRows) rfl T.gInvalidRows rfl) pa_nil))) pa_nil)))))))
      (pss_cons (ps_set (i := 1) scLawError.nd rfl (by first | exact Or.inl rfl | exact Or.inr rfl) (by exact (pe_op op_cat (pv 1) (pe_lst (pa_cons (pe_callB (XK.call_isP (p := p) (by exact List.mem_cons_self)) (by rfl) T.bisinstance (by decide +kernel) (pa_cons (pv 0) (pa_cons (pe_glob (v := .ref a.WrongLine) rfl T.gWrongLine rfl) pa_nil))) (pa_cons (pe_callB (XK.call_isP (p := p) (by exact List.mem_cons_self)) (by rfl) T.bisinstance (by decide +kernel) (pa_cons (pv 0) (pa_cons (pe_glob (v := .ref a.InvalidWeaving) rfl T.gInvalidWeaving rfl) pa_nil))) (pa_cons (pe_callB (XK.call_isP (p := p) (by exact List.mem_cons_self)) (by rfl) T.bisinstance (by decide +kernel) (pa_cons (pv 0) (pa_cons (pe_glob (v := .ref a.UnknownName) rfl T.gUnknownName rfl) pa_nil))) pa_nil)))))))
      (pss_cons (ps_set (i := 1) scLawError.nd rfl (by first | exact Or.inl rfl | exact Or.inr rfl) (by exact (pe_op op_cat (pv 1) (pe_lst (pa_cons (pe_callB (XK.call_isP (p := p) (by exact List.mem_cons_self)) (by rfl) T.bisinstance (by decide +kernel) (pa_cons (pv 0) (pa_cons (pe_glob (v := .ref a.InUse) rfl T.gInUse rfl) pa_nil))) (pa_cons (pe_callB (XK.call_isP (p := p) (by exact List.mem_cons_self)) (by rfl) T.bisinstance (by decide +kernel) (pa_cons (pv 0) (pa_cons (pe_glob (v := .ref a.NothingToUndo) rfl T.gNothingToUndo rfl) pa_nil))) (pa_cons (pe_callB (XK.call_isP (p := p) (by exact List.mem_cons_self)) (by rfl) T.bisinstance (by decide +kernel) (pa_cons (pv 0) (pa_cons (pe_glob (v := .ref a.TooMany) rfl T.gTooMany rfl) pa_nil))) pa_nil)))))))
      (pss_cons (ps_expr (pe_bm PySem.F.plainAttrs_list PySem.F.slot_list_append PySem.F.type_list_append mt_append (pv 1) (pa_cons (pe_callB (XK.call_isP (p := p) (by exact List.mem_cons_self)) (by rfl) T.bisinstance (by decide +kernel) (pa_cons (pv 0) (pa_cons (pe_glob (v := .ref a.Broken) rfl T.gBroken rfl) pa_nil))) pa_nil)))
      (pss_cons (ps_set (i := 2) scLawError.nd rfl (by first | exact Or.inl rfl | exact Or.inr rfl) (by exact (pe_lst (pa_cons (pe_callB (XK.call_isP (p := p) (by exact List.mem_cons_self)) (by rfl) T.bisinstance (by decide +kernel) (pa_cons (pv 0) (pa_cons (pe_glob (v := .ref a.WrongValue) rfl T.gWrongValue rfl) pa_nil))) (pa_cons (pe_callB (XK.call_isP (p := p) (by exact List.mem_cons_self)) (by rfl) T.bisinstance (by decide +kernel) (pa_cons (pv 0) (pa_cons (pe_glob (v := .ref a.WrongState) rfl T.gWrongState rfl) pa_nil))) (pa_cons (pe_callB (XK.call_isP (p := p) (by exact List.mem_cons_self)) (by rfl) T.bisinstance (by decide +kernel) (pa_cons (pv 0) (pa_cons (pe_glob (v := .ref a.NoAnswer) rfl T.gNoAnswer rfl) pa_nil))) pa_nil))))))
      (pss_cons (ps_if (pt_cmpR (op_neD (unitsH hr)) (pe_lst (pa_cons (pe_callB (XK.call_isP (p := p) (by exact List.mem_cons_self)) (by rfl) T.bisinstance (by decide +kernel) (pa_cons (pv 0) (pa_cons (pe_bltn (v := .ty "ValueError") (by rfl) T.bValueError (by decide +kernel) rfl) pa_nil))) (pa_cons (pe_callB (XK.call_isP (p := p) (by exact List.mem_cons_self)) (by rfl) T.bisinstance (by decide +kernel) (pa_cons (pv 0) (pa_cons (pe_bltn (v := .ty "LookupError") (by rfl) T.bLookupError (by decide +kernel) rfl) pa_nil))) (pa_cons (pe_callB (XK.call_isP (p := p) (by exact List.mem_cons_self)) (by rfl) T.bisinstance (by decide +kernel) (pa_cons (pv 0) (pa_cons (pe_bltn (v := .ty "ArithmeticError") (by rfl) T.bArithmeticError (by decide +kernel) rfl) pa_nil))) pa_nil)))) (pv 2) (nomark _)) (pss_one (ps_ret (by exact (pe_un un_neg pe_int)))) pss_nil)
      (pss_cons (ps_if (pt_cmpR op_ne (pe_bm PySem.F.plainAttrs_list PySem.F.slot_list_count PySem.F.type_list_count XK.mt_countB (pv 1) (pa_cons pe_bl pa_nil)) pe_int (nomark _)) (pss_one (ps_ret (by exact (pe_un un_neg pe_int)))) pss_nil)
      (pss_cons (ps_set (i := 3) scLawError.nd rfl (by first | exact Or.inl rfl | exact Or.inr rfl) (by exact (pe_bm PySem.F.plainAttrs_list PySem.F.slot_list_index PySem.F.type_list_index mt_index (pv 1) (pa_cons pe_bl pa_nil))))
      (pss_one (ps_ret (by exact (pe_ifExp (pt_cmpR (op_eqD (unitsH hr)) (pv 2) (pe_lst (pa_cons (pe_cmpR op_lt (pv 3) pe_int (nomark _)) (pa_cons (pe_chain op_lt op_lt pe_int (pv 3) pe_int) (pa_cons (pe_cmpR op_gt (pv 3) pe_int (nomark _)) pa_nil)))) (nomark _)) (pv 3) (pe_un un_neg pe_int)))))))))))))))), ?_⟩
    have v0 : ∀ σ' : L2.St, σ'[0]? = some (some (.ref p.1)) → ∀ H', Ev (tVar 0) σ' H' (.ref p.1) := fun σ' h H' => ev_var h
    have hE0 := hE
    refine s_asgL (xs := [.bl (decide (0 = i ∨ 0 = up i)), .bl (decide (1 = i ∨ 1 = up i)), .bl (decide (2 = i ∨ 2 = up i))]) (el_lst (ea_cons (by exact ev_own T hE (v0 _ (by rfl) _) 0 rfl) (ea_cons (by exact ev_own T hE (v0 _ (by rfl) _) 1 rfl) (ea_cons (by exact ev_own T hE (v0 _ (by rfl) _) 2 rfl) ea_nil))) (by show 3 ≤ 100000; decide)) fun p1 H1 n1 x1 h1 => ?_
    replace hE := hE0.ex x1
    dsimp only
    refine s_asgL (xs := [.bl (decide (0 = i ∨ 0 = up i)), .bl (decide (1 = i ∨ 1 = up i)), .bl (decide (2 = i ∨ 2 = up i))] ++ [.bl (decide (3 = i ∨ 3 = up i)), .bl (decide (4 = i ∨ 4 = up i)), .bl (decide (5 = i ∨ 5 = up i))]) (el_cat (ev_var (by rfl)) h1 (el_lst (ea_cons (by exact ev_own T hE (v0 _ (by rfl) _) 3 rfl) (ea_cons (by exact ev_own T hE (v0 _ (by rfl) _) 4 rfl) (ea_cons (by exact ev_own T hE (v0 _ (by rfl) _) 5 rfl) ea_nil))) (by show 3 ≤ 100000; decide)) (by show 3 + 3 ≤ 100000; decide)) fun p2 H2 n2 y2 h2 => ?_
    have x2 := x1.trans y2
    replace hE := hE0.ex x2
    dsimp only
    refine s_asgL (xs := [.bl (decide (0 = i ∨ 0 = up i)), .bl (decide (1 = i ∨ 1 = up i)), .bl (decide (2 = i ∨ 2 = up i)), .bl (decide (3 = i ∨ 3 = up i)), .bl (decide (4 = i ∨ 4 = up i)), .bl (decide (5 = i ∨ 5 = up i))] ++ [.bl (decide (6 = i ∨ 6 = up i)), .bl (decide (7 = i ∨ 7 = up i)), .bl (decide (8 = i ∨ 8 = up i))]) (el_cat (ev_var (by rfl)) h2 (el_lst (ea_cons (by exact ev_own T hE (v0 _ (by rfl) _) 6 rfl) (ea_cons (by exact ev_own T hE (v0 _ (by rfl) _) 7 rfl) (ea_cons (by exact ev_own T hE (v0 _ (by rfl) _) 8 rfl) ea_nil))) (by show 3 ≤ 100000; decide)) (by show 6 + 3 ≤ 100000; decide)) fun p3 H3 n3 y3 h3 => ?_
    have x3 := x2.trans y3
    replace hE := hE0.ex x3
    dsimp only
    refine s_asgL (xs := [.bl (decide (0 = i ∨ 0 = up i)), .bl (decide (1 = i ∨ 1 = up i)), .bl (decide (2 = i ∨ 2 = up i)), .bl (decide (3 = i ∨ 3 = up i)), .bl (decide (4 = i ∨ 4 = up i)), .bl (decide (5 = i ∨ 5 = up i)), .bl (decide (6 = i ∨ 6 = up i)), .bl (decide (7 = i ∨ 7 = up i)), .bl (decide (8 = i ∨ 8 = up i))] ++ [.bl (decide (9 = i ∨ 9 = up i)), .bl (decide (10 = i ∨ 10 = up i)), .bl (decide (11 = i ∨ 11 = up i))]) (el_cat (ev_var (by rfl)) h3 (el_lst (ea_cons (by exact ev_own T hE (v0 _ (by rfl) _) 9 rfl) (ea_cons (by exact ev_own T hE (v0 _ (by rfl) _) 10 rfl) (ea_cons (by exact ev_own T hE (v0 _ (by rfl) _) 11 rfl) ea_nil))) (by show 3 ≤ 100000; decide)) (by show 9 + 3 ≤ 100000; decide)) fun p4 H4 n4 y4 h4 => ?_
    have x4 := x3.trans y4
    replace hE := hE0.ex x4
    dsimp only
    refine s_asgL (xs := [.bl (decide (0 = i ∨ 0 = up i)), .bl (decide (1 = i ∨ 1 = up i)), .bl (decide (2 = i ∨ 2 = up i)), .bl (decide (3 = i ∨ 3 = up i)), .bl (decide (4 = i ∨ 4 = up i)), .bl (decide (5 = i ∨ 5 = up i)), .bl (decide (6 = i ∨ 6 = up i)), .bl (decide (7 = i ∨ 7 = up i)), .bl (decide (8 = i ∨ 8 = up i)), .bl (decide (9 = i ∨ 9 = up i)), .bl (decide (10 = i ∨ 10 = up i)), .bl (decide (11 = i ∨ 11 = up i))] ++ [.bl (decide (12 = i ∨ 12 = up i)), .bl (decide (13 = i ∨ 13 = up i)), .bl (decide (14 = i ∨ 14 = up i))]) (el_cat (ev_var (by rfl)) h4 (el_lst (ea_cons (by exact ev_own T hE (v0 _ (by rfl) _) 12 rfl) (ea_cons (by exact ev_own T hE (v0 _ (by rfl) _) 13 rfl) (ea_cons (by exact ev_own T hE (v0 _ (by rfl) _) 14 rfl) ea_nil))) (by show 3 ≤ 100000; decide)) (by show 12 + 3 ≤ 100000; decide)) fun p5 H5 n5 y5 h5 => ?_
    have x5 := x4.trans y5
    replace hE := hE0.ex x5
    dsimp only
    refine s_asgL (xs := [.bl (decide (0 = i ∨ 0 = up i)), .bl (decide (1 = i ∨ 1 = up i)), .bl (decide (2 = i ∨ 2 = up i)), .bl (decide (3 = i ∨ 3 = up i)), .bl (decide (4 = i ∨ 4 = up i)), .bl (decide (5 = i ∨ 5 = up i)), .bl (decide (6 = i ∨ 6 = up i)), .bl (decide (7 = i ∨ 7 = up i)), .bl (decide (8 = i ∨ 8 = up i)), .bl (decide (9 = i ∨ 9 = up i)), .bl (decide (10 = i ∨ 10 = up i)), .bl (decide (11 = i ∨ 11 = up i)), .bl (decide (12 = i ∨ 12 = up i)), .bl (decide (13 = i ∨ 13 = up i)), .bl (decide (14 = i ∨ 14 = up i))] ++ [.bl (decide (15 = i ∨ 15 = up i)), .bl (decide (16 = i ∨ 16 = up i)), .bl (decide (17 = i ∨ 17 = up i))]) (el_cat (ev_var (by rfl)) h5 (el_lst (ea_cons (by exact ev_own T hE (v0 _ (by rfl) _) 15 rfl) (ea_cons (by exact ev_own T hE (v0 _ (by rfl) _) 16 rfl) (ea_cons (by exact ev_own T hE (v0 _ (by rfl) _) 17 rfl) ea_nil))) (by show 3 ≤ 100000; decide)) (by show 15 + 3 ≤ 100000; decide)) fun p6 H6 n6 y6 h6 => ?_
    have x6 := x5.trans y6
    replace hE := hE0.ex x6
    dsimp only
    refine s_app (xs := [.bl (decide (0 = i ∨ 0 = up i)), .bl (decide (1 = i ∨ 1 = up i)), .bl (decide (2 = i ∨ 2 = up i)), .bl (decide (3 = i ∨ 3 = up i)), .bl (decide (4 = i ∨ 4 = up i)), .bl (decide (5 = i ∨ 5 = up i)), .bl (decide (6 = i ∨ 6 = up i)), .bl (decide (7 = i ∨ 7 = up i)), .bl (decide (8 = i ∨ 8 = up i)), .bl (decide (9 = i ∨ 9 = up i)), .bl (decide (10 = i ∨ 10 = up i)), .bl (decide (11 = i ∨ 11 = up i)), .bl (decide (12 = i ∨ 12 = up i)), .bl (decide (13 = i ∨ 13 = up i)), .bl (decide (14 = i ∨ 14 = up i)), .bl (decide (15 = i ∨ 15 = up i)), .bl (decide (16 = i ∨ 16 = up i)), .bl (decide (17 = i ∨ 17 = up i))]) h6 (ev_var (by rfl)) (by exact ev_own T hE (v0 _ (by rfl) _) 18 rfl) (by show 18 < 100000; decide) fun H7 y7 => ?_
    have n6' : H p6 = none := fresh_back x5 n6
    have x7 : Ex H (upd H7 p6 (.lst ((bsAt i).map V.bl))) := Ex.mut (x6.trans y7) n6'
    have h7 : (upd H7 p6 (.lst ((bsAt i).map V.bl))) p6 = some (.lst ((bsAt i).map V.bl)) := upd_same
    obtain ⟨G, hG⟩ : ∃ G, G = upd H7 p6 (.lst ((bsAt i).map V.bl)) := ⟨_, rfl⟩
    rw [← hG] at x7 h7
    replace hE := hE0.ex x7
    have lt := hE.lt
    dsimp only
    show tSeq _ _ _ _ (upd H7 p6 (.lst ((bsAt i).map V.bl)))
    rw [← hG]
    have o19 : ∀ {H' : Hp} {σ' : L2.St}, ErrAt a H' p i C fs → σ'[0]? = some (some (.ref p.1)) → Ev (tCB (rIsP K p) (tCons (tVar 0) (tCons (tC (.ref a.WrongValue)) tNil))) σ' H' (.bl (decide (i < 14))) := fun hE' h => ev_is (ev_own T hE' (v0 _ h _) 19 rfl) (by rw [b19 i lt])
    have o20 : ∀ {H' : Hp} {σ' : L2.St}, ErrAt a H' p i C fs → σ'[0]? = some (some (.ref p.1)) → Ev (tCB (rIsP K p) (tCons (tVar 0) (tCons (tC (.ref a.WrongState)) tNil))) σ' H' (.bl (decide (13 < i ∧ i < 17))) := fun hE' h => ev_is (ev_own T hE' (v0 _ h _) 20 rfl) (by rw [b20 i lt])
    have o21 : ∀ {H' : Hp} {σ' : L2.St}, ErrAt a H' p i C fs → σ'[0]? = some (some (.ref p.1)) → Ev (tCB (rIsP K p) (tCons (tVar 0) (tCons (tC (.ref a.NoAnswer)) tNil))) σ' H' (.bl (decide (16 < i))) := fun hE' h => ev_is (ev_own T hE' (v0 _ h _) 21 rfl) (by rw [b21 i lt])
    refine s_asgL (xs := (bb i).map V.bl) (el_lst (ea_cons (o19 hE rfl) (ea_cons (o20 hE rfl) (ea_cons (o21 hE rfl) ea_nil))) (by show 3 ≤ 100000; decide)) fun p8 H8 n8 y8 h8 => ?_
    have x8 := x7.trans y8
    replace hE := hE0.ex x8
    dsimp only
    refine s_if (b := false) (et_test (ev_opL1 (xs := (bb i).map V.bl) (el_lst (ea_cons (by exact ev_blt T hE (v0 _ (by rfl) _) "ValueError" (by decide +kernel) (c0 i lt)) (ea_cons (by exact ev_blt T hE (v0 _ (by rfl) _) "LookupError" (by decide +kernel) (c1 i lt))
      (ea_cons (by exact ev_blt T hE (v0 _ (by rfl) _) "ArithmeticError" (by decide +kernel) (c2 i lt)) ea_nil))) (by show 3 ≤ 100000; decide)) (fun H' e' => ev_var (by rfl)) fun p H' hp e' => rv_neBools hp (e' _ _ h8))) (fun hb => Bool.noConfusion hb) fun _ H9 y9 => ?_
    have x9 := x8.trans y9
    have h7' := (y8.trans y9) _ _ h7
    have h8' := y9 _ _ h8
    dsimp only [tNext, tSeq]
    refine s_if (b := false) (et_test (ev_op (ev_count (bs := bsAt i) (ev_var (by rfl)) h7') ev_c (rv_val fun H1 e1 Q q => ⟨rfl, ?_⟩))) (fun hb => Bool.noConfusion hb) fun _ H10 y10 => ?_
    · rw [cnt i lt]
      exact q
    have x10 := x9.trans y10
    dsimp only [tNext, tSeq]
    refine s_asg (v := .int (i : Int)) (ev_index (bs := bsAt i) (ev_var (by rfl)) (y10 _ _ h7') (idx i lt)) fun H11 y11 => ?_
    dsimp only
    refine s_ret (v := .int (i : Int)) (ev_if (b := true) (et_test (ev_opL (xs := (bb i).map V.bl) (ev_var (by rfl)) (el_lst (ea_cons (ev_is (ev_op (ev_var (by rfl)) ev_c rv_I0) (d0 i lt)) (ea_cons (ev_is (ev_chain ev_c (ev_var (by rfl)) rv_I0 ev_c rv_I0) (d1 i lt))
      (ea_cons (ev_is (ev_op (ev_var (by rfl)) ev_c rv_I0) (d2 i lt)) ea_nil))) (by show 3 ≤ 100000; decide)) fun p H' hp e' => rv_eqBools ((y10.trans y11).trans e' _ _ h8') hp)) (fun _ => ev_var (by rfl)) fun hb => Bool.noConfusion hb) fun H12 y12 => ?_
    exact q _ (((x10.trans y11)).trans y12)
end
end L2.K06

set_option Elab.async false
set_option maxRecDepth 100000
set_option maxHeartbeats 4000000
set_option linter.all false
namespace L2.K06
open PySem PySem.Spec PyProof.Rows XK Evl XC L2H
/-- the fields of an error of the i-th class that was made with x (and y) -/
def fieldsOf (i : Nat) (x y : V) : List (Str × V) :=
  if i < 9 ∨ i = 14 then [("given", x)] else if i = 16 then [] else if i = 17 then [("most", x)] else if i = 18 then [("shown", y), ("index", x)] else [("index", x)]
/-- what _law_field hands back -/
def FieldIs (i : Nat) (x y : V) (H : Hp) (v : V) : Prop := (i = 16 → v = .non) ∧ (i = 18 → ∃ p, v = .ref p ∧ H p = some (.tup [x, y])) ∧ (i ≠ 16 → i ≠ 18 → v = x)
def spField (a : Adr) (p : Addr × Obj) : Sp := fun vs H Q _ => ∃ (i : Nat) (C : Addr) (x y : V), vs = [.ref p.1, .int (i : Int)] ∧ ErrAt a H p i C (fieldsOf i x y) ∧
  ∀ H' v, Ex H H' → FieldIs i x y H' v → Q v H'
section
variable {P : Program} {w : World} {K : PySem.W.Frag} {mg : Str → Option Value} {base : Heap} {a : Adr}
theorem noField (T : Txt K mg a) {i : Nat} {C W : Addr} {B : String} (h : sorts a i = some (C, W, B)) : (∃ B newId initId bmB, EC K C B newId initId bmB) ∧
    ((i < 9 ∨ i = 14) → PySem.W.findIn K (.ref C) "given" = some none) ∧ (i = 17 → PySem.W.findIn K (.ref C) "most" = some none) ∧ (i = 18 → PySem.W.findIn K (.ref C) "shown" = some none) ∧
    (9 ≤ i → i ≠ 14 → i ≠ 16 → i ≠ 17 → PySem.W.findIn K (.ref C) "index" = some none) := by
  match i, h with
  | 0, h => cases h; exact ⟨⟨_, _, _, _, T.cInvalidNumber.toEC⟩, fun _ => T.cInvalidNumber.n0, fun z => absurd z (by decide), fun z => absurd z (by decide), fun z1 z2 z3 z4 => by omega⟩
  | 1, h => cases h; exact ⟨⟨_, _, _, _, T.cInvalidText.toEC⟩, fun _ => T.cInvalidText.n0, fun z => absurd z (by decide), fun z => absurd z (by decide), fun z1 z2 z3 z4 => by omega⟩
  | 2, h => cases h; exact ⟨⟨_, _, _, _, T.cInvalidName.toEC⟩, fun _ => T.cInvalidName.n0, fun z => absurd z (by decide), fun z => absurd z (by decide), fun z1 z2 z3 z4 => by omega⟩
  | 3, h => cases h; exact ⟨⟨_, _, _, _, T.cInvalidWish.toEC⟩, fun _ => T.cInvalidWish.n0, fun z => absurd z (by decide), fun z => absurd z (by decide), fun z1 z2 z3 z4 => by omega⟩
  | 4, h => cases h; exact ⟨⟨_, _, _, _, T.cInvalidIndex.toEC⟩, fun _ => T.cInvalidIndex.n0, fun z => absurd z (by decide), fun z => absurd z (by decide), fun z1 z2 z3 z4 => by omega⟩
  | 5, h => cases h; exact ⟨⟨_, _, _, _, T.cInvalidPicture.toEC⟩, fun _ => T.cInvalidPicture.n0, fun z => absurd z (by decide), fun z => absurd z (by decide), fun z1 z2 z3 z4 => by omega⟩
  | 6, h => cases h; exact ⟨⟨_, _, _, _, T.cInvalidEvent.toEC⟩, fun _ => T.cInvalidEvent.n0, fun z => absurd z (by decide), fun z => absurd z (by decide), fun z1 z2 z3 z4 => by omega⟩
  | 7, h => cases h; exact ⟨⟨_, _, _, _, T.cInvalidHearing.toEC⟩, fun _ => T.cInvalidHearing.n0, fun z => absurd z (by decide), fun z => absurd z (by decide), fun z1 z2 z3 z4 => by omega⟩
  | 8, h => cases h; exact ⟨⟨_, _, _, _, T.cNotAHouse.toEC⟩, fun _ => T.cNotAHouse.n0, fun z => absurd z (by decide), fun z => absurd z (by decide), fun z1 z2 z3 z4 => by omega⟩
  | 9, h => cases h; exact ⟨⟨_, _, _, _, T.cInvalidStands.toEC⟩, fun z => absurd z (by decide), fun z => absurd z (by decide), fun z => absurd z (by decide), fun _ _ _ _ => T.cInvalidStands.n0⟩
  | 10, h => cases h; exact ⟨⟨_, _, _, _, T.cInvalidKeys.toEC⟩, fun z => absurd z (by decide), fun z => absurd z (by decide), fun z => absurd z (by decide), fun _ _ _ _ => T.cInvalidKeys.n0⟩
  | 11, h => cases h; exact ⟨⟨_, _, _, _, T.cInvalidRows.toEC⟩, fun z => absurd z (by decide), fun z => absurd z (by decide), fun z => absurd z (by decide), fun _ _ _ _ => T.cInvalidRows.n0⟩
  | 12, h => cases h; exact ⟨⟨_, _, _, _, T.cWrongLine.toEC⟩, fun z => absurd z (by decide), fun z => absurd z (by decide), fun z => absurd z (by decide), fun _ _ _ _ => T.cWrongLine.n0⟩
  | 13, h => cases h; exact ⟨⟨_, _, _, _, T.cInvalidWeaving.toEC⟩, fun z => absurd z (by decide), fun z => absurd z (by decide), fun z => absurd z (by decide), fun _ _ _ _ => T.cInvalidWeaving.n0⟩
  | 14, h => cases h; exact ⟨⟨_, _, _, _, T.cUnknownName.toEC⟩, fun _ => T.cUnknownName.n0, fun z => absurd z (by decide), fun z => absurd z (by decide), fun z1 z2 z3 z4 => by omega⟩
  | 15, h => cases h; exact ⟨⟨_, _, _, _, T.cInUse.toEC⟩, fun z => absurd z (by decide), fun z => absurd z (by decide), fun z => absurd z (by decide), fun _ _ _ _ => T.cInUse.n0⟩
  | 16, h => cases h; exact ⟨⟨_, _, _, _, T.cNothingToUndo.toEC⟩, fun z => absurd z (by decide), fun z => absurd z (by decide), fun z => absurd z (by decide), fun z1 z2 z3 z4 => by omega⟩
  | 17, h => cases h; exact ⟨⟨_, _, _, _, T.cTooMany.toEC⟩, fun z => absurd z (by decide), fun _ => T.cTooMany.n0, fun z => absurd z (by decide), fun z1 z2 z3 z4 => by omega⟩
  | 18, h => cases h; exact ⟨⟨_, _, _, _, T.cBroken.toEC⟩, fun z => absurd z (by decide), fun z => absurd z (by decide), fun _ => T.cBroken.n1, fun _ _ _ _ => T.cBroken.n0⟩
  | n + 19, h => cases h
theorem inSome : ∀ i : Nat, i < 19 → inV (.int (i : Int)) [.int 9, .int 10, .int 11, .int 12, .int 13, .int 15] = true → ¬ (i < 9 ∨ i = 14) ∧ i ≠ 16 ∧ i ≠ 17 ∧ i ≠ 18 := by decide
theorem notSome : ∀ i : Nat, i < 19 → inV (.int (i : Int)) [.int 9, .int 10, .int 11, .int 12, .int 13, .int 15] = false → ¬ (i < 9 ∨ i = 14) → i = 16 ∨ i = 17 ∨ i = 18 := by decide
/-- e.f of an error at hand -/
theorem ev_field (T : Txt K mg a) {ta : TE} {σ : L2.St} {H : Hp} {p : Addr × Obj} {i : Nat} {C : Addr} {fs : List (Str × V)} {f : Str} {v : V} (hE : ErrAt a H p i C fs) (h16 : i ≠ 16) (ha : Ev ta σ H (.ref p.1)) (hl : fs.lookup f = some v)
    (nf : PySem.W.findIn K (.ref C) f = some none) : Ev (tPFld K p f ta) σ H v := by
  obtain ⟨W, B, h⟩ := hE.is
  obtain ⟨d, h1, h2, h3⟩ := hE.at_
  cases d with
  | none => exact absurd rfl (h3 h16)
  | some d => exact fun H1 e1 Q q => ha H1 e1 _ fun H2 e2 => ⟨C, d, fs, v, rfl, h1, (e1.trans e2) _ _ (h2 d rfl), hl, (noField T h).1, nf, q H2 e2⟩
theorem ok_field (T : Txt K mg a) : FnP P w K mg base 1 a.LawField a.fdLawField ["_law_e", "_law_at"] (spField a) := by
  refine Fun.okP T.fLawField scLawField (fun p vs H Q E h => ?_) (fun cdv A outer s H vs Q E p hot hr h => ?_)
  · obtain ⟨i, C, x, y, rfl, _⟩ := h
    rfl
  · obtain ⟨i, C, x, y, rfl, hE, q⟩ := h
    refine ⟨_, (pss_cons (ps_if (pt_cmpR op_in_seq (pv 1) (pe_lst (pa_cons pe_int (pa_cons pe_int (pa_cons pe_int (pa_cons pe_int (pa_cons pe_int (pa_cons pe_int pa_nil))))))) (by rfl)) (pss_one (ps_ret (by exact (XK.pe_pfld (p := p) (by exact List.mem_cons_self) (pv 0))))) pss_nil)
      (pss_cons (ps_if (PW.pt (pw_or (pt_cmpR op_lt (pv 1) pe_int (nomark _)) (pw_or1 (pt_cmpR op_eq (pv 1) pe_int (nomark _))))) (pss_one (ps_ret (by exact (XK.pe_pfld (p := p) (by exact List.mem_cons_self) (pv 0))))) pss_nil)
      (pss_cons (ps_if (pt_cmpR op_eq (pv 1) pe_int (nomark _)) (pss_one (ps_ret (by exact pe_non))) pss_nil)
      (pss_one (ps_ret (by exact (pe_ifExp (pt_cmpR op_eq (pv 1) pe_int (nomark _)) (XK.pe_pfld (p := p) (by exact List.mem_cons_self) (pv 0)) (pe_tup (pa_cons (XK.pe_pfld (p := p) (by exact List.mem_cons_self) (pv 0)) (pa_cons (XK.pe_pfld (p := p) (by exact List.mem_cons_self) (pv 0)) pa_nil)))))))))), ?_⟩
    have lt := hE.lt
    have hE0 := hE
    obtain ⟨W, B, hs⟩ := hE.is
    obtain ⟨_, nG, nM, nS, nI⟩ := noField T hs
    refine s_if (b := inV (.int (i : Int)) [.int 9, .int 10, .int 11, .int 12, .int 13, .int 15]) (et_test (ev_opL (ev_var (by rfl)) (el_lst (ea_cons ev_c (ea_cons ev_c (ea_cons ev_c (ea_cons ev_c (ea_cons ev_c (ea_cons ev_c ea_nil)))))) (by show 6 ≤ 100000; decide)) fun p H1 hp e1 => rv_isL (sq_of hp) rfl rfl)) (fun hb H1 e1 => ?_) fun hb H1 e1 => ?_
    · obtain ⟨c1, c2, c3, c4⟩ := inSome i lt hb
      have ef : fieldsOf i x y = ([("index", x)] : List (Str × V)) := by
        unfold fieldsOf
        rw [if_neg c1, if_neg c2, if_neg c3, if_neg c4]
      refine s_ret (v := x) ?_ fun H2 e2 => q _ _ (e1.trans e2) ⟨fun z => absurd z c2, fun z => absurd z c4, fun _ _ => rfl⟩
      refine ev_field T (hE0.ex e1) c2 (ev_var (by rfl)) ?_ (nI (by omega) (by omega) c2 c3)
      rw [ef]
      rfl
    · dsimp only [tNext, tSeq]
      refine s_if (b := decide ((i : Int) < 9) || decide (V.int (i : Int) = V.int 14)) (et_or (et_test (ev_op (ev_var (by rfl)) ev_c rv_I0)) fun _ => et_test (ev_op (ev_var (by rfl)) ev_c (rv_eq rfl))) (fun hc H2 e2 => ?_) fun hc H2 e2 => ?_
      · have c1 : i < 9 ∨ i = 14 := by
          simp at hc
          omega
        have ef : fieldsOf i x y = ([("given", x)] : List (Str × V)) := by
          unfold fieldsOf
          rw [if_pos c1]
        refine s_ret (v := x) ?_ fun H3 e3 => q _ _ ((e1.trans e2).trans e3) ⟨fun z => by omega, fun z => by omega, fun _ _ => rfl⟩
        refine ev_field T (hE0.ex (e1.trans e2)) (by omega) (ev_var (by rfl)) ?_ (nG c1)
        rw [ef]
        rfl
      · have c1 : ¬ (i < 9 ∨ i = 14) := by
          simp at hc
          omega
        dsimp only [tNext, tSeq]
        refine s_if (b := decide (V.int (i : Int) = V.int 16)) (et_test (ev_op (ev_var (by rfl)) ev_c (rv_eq rfl))) (fun hd H3 e3 => ?_) fun hd H3 e3 => ?_
        · have c2 : i = 16 := by
            simp at hd
            omega
          exact s_ret (v := .non) ev_c fun H4 e4 => q _ _ (((e1.trans e2).trans e3).trans e4) ⟨fun _ => rfl, fun z => by omega, fun z => absurd c2 z⟩
        · have c2 : i ≠ 16 := by
            simp at hd
            omega
          have x3 := (e1.trans e2).trans e3
          dsimp only [tNext, tSeq]
          by_cases c3 : i = 17
          · have ef : fieldsOf i x y = ([("most", x)] : List (Str × V)) := by
              unfold fieldsOf
              rw [if_neg c1, if_neg c2, if_pos c3]
            refine s_ret (v := x) (ev_if (b := true) (et_is (et_test (ev_op (ev_var (by rfl)) ev_c (rv_eq rfl))) (by simp; omega)) (fun _ => ?_) fun z => Bool.noConfusion z) fun H4 e4 => q _ _ (x3.trans e4) ⟨fun z => absurd z c2, fun z => by omega, fun _ _ => rfl⟩
            refine ev_field T (hE0.ex x3) c2 (ev_var (by rfl)) ?_ (nM c3)
            rw [ef]
            rfl
          · have c4 : i = 18 := by
              have := notSome i lt hb c1
              omega
            have ef : fieldsOf i x y = ([("shown", y), ("index", x)] : List (Str × V)) := by
              unfold fieldsOf
              rw [if_neg c1, if_neg c2, if_neg c3, if_pos c4]
            have eu : EvU (tTup (tCons (tPFld K p "index" (tVar 0)) (tCons (tPFld K p "shown" (tVar 0)) tNil))) (start NLawField [.ref p.1, .int (i : Int)]) H3 [x, y] := by
              refine eu_tup (ea_cons ?_ (ea_cons ?_ ea_nil)) (by show 2 ≤ 100000; decide)
              · refine ev_field T (hE0.ex x3) c2 (ev_var (by rfl)) ?_ (nI (by omega) (by omega) c2 c3)
                rw [ef]
                rfl
              · refine ev_field T (hE0.ex x3) c2 (ev_var (by rfl)) ?_ (nS c4)
                rw [ef]
                rfl
            refine s_retU (xs := [x, y]) (fun H4 e4 R hR => ?_) fun p H4 hp e4 h4 => q _ _ (x3.trans e4) ⟨fun z => absurd z c2, fun _ => ⟨p, rfl, h4⟩, fun _ z => absurd c4 z⟩
            refine et_is (a := decide (V.int (i : Int) = V.int 17)) (b := false) (et_test (ev_op (ev_var (by rfl)) ev_c (rv_eq rfl))) (by simp; omega) H4 e4 _ fun H5 e5 => ?_
            exact eu H5 (e4.trans e5) R fun p H6 hp e6 h6 => hR p H6 (fresh_back e5 hp) (e5.trans e6) h6
end
end L2.K06

set_option Elab.async false
set_option maxRecDepth 100000
set_option maxHeartbeats 4000000
set_option linter.all false
/-! What repr tells of a value. -/
namespace L2.XK
open PySem PySem.Spec PyProof.Rows XC Evl
/-- t is the repr of v -/
inductive RepV (H : Hp) : V → Str → Prop
  | ref {a : Addr} {d : PyData} (h : Dx H (.ref a) d) (w : d.showable = true) (l : d.shown.length ≤ 100000) (p : d.depth ≤ 100) : RepV H (.ref a) d.shown
  | int {i : Int} (h : i.natAbs.log2 < 1920) : RepV H (.int i) (toString i)
theorem RepV.ex {H H' : Hp} {v : V} {t : Str} (e : Ex H H') (h : RepV H v t) : RepV H' v t := by
  cases h with
  | ref h w l p => exact .ref (h.same e) w l p
  | int h => exact .int h
def rRepr : List V → Hp → VK → Prop := fun xs H Q => ∃ v t, xs = [v] ∧ RepV H v t ∧ Q (.str t) H
theorem call_rep {X : Cx} (hs : Sys X.base) (hg : X.A.guards = some []) (hu : X.A.units + 200 < cLine) : CallR X (.builtin "repr") rRepr := by
  intro pins s σ H xs us Q I r h
  obtain ⟨v, t, rfl, hv, q⟩ := h
  cases hv with
  | ref h w l p => exact call_reprD hs hg hu pins s σ H _ us Q I r ⟨_, _, rfl, h, w, sz_of l, p, q⟩
  | int h => exact SkE.call_repr_int pins s σ H _ us Q I r ⟨_, rfl, h, q⟩
theorem ev_rep {σ : L2.St} {H : Hp} {ta : TE} {v : V} {t : Str} (ha : Ev ta σ H v) (h : RepV H v t) : Ev (tCB rRepr (tCons ta tNil)) σ H (.str t) := fun H1 e Q q =>
  ha H1 e _ fun H2 e2 => ⟨v, t, rfl, h.ex (e.trans e2), q H2 e2⟩
end L2.XK

set_option Elab.async false
set_option maxRecDepth 100000
set_option maxHeartbeats 4000000
set_option linter.all false
/-! try: .. except (X1, X2, X3) as n: .., all that is raised is of the three. -/
namespace L2.XK
open PySem PySem.Spec PyProof.Rows XC Evl L2H
theorem flyKeep {base h h' : Heap} {l : List Env} {e : Addr} {Z : Obj → Prop} (x : HandSPX.FlyingZ base l e Z h) (k : ∀ b o, h.get? b = some o → h'.get? b = some o) : HandSPX.FlyingZ base l e Z h' := by
  obtain ⟨f1, f2, f3, oe, vs, T, oT, ts, he, hz, hd, h1, hnT, hTe, hT, hdT, h3⟩ := x
  exact ⟨fun b o q => k b o (f1 b o q), f2, Heap.FunFrames.of_keeps (fun b o q _ => ⟨o, k b o q, rfl⟩) f3, oe, vs, T, oT, ts, k _ _ he, hz, hd, h1, hnT, hTe, k _ _ hT, hdT, h3⟩
/-- what the clause wishes of an exception of the body: one of the classes; slot i is n's -/
def wTup (K : PySem.W.Frag) (cs : List Value) (i : Nat) (ts : Addr → Value → Option Addr → TS) (D : Ends) : WX := fun cls d σ H => PySem.W.exmAny K cls cs = some true ∧
  ∀ a, H a = none → ts a cls d { nx := fun σ' H' => D.nx (σ'.set i none) H', rt := D.rt, bk := fun σ' H' => D.bk (σ'.set i none) H', ct := fun σ' H' => D.ct (σ'.set i none) H' } (σ.set i (some (.ref a))) H
section
variable {X : Cx} {x1 x2 x3 n : Str} {c1 c2 c3 : Value} {i k : Nat} {body suite : List Stmt} {b₀ : Stmt} {p1 p2 p3 tp pos pos' : Pos} {tb : WX → TS} {ts : Addr → Value → Option Addr → TS}
theorem ps_try_tup (hs : X.stack = X.env :: X.outer) (hf : X.env.frame = some X.env.locals) (hN : X.N.Nodup) (hi : X.N[i]? = some n) (hln : X.env.kindOf n = some .local) (n1 : Names X x1 c1) (n2 : Names X x2 c2) (n3 : Names X x3 c3)
    (hb : ∀ (W : WX) (pn : List (Addr × Obj)) (xe : Value → Shared → Prop), L2N.Takes (X.tr pn xe) W → PassesOwn (model X.prog X.w) X.A X.env xe → PSs (X.tr pn xe) body (tb W))
    (hsu : ∀ (a : Addr) (oe : Obj) (cls : Value) (d : Option Addr) (pn : List (Addr × Obj)), L2N.Zn cls d oe → (∃ vs, oe.data = .fields vs) → PSs (X.suite a ((a, oe) :: pn)) (b₀ :: suite) (ts a cls d)) :
    PS X (.Try body [.ExceptHandler (some (.Tuple [.Name x1 p1, .Name x2 p2, .Name x3 p3] k tp)) (some n) (b₀ :: suite) pos'] [] [] pos) (fun D σ H => tb (wTup X.K [c1, c2, c3] i ts D) D σ H) := by
  refine ⟨fun pins s σ H D I h => ?_⟩
  have ok := I.ok
  have frX : X.A.frames = some (X.env :: X.outer) := by
    rw [ok.frames, hs]
  have lcN : Loc X.env.scope n := .inl hln
  refine wpAny_Try_except ?_
  refine wpAny_mono ((hb (wTup X.K [c1, c2, c3] i ts D) (X.pn ++ pins) (fun e s₁ => wpAny (model X.prog X.w) X.A (noteFrame e X.env) (fun _ s₂ => wpAny (model X.prog X.w) X.A (setFlight e none)
    (fun _ s₃ => wpAny (model X.prog X.w) X.A (handleBy e X.env [.ExceptHandler (some (.Tuple [.Name x1 p1, .Name x2 p2, .Name x3 p3] k tp)) (some n) (b₀ :: suite) pos']) (SP X pins D) X.xe s₃) X.xe s₂) X.xe s₁)
    (fun u s' xx => ?_) PassesOwn.looking).run [] s σ H D (I.toTry _) h) (fun f s1 hsp => ?_) (fun e s1 he => he)
  · obtain ⟨a, B, sI, pins', σ', H', cls, d, rfl, J', nb, up, sky, na, os, ag, hyes1, hyes⟩ := xx
    have J : Inv X pins σ' H' sI := J'.ofTry ok
    have skyX : L2.Sky B (X.env :: X.outer) a (L2N.Zn cls d) X.env.locals s'.heap := by
      rw [← hs]
      exact sky
    show wpAny (model X.prog X.w) X.A (noteFrame (.ref a) X.env) _ _ _
    refine L2N.Sky.land L2N.Zn.steady frX hf skyX fun h3 fl3 up3 => ?_
    obtain ⟨oe3, vs3, he3, hz3, hd3⟩ := fl3.there
    have J3 : Inv X pins σ' H' { s' with heap := h3 } := J.landed nb fl3.1 (up.trans up3) os ag
    have nfr : a ∉ frs (X.env :: X.outer) := fun hm => by
      obtain ⟨_, o', e', hnf⟩ := fl3.2.2.1.mem hm
      rw [he3] at e'
      cases e'
      exact hnf _ hd3
    have nL : a ≠ X.env.locals := fun z => nfr (List.mem_filterMap.mpr ⟨X.env, List.mem_cons_self, by rw [hf, z]⟩)
    have nF : a ∉ X.fs := fun hm => by
      obtain ⟨v, hv, q⟩ := List.mem_filterMap.mp hm
      exact nfr (List.mem_filterMap.mpr ⟨v, List.mem_cons_of_mem _ hv, q⟩)
    have S3 := J3.suite he3 hd3 na nL nF
    refine wpAny_handleBy_cons (codeAny_handlers_test ?_) (by intro q; cases q)
    have LT : PySem.W.Looks (model X.prog X.w) h3 (typeOf (.ref a)) cls := fun A Q E s k q => wpAny_typeOf_ref (k _ _ he3) (by rw [hz3.1]; exact q)
    have ld : ∀ {x : Str} {c : Value} {np : Pos} {Q E : Value → Shared → Prop}, Names X x c → Q c { s' with heap := h3 } → wpAny (model X.prog X.w) (X.A.mark (some (.ref a))) (eval (.Name x np) X.env) Q E { s' with heap := h3 } := fun {x c np Q E} hc q => by
      obtain ⟨hg, hdbg, hm | ⟨hm, hv, hnn⟩⟩ := hc
      · exact ld_glob (X := X.suite a ((a, oe3) :: (X.pn ++ pins))) S3 hg hm q hdbg
      · exact ld_blt (X := X.suite a ((a, oe3) :: (X.pn ++ pins))) S3 hg hm hv q hnn hdbg
    refine wpAny_Tuple ?_
    refine wpAny_items_cons (ld n1 ?_)
    refine wpAny_items_cons (ld n2 ?_)
    refine wpAny_items_cons (ld n3 ?_)
    refine wpAny_items_nil ⟨by size_fits, ?_⟩
    have kp : ∀ q o, h3.get? q = some o → (h3.push { cls := .type "tuple", data := .seq [c1, c2, c3].toArray }).get? q = some o := fun _ _ z => Heap.get?_push_of_some _ z
    refine (PySem.W.exm_tup3 (M := model X.prog X.w) (J3.kIn.keeps kp) (LT.keeps kp) (Heap.get?_push_size h3 rfl) hyes1).here ?_
    have flp := flyKeep fl3 kp
    refine codeAny_handlers_suite_as ?_
    refine HandSPX.lands_againZ flp fun h4 fl4 up4 => ?_
    have J4 : Inv X pins σ' H' { s' with heap := h4 } := J.landed nb fl4.1 (((up.trans up3).trans (Heap.UpToSlots.of_keeps kp)).trans up4) os ag
    obtain ⟨oe4, vs4, he4, hz4, hd4⟩ := fl4.there
    have S4 := J4.suite he4 hd4 na nL nF
    refine store_ok (X := X.suite a ((a, oe4) :: (X.pn ++ pins))) (v := .ref a) S4 hN hi lcN rfl (fun s5 S5 => ?_) (.inr hln)
    refine wpAny_mono ((hsu a oe4 cls d (X.pn ++ pins) hz4 ⟨_, hd4⟩).run [] s5 _ H' _ S5 (hyes a na)) (fun f s6 hsp => ?_) (fun _ _ z => False.elim z)
    have fin : ∀ {σ6 : St} {H6 : Hp} {Q : Shared → Prop}, Inv (X.suite a ((a, oe4) :: (X.pn ++ pins))) [] σ6 H6 s6 → (∀ s7, Inv X pins (σ6.set i none) H6 s7 → Q s7) →
        wpAny (model X.prog X.w) X.A (do bindName X.env n .none; unbindBehindTheSuite X.env n pos') (fun _ s7 => Q s7) X.xe s6 := fun {σ6 H6 Q} S6 hq => gone_ok (S6.unsuite ok) hN hi hln hq
    cases f with
    | next => obtain ⟨σ6, H6, S6, q6⟩ := hsp; exact fin S6 fun s7 J7 => ⟨_, _, J7, q6⟩
    | brk => obtain ⟨σ6, H6, S6, q6⟩ := hsp; exact fin S6 fun s7 J7 => ⟨_, _, J7, q6⟩
    | cont => obtain ⟨σ6, H6, S6, q6⟩ := hsp; exact fin S6 fun s7 J7 => ⟨_, _, J7, q6⟩
    | ret u => obtain ⟨v6, σ6, H6, S6, r6, q6⟩ := hsp; exact fin S6 fun s7 J7 => ⟨_, _, _, J7, r6, q6⟩
  · cases f with
    | next => obtain ⟨σ', H', J', q⟩ := hsp; exact wpAny_execs_nil ⟨σ', H', J'.ofTry ok, q⟩
    | brk => obtain ⟨σ', H', J', q⟩ := hsp; exact ⟨σ', H', J'.ofTry ok, q⟩
    | cont => obtain ⟨σ', H', J', q⟩ := hsp; exact ⟨σ', H', J'.ofTry ok, q⟩
    | ret u => obtain ⟨v, σ', H', J', r, q⟩ := hsp; exact ⟨v, σ', H', J'.ofTry ok, r, q⟩
end
end L2.XK

set_option Elab.async false
set_option maxRecDepth 100000
set_option maxHeartbeats 4000000
set_option linter.all false
/-! A lambda without parameters that is handed to a def and called there; what it raises bears no context. -/
namespace L2.XK
open PySem PySem.Spec PyProof.Rows XC Evl L2H LamX
abbrev lamXe (X : Cx) (A : Around) (outer : List Env) (s : Shared) (H : Hp) (E : XK) (scope : Scope) (f c' : Addr) : Value → Shared → Prop := fun e s' =>
  wpAny (model X.prog X.w) (A.deeper (lamEnv X scope s.heap.objs.size f c')) (leaving (lamEnv X scope s.heap.objs.size f c') e)
    (fun _ s'' => L2N.CX X.prog X.w outer H s E e s'') (fun e' s'' => L2N.CX X.prog X.w outer H s E e' s'') s'
/-- the lambda's body's context -/
abbrev lamN (X : Cx) (A : Around) (outer : List Env) (s : Shared) (H : Hp) (E : XK) (scope : Scope) (f c' : Addr) : Cx :=
  (lamCx X A outer s H E scope f c').tr [] (lamXe X A outer s H E scope f c')
section
variable {X : Cx} {pins : List (Addr × Obj)} {σ : L2.St} {H : Hp} {s : Shared}
theorem pe_actN {CXg : CXT} {Eg : XK} {Ng : List Str} {qg : Str} {sg : Scope} {g f c' : Addr} {cdg pm ctv : Value} {params : Arguments} {body : Expr} {scope : Scope} {k i : Nat} {a : Str} {pn : List (Addr × Obj)} {xe : Value → Shared → Prop}
    {W : WX} {E : XK} {tb : TE} {p1 p2 : Pos} (I : Inv X pins σ H s) (L : LamS X.env.scope scope)
    (hf : s.heap.get? f = some (PySem.W.kla_obj "<lambda>" (X.env.qual ++ "<lambda>") params body scope (cloFrom X.env.cells scope.names []) pm c' ctv)) (hfn : H f = none) (hfr : f ∉ frs X.stack)
    (hbind : bindArgs (PySem.W.kla_fn "<lambda>" (X.env.qual ++ "<lambda>") params body scope (cloFrom X.env.cells scope.names []) pm (.ref c') ctv) ⟨[], []⟩ = pure [])
    (tk : L2N.Takes ((cxOf CXg X.prog X.w X.K X.mg X.base Ng qg sg g cdg X.A X.stack s H Eg).tr pn xe) W) (hW : ∀ cls d σ' H', E cls d H' → W cls d σ' H')
    (hr : Room (k + 1) (X.A.deeper (envOfC qg sg s.heap.objs.size g cdg)))
    (hbody : ∀ (A : Around) (outer : List Env) (s : Shared) (H : Hp), Room k (A.deeper (lamEnv X scope s.heap.objs.size f c')) → PE (lamN X A outer s H E scope f c') body tb)
    (hN : Ng[i]? = some a) (hv : Vis sg a) (hd : (a == ("__debug__" : Str)) = false := by decide) (hcd : (a == ("__classdict__" : Str)) = false := by decide) :
    PE ((cxOf CXg X.prog X.w X.K X.mg X.base Ng qg sg g cdg X.A X.stack s H Eg).tr pn xe) (.Call (.Name a p1) [] [] p2)
      (fun σZ HZ Q => σZ[i]? = some (some (.ref f)) ∧ HZ c' = some (CodeO c' (X.env.qual ++ "<lambda>")) ∧ tb σ HZ Q) := by
  refine ⟨fun pinsZ sZ σZ HZ Q IZ h => ?_⟩
  obtain ⟨hs, hc, ht⟩ := h
  have ldf := (pe_var (pos := p1) (i := i) hN hv hd hcd).run pinsZ sZ σZ HZ (fun v H1 => v = .ref f ∧ H1 = HZ) IZ ⟨.ref f, hs, rfl, rfl⟩
  refine wpAny_Call_Name_kw (thn ldf fun u s1 ⟨v, H1, I1, r1, q1⟩ => ?_)
  obtain ⟨rfl, rfl⟩ := q1
  obtain rfl : u = Value.ref f := r1
  have of1 := I1.base.keep f _ hf hfn hfr (fun z => nomatch (show f ∈ ([] : List Addr) from z))
  refine PySem.W.callWith_F0 ⟨_, _, _, _, of1⟩ ?_
  have un : Un (frs X.stack) [] H H1 s.heap s1.heap := I1.base
  obtain ⟨⟨oc, vs, t, hoc, hdc, hvc⟩, _, _⟩ := I1.hok c' _ hc
  have rc : codeAny (model X.prog X.w) (X.A.deeper (envOfC qg sg s.heap.objs.size g cdg)) (.call (.ref f) ⟨[], []⟩)
      (CR (L2N.CX X.prog X.w) (envOfC qg sg s.heap.objs.size g cdg :: X.stack) X.prog X.w H1 s1 Q E) s1 := by
    refine PySem.W.kla_callFunE hr.depth of1 rfl L.co L.gen rfl ⟨c', oc, vs, t, rfl, hoc, hdc, hvc⟩ ?_
    rw [hbind]
    refine wpAny_pure (wpAny_newFunctionEnv (fun y hy => (L.own y hy).2) (fun y hy => absurd hy (by simp)) (fun h₁ hns hsb => ⟨I1.nolimit.fresh _ hsb, ?_⟩) L.kind)
    show codeAny _ _ (.expr body (lamEnv X scope s1.heap.objs.size f c')) _ _
    have kp : ∀ b o, s1.heap.get? b = some o → h₁.get? b = some o := fun b o e => hsb.extBut b o (Nat.ne_of_lt (Heap.lt_size e)) (Heap.get?_push_of_some _ e)
    have J0 := lam_start2 (E := E) (f := f) (c' := c') (tk := s1.toks + ([] : List (Str × Value)).length) I L I1.env0 hr.hd un hns kp
    have J := J0.toTry (lamXe X (X.A.deeper (envOfC qg sg s.heap.objs.size g cdg)) (envOfC qg sg s.heap.objs.size g cdg :: X.stack) s1 H1 E scope f c')
    refine PySem.W.kla_codeExpr (wpAny_mono ((hbody _ _ s1 H1 (hr.deeper _)).run [] _ _ H1 Q J ht) (fun v s' hq => ?_) fun e s' hq => hq)
    obtain ⟨w', H', J', rv, q⟩ := hq
    exact ⟨w', H', J'.os, J'.bare, J'.base, J'.hok, rv, q⟩
  refine wpAny_call (codeAny_mono rc fun r s' hq => ?_)
  cases r with
  | error e => exact L2N.passes_call tk hW pinsZ σZ H1 s1 e s' I1 hq
  | ok fl =>
    cases fl with
    | ret u => exact I1.after hq
    | next => exact hq.elim
    | brk => exact hq.elim
    | cont => exact hq.elim
end
/-- the def that calls what it got: a calls it; TT: what it makes of the lambda's reading -/
def GivesN (X : Cx) (Ng : List Str) (x : Str) (sg : Scope) (g : Addr) (cdg : Value) (bg : List Stmt) (a : Str) (q : Str) (TT : (XK → Hp → VK → Prop) → Hp → VK → Prop) : Prop :=
  ∀ (f c' : Addr) (s : Shared) (H : Hp) (Q : VK) (tl : XK → Hp → VK → Prop),
    (∀ (W : WX) (pn : List (Addr × Obj)) (xe : Value → Shared → Prop) (E : XK) (p1 p2 : Pos), L2N.Takes ((cxOf CX0 X.prog X.w X.K X.mg X.base Ng x sg g cdg X.A X.stack s H E0).tr pn xe) W →
      (∀ cls d σ' H', E cls d H' → W cls d σ' H') →
      PE ((cxOf CX0 X.prog X.w X.K X.mg X.base Ng x sg g cdg X.A X.stack s H E0).tr pn xe) (.Call (.Name a p1) [] [] p2) (fun σZ HZ Q => σZ[0]? = some (some (.ref f)) ∧ HZ c' = some (CodeO c' q) ∧ tl E HZ Q)) →
    H c' = some (CodeO c' q) → TT tl H Q →
    ∃ t, PSs (cxOf CX0 X.prog X.w X.K X.mg X.base Ng x sg g cdg X.A X.stack s H E0).nox bg t ∧ t { nx := fun _ H' => Q .non H', rt := Q } (start Ng [.ref f]) H
section
variable {X : Cx}
/-- x(lambda: body) -/
theorem pe_lamN {T : List (Addr × Str)} {TT : (XK → Hp → VK → Prop) → Hp → VK → Prop} {x a : Str} {g c P : Addr} {fd : FuncData} {st : Stmt} {k : Nat} {Ng : List Str} {params : Arguments} {body : Expr} {scope : Scope} {t : XK → TE} {p lpos pos : Pos}
    (hg : Gl X x) (hm : X.mg x = some (.ref g)) (hk : PySem.W.keepIn X.K (.ref g) = true) (F : Fun X.K x x st g fd) (hb : Binds X.K fd [a] []) (Sg : FnScope Ng [a] (defScope st)) (hNg : Ng[0]? = some a) (hva : Vis (defScope st) a)
    (hG : ∀ cdv, GivesN X Ng x (defScope st) g cdv (defBody st) a (X.env.qual ++ "<lambda>") TT)
    (TB : TabB X.base X.mg c P) (hcode : X.env.code = .ref c) (hmT : (P, X.env.qual ++ "<lambda>") ∈ T) (hu : ∀ p ∈ T, p.1 = P → p.2 = X.env.qual ++ "<lambda>") (hr : Room (k + 2) X.A) (L : LamS X.env.scope scope) (hdef : defaultsOf params X.env = ([], []))
    (hbind : ∀ (q : Str) (cl : List (Str × Addr)) (pm cv ctv : Value), bindArgs (PySem.W.kla_fn "<lambda>" q params body scope cl pm cv ctv) ⟨[], []⟩ = pure [])
    (hbody : ∀ (A : Around) (outer : List Env) (s : Shared) (H : Hp) (E : XK) (f c' : Addr), Room k (A.deeper (lamEnv X scope s.heap.objs.size f c')) → PE (lamN X A outer s H E scope f c') body (t E))
    (hdb : (x == ("__debug__" : Str)) = false := by decide) (hd : (a == ("__debug__" : Str)) = false := by decide) (hcd : (a == ("__classdict__" : Str)) = false := by decide) :
    PE X (.Call (.Name x p) [.Lambda params body scope lpos] [] pos) (tLam T TT t) := by
  obtain ⟨oc, od, kV, doc, pm, an, cdv, ct, osl, rfl, lk, hcg⟩ := F.ex
  refine ⟨fun pins s σ H Q I h => ?_⟩
  obtain ⟨hT, h⟩ := h
  refine wpAny_Call_Name_kw (ld_glob I hg hm ?_ hdb)
  refine PySem.W.callWith_K (h₀ := X.base) I.ok.mod.kin hk ?_ (by rfl) (by rfl)
  show wpAny _ _ (spliced ((false, eval (.Lambda params body scope lpos) X.env) :: backTo pos (starEach [] X.env))) _ _ s
  refine Calls.spliced_cons (lam_make2 I TB hcode hmT hu hT hdef (L.has I.ok) fun f c' pm' ctv H1 s' I1 eN T1 hf hfn hfr hco => ?_)
  refine Calls.spliced_nil ⟨I1.kIn, ?_⟩
  have rc : codeAny (model X.prog X.w) X.A (.call (.ref g) ⟨[.ref f], []⟩) (CR CX0 X.stack X.prog X.w H1 s' Q E0) s' := by
    refine run_ofS (N := Ng) (ps := [a]) (us := [.ref f]) (vs := [.ref f]) lk hcg Sg hr I1.env0 (hb s' [.ref f] I1.kIn rfl) (.cons rfl .nil) rfl fun hr' => ?_
    obtain ⟨t', ht', hq'⟩ := hG cdv f c' s' H1 Q (fun E H' Q' => t E σ H' Q') (fun W pn xe E p1 p2 tk hW => pe_actN (i := 0) I1 L hf hfn hfr (hbind _ _ _ _ _) tk hW hr'
      (fun A outer s H hr2 => hbody A outer s H E f c' hr2) hNg hva hd hcd) hco (h H1 eN T1)
    exact ⟨t', ht'.nox, hq'⟩
  refine wpAny_call (codeAny_mono rc fun r s2 hq => ?_)
  cases r with
  | error e => exact (show False from hq).elim
  | ok fl =>
    cases fl with
    | ret u => exact I1.after hq
    | next => exact hq.elim
    | brk => exact hq.elim
    | cont => exact hq.elim
end
end L2.XK

set_option Elab.async false
set_option maxRecDepth 100000
set_option maxHeartbeats 4000000
set_option linter.all false
/-! _law_caught: what a call returns, or what the error that it raises keeps. -/
namespace L2.K06
open PySem PySem.Spec PyProof.Rows XK Evl XC L2H LamX
abbrev sLawCaught : Stmt := topS 79
abbrev NLawCaught : List Str := ["_law_act", "_law_e", "_law_told", "_law_at"]
theorem scLawCaught : FnScope NLawCaught ["_law_act"] (defScope sLawCaught) := ⟨rfl, rfl, rfl, by decide +kernel, rfl, by decide +kernel, by decide +kernel⟩
/-- the three classes above catch every class -/
def Catch3 (K : PySem.W.Frag) (a : Adr) : Prop := ∀ i C W B, sorts a i = some (C, W, B) → PySem.W.exmAny K (.ref C) [.ref a.WrongValue, .ref a.WrongState, .ref a.NoAnswer] = some true
/-- what _law_caught makes of a call -/
def TTc (a : Adr) : (XK → Hp → VK → Prop) → Hp → VK → Prop := fun tl H Q => ∀ R : VK,
  (∀ v H1, (∃ t, RepV H1 v t ∧ ∀ l H'', Ex H1 H'' → H'' l = some (.lst [.str "told", .str t]) → Q (.ref l) H'') → R v H1) →
  tl (fun cls d H' => ∃ (i : Nat) (C W : Addr) (B : String) (x : V) (t : Str) (z : Addr), cls = .ref C ∧ d = some z ∧ sorts a i = some (C, W, B) ∧ i < 16 ∧ H' z = some (.xd (fieldsOf i x x)) ∧ RepV H' x t ∧
      ∀ l H'', Ex H' H'' → H'' l = some (.lst [.int (i : Int), .str t]) → Q (.ref l) H'') H R
/-- the suite's reading, p the caught error -/
def tSuite (a : Adr) (p : Addr × Obj) : TS := tSeq (tAsg (tCall (spError a p) [] E0 (tCons (tVar 1) tNil)) (gName 3))
  (tRet (tLst (tCons (tVar 3) (tCons (tIf (tTest (tOp (rI0 fun i j => .bl (decide (j < i))) (tVar 3) (tUn (rU fun i => .int (-i)) (tC (.int 1))))) (tCB rRepr (tCons (tCall (spField a p) [] E0 (tCons (tVar 1) (tCons (tVar 3) tNil))) tNil)) (tC (.str "?"))) tNil))))
def tsSuite (a : Adr) : Addr → Value → Option Addr → TS := fun e cls d D σ H => ∀ oe, L2N.Zn cls d oe → (∃ vs, oe.data = .fields vs) → tSuite a (e, oe) D σ H
theorem pss_imp {X : Cx} {st : List Stmt} {t t' : TS} (h : PSs X st t) (k : ∀ D σ H, t' D σ H → t D σ H) : PSs X st t' := ⟨fun pins s σ H D I w => h.run pins s σ H D I (k D σ H w)⟩
theorem u200 {A : Around} {env : Env} (r : Room 4 A) : (A.deeper env).units + 200 < cLine := XK.room200 (r.deeper env)
section
variable {X : Cx} {a : Adr}
theorem gives_caught (T : Txt X.K X.mg a) (h3 : Catch3 X.K a) (hrep : X.mg "repr" = none) (hsys : Sys X.base) (hgd : X.A.guards = some []) (hr : Room 4 X.A) (g : Addr) (cdv : Value) (q : Str)
    (eE : FnP X.prog X.w X.K X.mg X.base 1 a.LawError a.fdLawError ["_law_e"] (spError a)) (eF : FnP X.prog X.w X.K X.mg X.base 1 a.LawField a.fdLawField ["_law_e", "_law_at"] (spField a)) :
    GivesN X NLawCaught "_law_caught" (defScope sLawCaught) g cdv (defBody sLawCaught) "_law_act" q (TTc a) := by
  intro f c' s H Q tl act hc h
  refine ⟨_, pss_cons (ps_try_tup (X := (cxOf CX0 X.prog X.w X.K X.mg X.base NLawCaught "_law_caught" (defScope sLawCaught) g cdv X.A X.stack s H E0).nox) (i := 1) (c1 := .ref a.WrongValue) (c2 := .ref a.WrongState) (c3 := .ref a.NoAnswer) (ts := tsSuite a)
      (tb := fun W D σ H => ∃ Ech : XK, (∀ cls d σ' H', Ech cls d H' → σ'.length = 4 → W cls d σ' H') ∧ σ[0]? = some (some (.ref f)) ∧ H c' = some (CodeO c' q) ∧ tl Ech H fun v H1 => D.nx (σ.set 2 (some v)) H1)
      rfl rfl scLawCaught.nd rfl rfl ⟨rfl, by decide, .inl T.gWrongValue⟩ ⟨rfl, by decide, .inl T.gWrongState⟩ ⟨rfl, by decide, .inl T.gNoAnswer⟩ (fun W pn xe tk _ => ?_) (fun e oe cls d pn hz hf => ?_))
    (pss_one (ps_ret (pe_lst (pa_cons pe_str (pa_cons (pe_callB (id := "repr") (r := rRepr) (call_rep hsys hgd (u200 (env := envOfC "_law_caught" (defScope sLawCaught) s.heap.objs.size g cdv) hr)) (by rfl) hrep (by decide +kernel) (pa_cons (pv 2) pa_nil)) pa_nil))))), ?_⟩
  · refine pss_one ⟨fun pins s' σ H' D I h' => ?_⟩
    obtain ⟨Ech, hW, h1, h2, h3'⟩ := h'
    have tk2 : L2N.Takes _ (fun cls d σ' H' => σ'.length = 4 → W cls d σ' H') := fun u s'' x => tk u s'' (by
      obtain ⟨b, B, sI, pins', σ', H2, cls, d, e0, I', z1, z2, z3, z4, z5, z6, w'⟩ := x
      exact ⟨b, B, sI, pins', σ', H2, cls, d, e0, I', z1, z2, z3, z4, z5, z6, w' I'.len⟩)
    exact (ps_set (i := 2) scLawCaught.nd rfl (Or.inl rfl) (act _ pn xe Ech _ _ tk2 (fun cls d σ' H' z hl => hW cls d σ' H' z hl))).run pins s' σ H' D I ⟨h1, h2, h3'⟩
  · refine pss_imp (t := tSuite a (e, oe)) ?_ fun D σ H w => w oe hz hf
    have hot : Hot1 ((cxOf CX0 X.prog X.w X.K X.mg X.base NLawCaught "_law_caught" (defScope sLawCaught) g cdv X.A X.stack s H E0).nox.suite e ((e, oe) :: pn)).A (e, oe) := by
      obtain ⟨vs, hv⟩ := hf
      exact ⟨rfl, vs, hv, hz.2.2 vs hv⟩
    have rH : RoomH 1 ((cxOf CX0 X.prog X.w X.K X.mg X.base NLawCaught "_law_caught" (defScope sLawCaught) g cdv X.A X.stack s H E0).nox.suite e ((e, oe) :: pn)).A := by
      have r3 : Room 3 (X.A.deeper (envOfC "_law_caught" (defScope sLawCaught) s.heap.objs.size g cdv)) := hr.deeper _
      exact ⟨(roomH_of (r3.mono (by decide : 1 ≤ 3))).dp, (roomH_of (r3.mono (by decide : 1 ≤ 3))).un⟩
    exact pss_cons (ps_set (i := 3) scLawCaught.nd rfl (Or.inl rfl) (pe_callP (p := (e, oe)) eE rH hot List.mem_cons_self (by rfl) T.gLawError T.kLawError T.bLawError (pa_cons (pv 1) pa_nil)))
      (pss_one (ps_ret (pe_lst (pa_cons (pv 3) (pa_cons (pe_ifExp (pt_cmpR op_gt (pv 3) (pe_un un_neg pe_int) (nomark _)) (pe_callB (id := "repr") (r := rRepr) (call_rep hsys hgd (u200 (env := envOfC "_law_caught" (defScope sLawCaught) s.heap.objs.size g cdv) hr)) (by rfl) hrep (by decide +kernel)
        (pa_cons (pe_callP (p := (e, oe)) eF rH hot List.mem_cons_self (by rfl) T.gLawField T.kLawField T.bLawField (pa_cons (pv 1) (pa_cons (pv 3) pa_nil))) pa_nil)) pe_str) pa_nil)))))
  · refine ⟨_, fun cls d σ' H' hE hl => ?_, rfl, hc, h _ fun v H1 hv => ?_⟩
    · obtain ⟨i, C, W, B, x, t, z, rfl, rfl, hs, hi, hz, hx, k⟩ := hE
      refine ⟨h3 i C W B hs, fun e he oe hzn hf => ?_⟩
      obtain ⟨a0, a1, a2, a3, rfl⟩ : ∃ a0 a1 a2 a3, σ' = [a0, a1, a2, a3] := by
        match σ', hl with
        | [a0, a1, a2, a3], _ => exact ⟨a0, a1, a2, a3, rfl⟩
      have er : ErrAt a H' (e, oe) i C (fieldsOf i x x) := ⟨by omega, ⟨W, B, hs⟩, some z, ⟨hzn.1, hzn.2.1, hf⟩, fun z' hz' => by cases hz'; exact hz, fun _ => by simp⟩
      unfold tSuite
      dsimp only [tSeq]
      refine s_asg (v := .int (i : Int)) (ev_call (ea_cons (ev_var (by rfl)) ea_nil) fun H1 e1 Q1 q1 E1 => ⟨i, C, _, rfl, er.ex e1, fun H2 e2 => q1 H2 e2⟩) fun H1 e1 => ?_
      dsimp only
      refine s_retL (xs := [.int (i : Int), .str t]) (el_lst (ea_cons (ev_var (by rfl)) (ea_cons (ev_if (b := true) (et_is (et_test (ev_op (ev_var (by rfl)) (ev_un ev_c fun H2 e2 Q2 q2 => ⟨1, rfl, q2 H2 (Ex.refl _)⟩) rv_I0)) (decide_eq_true (by omega)))
        (fun _ => ev_rep (ev_call (ea_cons (ev_var (by rfl)) (ea_cons (ev_var (by rfl)) ea_nil)) fun H2 e2 Q2 q2 E2 => ⟨i, C, x, x, rfl, er.ex (e1.trans e2), fun H3 v e3 hv => ?_⟩) (hx.ex e1)) fun z => nomatch z) ea_nil)) (by show 2 ≤ 100000; decide)) fun l H2 hl2 e2 h2 => k l H2 (e1.trans e2) h2
      rw [hv.2.2 (by omega) (by omega)]
      exact q2 H3 e3
    · obtain ⟨t, hr1, k⟩ := hv
      exact s_retL (xs := [.str "told", .str t]) (el_lst (ea_cons ev_c (ea_cons (ev_rep (ev_var (by rfl)) hr1) ea_nil)) (by show 2 ≤ 100000; decide)) fun l H2 hl2 e2 h2 => k l H2 e2 h2
end
end L2.K06

set_option Elab.async false
set_option maxRecDepth 100000
set_option maxHeartbeats 4000000
set_option linter.all false
/-! The law's end with tables of code objects, nothing of the machine's guards under way; a def whose code object is known. -/
namespace L2.XK
open PySem PySem.Spec PyProof.Rows XC Evl LamX
/-- all but p and the tables stands as it stood -/
def ButN (p : Addr) (H H' : Hp) : Prop := ∀ b o, b ≠ p → (∀ ps, o ≠ HO.tbl ps) → H b = some o → H' b = some o
theorem ButN.refl {p : Addr} {H : Hp} : ButN p H H := fun _ _ _ _ e => e
theorem ButN.trans {p : Addr} {H H1 H2 : Hp} (a : ButN p H H1) (b : ButN p H1 H2) : ButN p H H2 := fun q o n t e => b q o n t (a q o n t e)
theorem ButN.of {p : Addr} {H H' : Hp} (e : But p H H') : ButN p H H' := fun b o n _ h => e b o n h
theorem ButN.ext {p : Addr} {H H' : Hp} (e : ExtN H H') : ButN p H H' := fun b o _ t h => e b o h t
theorem ButN.ex {p : Addr} {H H' : Hp} (e : Ex H H') : ButN p H H' := fun b o _ _ h => e b o h
theorem extN_of {H H' : Hp} (e : Ex H H') : ExtN H H' := fun b o h _ => e b o h
theorem PoolAt.exN {H H' : Hp} {p : Addr} {n : Int} (h : PoolAt H p n) (e : ExtN H H') : PoolAt H' p n := by
  obtain ⟨a, b, c, hp, r⟩ := h
  exact ⟨a, b, c, e _ _ hp (fun ps z => by cases z), r⟩
theorem tabs_but {T : List (Addr × Str)} {H H' : Hp} {p : Addr} {xs : List V} (t : Tabs T H) (hp : H p = some (.lst xs)) (b : But p H H') : Tabs T H' := by
  intro q hq
  obtain ⟨ps, h1, h2, h3⟩ := t q hq
  refine ⟨ps, b _ _ (fun z => ?_) h1, h2, fun pos cv hc => ?_⟩
  · rw [z, hp] at h1
    cases h1
  · obtain ⟨c, e1, e2⟩ := h3 pos cv hc
    refine ⟨c, e1, b _ _ (fun z => ?_) e2⟩
    rw [z, hp] at e2
    unfold CodeO at e2
    cases e2
theorem tabs_pool {T : List (Addr × Str)} {H H' : Hp} {p : Addr} {n : Int} (t : Tabs T H) (hp : PoolAt H p n) (b : But p H H') : Tabs T H' := by
  obtain ⟨_, _, _, h, _⟩ := hp
  exact tabs_but t h b
theorem tabs_ex {T : List (Addr × Str)} {H H' : Hp} (t : Tabs T H) (e : Ex H H') : Tabs T H' := t.ext e
theorem sqt_exN {K : PySem.W.Frag} {H H' : Hp} {a : Addr} {xs : List V} (e : ExtN H H') (h : SqT K H a xs) : SqT K H' a xs := by
  rcases h with h | h
  · rcases h with h | ⟨o, h⟩
    · exact .inl (.inl (e _ _ h (fun ps z => by cases z)))
    · exact .inl (.inr ⟨o, e _ _ h (fun ps z => by cases z)⟩)
  · exact .inr h
theorem sql_butN {K : PySem.W.Frag} {H H1 H2 : Hp} {c p : Addr} {xs : List V} (h : SqL K H c xs) (hp : H p = none) (e : Ex H H1) (b : ButN p H1 H2) : SqL K H2 c xs := by
  rcases h with h | h
  · rcases h with h | ⟨o, h⟩
    · exact .inl (.inl (b _ _ (ne_of_none h hp) (fun ps z => by cases z) (e _ _ h)))
    · exact .inl (.inr ⟨o, b _ _ (ne_of_none h hp) (fun ps z => by cases z) (e _ _ h)⟩)
  · exact .inr h
section
variable {P : Program} {w : World} {K : PySem.W.Frag} {mg : Str → Option Value} {base : Heap}
/-- FnG of a def whose code object is at c -/
theorem Fun.okGC {x qual : Str} {st : Stmt} {f c : Addr} {fd : FuncData} {N ps : List Str} {k : Nat} {sp : Sp} (F : Fun K x qual st f fd) (hc : fd.code = .ref c)
    (S : FnScope N ps (defScope st)) (len : ∀ vs H Q E, sp vs H Q E → vs.length = ps.length)
    (hbody : ∀ (A : Around) (outer : List Env) (s : Shared) (H : Hp) (vs : List V) (Q : VK) (E : XK),
      Room k (A.deeper (envOfC qual (defScope st) s.heap.objs.size f (.ref c))) →
      (A.deeper (envOfC qual (defScope st) s.heap.objs.size f (.ref c))).guards = some [] → sp vs H Q E →
      ∃ t, PSs (cxOf CX0 P w K mg base N qual (defScope st) f (.ref c) A outer s H E).nox (defBody st) t ∧
        t { nx := fun _ H' => Q .non H', rt := Q } (start N vs) H) : FnG P w K mg base (k + 1) f fd ps sp := by
  obtain ⟨oc, od, kV, doc, pm, an, cdv, ct, osl, rfl, lk, hcd⟩ := F.ex
  have hc' : cdv = .ref c := hc
  subst hc'
  refine ⟨len, fun A outer s H args us vs Q E hr hg e0 hb r hsp => ?_⟩
  have hl := len _ _ _ _ hsp
  have keep : ∀ b o, base.get? b = some o → s.heap.get? b = some o := fun b o e => (e0.bs b o e).1
  have KX : K.In s.heap := e0.mod.kin.keeps keep
  have lim : s.heap.NoLimit := e0.mod.nolimit.keeps keep
  have kinds : ∀ y ∈ ps.zip us, (defScope st).names.lookup y.1 = some .local ∨
      ((defScope st).names.lookup y.1 = some .cell ∧ ((cellsFrom (s.heap.objs.size + 1) (defScope st).names []).lookup y.1).isSome = true) := by
    rintro ⟨n, v⟩ hy
    rcases S.par n (List.of_mem_zip hy).1 with q | q
    · exact .inl q
    · exact .inr ⟨q, PySem.W.cellsFrom_some _ _ _ (.inl q)⟩
  refine codeAny_call_function hr.depth (KX _ _ lk) rfl S.co S.gen rfl (PySem.W.codeRec_of KX hcd) (hb _ _ _ _ ?_)
  refine wpAny_newFunctionEnv_cells S.kind kinds fun env he s1 x => ?_
  subst he
  refine ⟨lim.keeps x.toInCall.keep, codeAny_func ?_⟩
  obtain ⟨t, ht, hq⟩ := hbody A outer s H vs Q E (hr.deeper _) hg hsp
  have I := inv_start (CX := CX0) (E := E) S hr.hd e0 hl r x
  refine wpAny_mono (ht.nox.run [] s1 (start N vs) H _ I hq) (fun fl s' hs => ?_) fun e s' hs => hs
  cases fl with
  | ret u =>
    obtain ⟨v, σ', H', J, rv, q⟩ := hs
    exact ⟨v, H', J.os, J.bare, J.base, J.hok, rv, q⟩
  | next =>
    obtain ⟨σ', H', J, q⟩ := hs
    exact ⟨V.non, H', J.os, J.bare, J.base, J.hok, rfl, q⟩
  | brk =>
    obtain ⟨_, _, _, q⟩ := hs
    exact q.elim
  | cont =>
    obtain ⟨_, _, _, q⟩ := hs
    exact q.elim
end
/-- the law's own call: the script and the tables are tracked, the module table stands in the base -/
theorem lawGT {P : Program} {w : World} {K : PySem.W.Frag} {mg mb : Str → Option Value} {k : Nat} {fa a : Addr} {fd : FuncData} {x : Str} {sp : Sp}
    {s1 : Shared} {vs : List Value} {ns : List Int} {cs : List (Addr × Addr)}
    (KX : K.In s1.heap) (hns : s1.heap.Ns mainGlobals mg) (hb : s1.heap.Ns builtinsNs mb) (hbb : ∀ x : Str, x ≠ "__name__" → mb x = bootBuiltins x)
    (hlim : s1.heap.NoLimit) (hsy : ∃ mm, s1.heap.Ns sysModules mm) (hg : s1.gens = #[])
    (ct : ∀ t ∈ cs, s1.heap.get? t.2 = some (PySem.W.tabObj #[])) (cn : ∀ t ∈ cs, K.lookup t.2 = none) (cc : ∀ t ∈ cs, PySem.W.CodeHd s1.heap t.1 t.2)
    (bmain : ∃ (bm : Addr) (ob : Obj), mg "__builtins__" = some (.ref bm) ∧ bm ≠ builtinsNs ∧ s1.heap.get? bm = some ob ∧ ob.cls = .type "module" ∧ ob.dict = some builtinsNs ∧ ob.data = .plain)
    (ha : s1.heap.get? a = some { cls := .type "list", data := .seq vs.toArray }) (hi : IntsAre vs ns) (hl : ns.length ≤ sizeLine) (hr : Room k callerA)
    (F : ∀ base : Heap, K.In base → base.Ns mainGlobals mg → Sys base → (∀ t ∈ cs, TabB base mg t.1 t.2) → FnG P w K mg base k fa fd [x] sp)
    (hbind : ∀ (s : Shared) (u : Value), BindsTo s fd ⟨[u], []⟩ [(x, u)])
    (hsp : ∀ H : Hp, (∀ t ∈ cs, H t.2 = some (.tbl #[])) → SqL K H a (ns.map V.int) → sp [.ref a] H (fun v _ => v = .bl true) fun _ _ _ => False) :
    codeAny (model P w) callerA (.call (.ref fa) ⟨[.ref a], []⟩)
      (fun r s' => r = .ok (.ret (.bool true)) ∧ OldK s1.heap s'.heap ∧ s'.os = s1.os ∧ AllBare s'.gens) s1 := by
  have rv := vals_ints hi
  have lenV := hi.length
  have tabAt : ∀ b, b ∈ cs.map Prod.snd → s1.heap.get? b = some (PySem.W.tabObj #[]) := by
    intro b hm
    obtain ⟨t, ht, rfl⟩ := List.mem_map.mp hm
    exact ct t ht
  have aNot : a ∉ cs.map Prod.snd := by
    intro hm
    have q := tabAt a hm
    rw [ha] at q
    have q2 := congrArg Obj.cls (Option.some.inj q)
    cases q2
  have mTab : ∀ t ∈ cs, t.2 ∈ cs.map Prod.snd := fun t ht => List.mem_map.mpr ⟨t, ht, rfl⟩
  have go : ∀ H : Hp, (∀ t ∈ cs, H t.2 = some (.tbl #[])) →
      (∀ b u, H b = some u → (b = a ∧ K.lookup a = none ∧ ∃ ob xs, u = HO.frz ob (.lst xs)) ∨ b ∈ cs.map Prod.snd) →
      SqL K H a (ns.map V.int) → HOk P w H s1.heap →
      codeAny (model P w) callerA (.call (.ref fa) ⟨[.ref a], []⟩)
        (fun r s' => r = .ok (.ret (.bool true)) ∧ OldK s1.heap s'.heap ∧ s'.os = s1.os ∧ AllBare s'.gens) s1 := by
    intro H hT only hS hok
    have hid : ∀ {b : Addr} {o : Obj}, s1.heap.get? b = some o → (∀ z n, o.data ≠ .seq z n) → o.data ≠ .fields #[] → H b = none := by
      intro b o e n1 n2
      cases q : H b with
      | none => rfl
      | some u =>
        rcases only b u q with ⟨rfl, _⟩ | m
        · rw [ha] at e
          cases e
          exact absurd rfl (n1 _ _)
        · rw [tabAt b m] at e
          cases e
          exact absurd rfl n2
    have nsB : ∀ {b : Addr} {m : Str → Option Value}, s1.heap.Ns b m → (hidT s1.heap H).Ns b m := by
      rintro b m ⟨o, es, ep, e, d, r⟩
      refine ⟨o, es, ep, hidT_get e (hid e (fun z n y => ?_) fun y => ?_), d, r⟩
      · rw [d] at y
        cases y
      · rw [d] at y
        cases y
    have kB : K.In (hidT s1.heap H) := fun b o e => hidT_get (KX b o e) (by
      cases q : H b with
      | none => rfl
      | some u =>
        rcases only b u q with ⟨rfl, z, _⟩ | m
        · rw [z] at e
          cases e
        · obtain ⟨t, ht, rfl⟩ := List.mem_map.mp m
          rw [cn t ht] at e
          cases e)
    have hM : Mod K mg (hidT s1.heap H) := by
      refine ⟨kB, nsB hns, ⟨mb, nsB hb, hbb⟩, ?_⟩
      obtain ⟨mc, h1, h2⟩ := hlim
      exact ⟨mc, nsB h1, h2⟩
    have hS0 : Sys (hidT s1.heap H) := by
      obtain ⟨mm, q⟩ := hsy
      obtain ⟨o, _, _, e, _⟩ := nsB q
      exact ⟨o, e⟩
    have tb : ∀ t ∈ cs, TabB (hidT s1.heap H) mg t.1 t.2 := by
      intro t ht
      have h1 := ct t ht
      refine ⟨?_, ?_, ?_⟩
      · obtain ⟨o, us, fi, tf, fl, tg, inF, tx, tt, e1, r1, r2, r3, r⟩ := cc t ht
        refine ⟨o, us, fi, tf, fl, tg, inF, tx, tt, hidT_get e1 (hid e1 (fun z n y => ?_) fun y => ?_), r1, r2, r3, r⟩
        · rw [r2] at y
          cases y
        · rw [r2] at y
          cases y
          simp at r3
      · obtain ⟨bm, ob, b1, b2, b3, b4, b5, b6⟩ := bmain
        have nG : bm ≠ mainGlobals := by
          intro z
          obtain ⟨o, es, ep, e, hd, _⟩ := hns
          rw [z, e] at b3
          cases b3
          rw [hd] at b6
          cases b6
        have nP : bm ≠ t.2 := by
          intro z
          rw [z, h1] at b3
          cases b3
          cases b6
        refine ⟨bm, ob, b1, b2, nG, nP, hidT_get b3 (hid b3 (fun z n y => ?_) fun y => ?_), b4, b5, b6⟩
        · rw [b6] at y
          cases y
        · rw [b6] at y
          cases y
      · intro z
        obtain ⟨o, es, ep, e, hd, _⟩ := hns
        rw [z, h1] at e
        cases e
        cases hd
    have e0 : Env0 P w K mg (hidT s1.heap H) callerA [] s1 H := by
      refine ⟨rfl, hM, fun b o e => of_hidT e, Nat.le_of_eq (hidT_size _ _), trivial, ?_, hok, .of_eq hg⟩
      intro b hb
      exact absurd (show b ∈ ([] : List Addr) from hb) (by simp)
    refine codeAny_mono ((F _ kB (nsB hns) hS0 tb).run callerA [] s1 H ⟨[.ref a], []⟩ [.ref a] [.ref a] _ _ hr rfl e0 (hbind s1 (.ref a)) (.cons rfl .nil) (hsp H hT hS)) fun r s' h => ?_
    cases r with
    | error e => exact h.elim
    | ok fl =>
      cases fl with
      | next => exact h.elim
      | brk => exact h.elim
      | cont => exact h.elim
      | ret u =>
        obtain ⟨v, H', os, bare, un, hok', r', q⟩ := h
        have q' : v = .bl true := q
        subst q'
        obtain rfl : u = Value.bool true := r'
        have keepB : ∀ b o, b ∉ cs.map Prod.snd → s1.heap.get? b = some o → s'.heap.get? b = some o := by
          intro b o nb e
          cases q : H b with
          | none => exact un.keep b o e q (by intro z; exact absurd (show b ∈ ([] : List Addr) from z) (by simp)) (by simp)
          | some u =>
            rcases only b u q with ⟨rfl, _, ob, xs, rfl⟩ | m
            · obtain ⟨e1, _⟩ := hok b _ q
              obtain ⟨e2, _⟩ := hok' b _ (un.frzs b ob _ q)
              exact e2.trans (e1.symm.trans e)
            · exact absurd m nb
        have grew : ∀ t ∈ cs, ∃ more : Array Value, s'.heap.get? t.2 = some (PySem.W.tabObj more) := by
          intro t ht
          obtain ⟨more, z⟩ := un.tbls t.2 #[] (hT t ht)
          exact ⟨_, hok' t.2 _ z⟩
        refine ⟨rfl, ⟨fun b o e => ?_, fun b o e => ?_⟩, os, bare⟩
        · by_cases hm : b ∈ cs.map Prod.snd
          · obtain ⟨t, ht, rfl⟩ := List.mem_map.mp hm
            obtain ⟨more, z⟩ := grew t ht
            rw [ct t ht] at e
            cases e
            refine .inr (.inl ⟨((cc t ht).tab (ct t ht)).isCodeTable, rfl, #[], more, rfl, ?_⟩)
            rw [Array.empty_append]
            exact z
          · exact .inl (keepB b o hm e)
        · by_cases hm : b ∈ cs.map Prod.snd
          · obtain ⟨t, ht, rfl⟩ := List.mem_map.mp hm
            obtain ⟨more, z⟩ := grew t ht
            exact ⟨_, z⟩
          · exact ⟨o, keepB b o hm e⟩
  cases hk : K.lookup a with
  | some o =>
    have e := KX a o hk
    rw [ha] at e
    cases e
    refine go (fun b => if b ∈ cs.map Prod.snd then some (.tbl #[]) else none) (fun t ht => if_pos (mTab t ht)) (fun b u z => ?_) (.inr ⟨_, vs.toArray, _, hk, rfl, rfl, rfl, by rw [List.size_toArray, lenV]; exact hl, by simpa using rv⟩) (fun b u z => ?_)
    · by_cases hm : b ∈ cs.map Prod.snd
      · exact .inr hm
      · have z' := (if_neg hm).symm.trans z
        cases z'
    · by_cases hm : b ∈ cs.map Prod.snd
      · have z' := (if_pos hm).symm.trans z
        cases z'
        exact tabAt b hm
      · have z' := (if_neg hm).symm.trans z
        cases z'
  | none =>
    refine go (fun b => if b = a then some (.frz { cls := .type "list", data := .seq vs.toArray } (.lst (ns.map V.int))) else if b ∈ cs.map Prod.snd then some (.tbl #[]) else none)
      (fun t ht => (if_neg (fun z => aNot (by rw [← z]; exact mTab t ht))).trans (if_pos (mTab t ht))) (fun b u z => ?_) (.inl (.inr ⟨_, if_pos rfl⟩)) (fun b u z => ?_)
    · by_cases hm : b = a
      · have z' := (if_pos hm).symm.trans z
        cases z'
        exact .inl ⟨hm, hk, _, _, rfl⟩
      · have z1 := (if_neg hm).symm.trans z
        by_cases h2 : b ∈ cs.map Prod.snd
        · exact .inr h2
        · have z' := (if_neg h2).symm.trans z1
          cases z'
    · by_cases hm : b = a
      · have z' := (if_pos hm).symm.trans z
        cases z'
        rw [hm]
        exact ⟨ha, by rw [List.length_map]; exact hl, vs, _, rv, ha⟩
      · have z1 := (if_neg hm).symm.trans z
        by_cases h2 : b ∈ cs.map Prod.snd
        · have z' := (if_pos h2).symm.trans z1
          cases z'
          exact tabAt b h2
        · have z' := (if_neg h2).symm.trans z1
          cases z'
/-- the goal that k_head leaves, for a text that makes lambdas -/
theorem walkGT {l : PySem.W.OpenLaw} {n k : Nat} {q : Program} {loose : List Str} {XP : (Str → Option Value) → Heap → Prop} {YP : World → Heap → Prop} {d : DefRec}
    {K : Params → PySem.W.Frag} {x : Str}
    (hn : l.most = some n) (hn2 : n ≤ sizeLine) (hdf : d.params.defaults = []) (hr : Room k callerA) (himp : importsNone q = true) (hY : ∀ (w : World) (h : Heap), YP w h → (K w.params).In h)
    (F : ∀ (w : World) (mg : Str → Option Value) (fa : Addr) (h : Heap), YP w h → h.Ns mainGlobals mg → mg d.name = some (.ref fa) →
      (K w.params).In h ∧ ∃ (fd : FuncData) (cs : List (Addr × Addr)) (sp : Sp), (∀ t ∈ cs, h.get? t.2 = some (PySem.W.tabObj #[])) ∧ (∀ t ∈ cs, (K w.params).lookup t.2 = none) ∧ (∀ t ∈ cs, PySem.W.CodeHd h t.1 t.2) ∧
        (∀ (s : Shared) (u : Value), BindsTo s fd ⟨[u], []⟩ [(x, u)]) ∧
        (∀ (H : Hp) (a : Addr) (ns : List Int), ns.length ≤ n → (∀ t ∈ cs, H t.2 = some (.tbl #[])) → SqL (K w.params) H a (ns.map V.int) → sp [.ref a] H (fun v _ => v = .bl true) fun _ _ _ => False) ∧
        ∀ base : Heap, (K w.params).In base → base.Ns mainGlobals mg → Sys base → (∀ t ∈ cs, TabB base mg t.1 t.2) → FnG l.prog w (K w.params) mg base k fa fd [x] sp) :
    PySem.W.WalkO q loose XP YP l.row.toRowW d [] (fun f vs => PySem.call f vs) := by
  refine Att.attach_callB hn hdf fun w s0 s1 mg mb fa o pm cd doc a vs ns G Y ho hd hcd hmg hobj hints hlen hbits hg => ?_
  obtain ⟨KX, fd, cs, sp, h1, h2, h3, hb, hsp, hF⟩ := F w mg fa _ Y G.T.g hmg
  obtain ⟨mm, hmm, _⟩ := (G.T.seer himp).mods
  exact lawGT KX G.T.g G.T.b G.T.builtins G.T.nolimit ⟨mm, hmm⟩ hg h1 h2 h3 G.T.bmain hobj hints (Nat.le_trans hlen hn2) hr hF hb fun H hH hS => hsp H a ns hlen hH hS
end L2.XK

set_option Elab.async false
set_option maxRecDepth 100000
set_option maxHeartbeats 4000000
set_option linter.all false
/-! Data on the way: what a slot holds as data, beside own lists that change; what an expression, a statement comes to. -/
namespace L2.DL
open PySem PySem.Spec PyProof.Rows XC XK Evl
/-- what is hidden: what may change -/
def hid (G : List Addr) (H : Hp) : Hp := fun a => if a ∈ G then none else H a
theorem hid_in {G : List Addr} {H : Hp} {a : Addr} (h : a ∈ G) : hid G H a = none := if_pos h
theorem hid_out {G : List Addr} {H : Hp} {a : Addr} (h : a ∉ G) : hid G H a = H a := if_neg h
theorem hid_some {G : List Addr} {H : Hp} {a : Addr} {o : HO} (h : hid G H a = some o) : a ∉ G ∧ H a = some o := by
  unfold hid at h
  split at h
  · cases h
  · exact ⟨‹_›, h⟩
theorem hidEx {G : List Addr} {H : Hp} : Ex (hid G H) H := fun a o h => (hid_some h).2
/-- all but what is hidden stands -/
def Bt (G : List Addr) (H H' : Hp) : Prop := ∀ a o, a ∉ G → H a = some o → H' a = some o
theorem Bt.refl {G : List Addr} {H : Hp} : Bt G H H := fun _ _ _ h => h
theorem Bt.trans {G : List Addr} {H H1 H2 : Hp} (a : Bt G H H1) (b : Bt G H1 H2) : Bt G H H2 := fun x o n h => b x o n (a x o n h)
theorem Bt.of {G : List Addr} {H H' : Hp} (e : Ex H H') : Bt G H H' := fun a o _ h => e a o h
theorem Bt.but {p : Addr} {H H' : Hp} (e : But p H H') : Bt [p] H H' := fun a o n h => e a o (fun z => n (by rw [z]; exact List.mem_singleton_self _)) h
theorem Bt.ex {G : List Addr} {H H' : Hp} (e : Bt G H H') : Ex (hid G H) (hid G H') := fun a o h => by
  obtain ⟨n, h⟩ := hid_some h
  rw [hid_out n]
  exact e a o n h
theorem hid_ex {G : List Addr} {H H' : Hp} (e : Ex H H') : Ex (hid G H) (hid G H') := (Bt.of e).ex
theorem hid_sub {G G' : List Addr} {H : Hp} (h : ∀ a, a ∈ G' → a ∈ G) : Ex (hid G H) (hid G' H) := fun a o e => by
  obtain ⟨n, e⟩ := hid_some e
  rw [hid_out fun z => n (h a z)]
  exact e
theorem Bt.mono {G G' : List Addr} {H H' : Hp} (h : ∀ a, a ∈ G → a ∈ G') (e : Bt G H H') : Bt G' H H' := fun a o n k => e a o (fun z => n (h a z)) k
/-- a relation between a value and what is seen of the heap -/
abbrev Rel := V → Hp → Prop
/-- it stays when more is seen -/
structure SRel where
  r : Rel
  ex : ∀ {v H H'}, Ex H H' → r v H → r v H'
mutual
inductive Rp (K : PySem.W.Frag) (H : Hp) : V → PyData → Prop
  | non : Rp K H .non .none
  | bl (b : Bool) : Rp K H (.bl b) (.bool b)
  | int (i : Int) : Rp K H (.int i) (.int i)
  | str (x : Str) (h : x.length ≤ 100000) : Rp K H (.str x) (.str x)
  | lst {a : Addr} {xs : List V} {ds : List PyData} : H a = some (.lst xs) → RpA K H xs ds → Rp K H (.ref a) (.list ds)
  | tup {a : Addr} {xs : List V} {ds : List PyData} : H a = some (.tup xs) → RpA K H xs ds → Rp K H (.ref a) (.tuple ds)
  | dic {a : Addr} {kvs : List (Key × V)} {ds : List (PyData × PyData)} : H a = some (.dK kvs) → RpA K H (kvs.map fun p => kV p.1) (ds.map (·.1)) →
      RpA K H (kvs.map (·.2)) (ds.map (·.2)) → Rp K H (.ref a) (.dict ds)
inductive RpA (K : PySem.W.Frag) (H : Hp) : List V → List PyData → Prop
  | nil : RpA K H [] []
  | cons {v : V} {vs : List V} {d : PyData} {ds : List PyData} : Rp K H v d → RpA K H vs ds → RpA K H (v :: vs) (d :: ds)
end
section
variable {K : PySem.W.Frag} {H H' : Hp}
mutual
theorem Rp.ex (e : Ex H H') : ∀ {v : V} {d : PyData}, Rp K H v d → Rp K H' v d
  | _, _, .non => .non
  | _, _, .bl b => .bl b
  | _, _, .int i => .int i
  | _, _, .str x h => .str x h
  | _, _, .lst h q => .lst (e _ _ h) (RpA.ex e q)
  | _, _, .tup h q => .tup (e _ _ h) (RpA.ex e q)
  | _, _, .dic h p q => .dic (e _ _ h) (RpA.ex e p) (RpA.ex e q)
theorem RpA.ex (e : Ex H H') : ∀ {vs : List V} {ds : List PyData}, RpA K H vs ds → RpA K H' vs ds
  | _, _, .nil => .nil
  | _, _, .cons h t => .cons (Rp.ex e h) (RpA.ex e t)
end
mutual
theorem Rp.da : ∀ {v : V} {d : PyData}, Rp K H v d → Da K H v d
  | _, _, .non => .non
  | _, _, .bl b => .bl b
  | _, _, .int i => .int i
  | _, _, .str x h => .str x h
  | _, _, .lst h q => .lst (sq_of h) (RpA.da q)
  | _, _, .tup h q => .tup (st_of h) (RpA.da q)
  | _, _, .dic h p q => .dic h
theorem RpA.da : ∀ {vs : List V} {ds : List PyData}, RpA K H vs ds → DaAll K H vs ds
  | _, _, .nil => .nil
  | _, _, .cons h t => .cons (Rp.da h) (RpA.da t)
end
theorem RpA.len : ∀ {vs : List V} {ds : List PyData}, RpA K H vs ds → vs.length = ds.length
  | _, _, .nil => rfl
  | _, _, .cons _ t => congrArg Nat.succ (RpA.len t)
theorem RpA.append : ∀ {vs ws : List V} {ds es : List PyData}, RpA K H vs ds → RpA K H ws es → RpA K H (vs ++ ws) (ds ++ es)
  | _, _, _, _, .nil, q => q
  | _, _, _, _, .cons a b, q => .cons a (RpA.append b q)
theorem RpA.get : ∀ {vs : List V} {ds : List PyData} {i : Nat} {d : PyData}, RpA K H vs ds → ds[i]? = some d → ∃ v, vs[i]? = some v ∧ Rp K H v d
  | _, _, 0, _, .cons h _, e => ⟨_, rfl, by cases e; exact h⟩
  | _, _, i + 1, _, .cons _ t, e => RpA.get (i := i) t e
  | _, _, i, _, .nil, e => by simp at e
theorem RpA.get' : ∀ {vs : List V} {ds : List PyData} {i : Nat} {v : V}, RpA K H vs ds → vs[i]? = some v → ∃ d, ds[i]? = some d ∧ Rp K H v d
  | _, _, 0, _, .cons h _, e => ⟨_, rfl, by cases e; exact h⟩
  | _, _, i + 1, _, .cons _ t, e => RpA.get' (i := i) t e
  | _, _, i, _, .nil, e => by simp at e
theorem RpA.take : ∀ {vs : List V} {ds : List PyData} (n : Nat), RpA K H vs ds → RpA K H (vs.take n) (ds.take n)
  | _, _, 0, _ => by simpa using RpA.nil
  | _, _, n + 1, .nil => by simpa using RpA.nil
  | _, _, n + 1, .cons h t => by simpa using RpA.cons h (RpA.take n t)
theorem RpA.drop : ∀ {vs : List V} {ds : List PyData} (n : Nat), RpA K H vs ds → RpA K H (vs.drop n) (ds.drop n)
  | _, _, 0, h => by simpa using h
  | _, _, n + 1, .nil => by simpa using RpA.nil
  | _, _, n + 1, .cons h t => by simpa using RpA.drop n t
theorem RpA.rep {v : V} {d : PyData} (h : Rp K H v d) : ∀ n, RpA K H (List.replicate n v) (List.replicate n d)
  | 0 => .nil
  | n + 1 => .cons h (RpA.rep h n)
theorem RpA.strs : ∀ {vs : List V} {l : List Str}, RpA K H vs (l.map PyData.str) → vs = l.map V.str ∧ ∀ x ∈ l, x.length ≤ 100000
  | _, [], .nil => ⟨rfl, fun x h => by cases h⟩
  | _, x :: l, .cons (.str _ hx) t => by
    obtain ⟨e, h⟩ := RpA.strs t
    exact ⟨by rw [e]; rfl, fun y hy => by
      rcases List.mem_cons.mp hy with rfl | hy
      · exact hx
      · exact h y hy⟩
theorem RpA.ofStrs : ∀ (l : List Str), (∀ x ∈ l, x.length ≤ 100000) → RpA K H (l.map V.str) (l.map PyData.str)
  | [], _ => .nil
  | x :: l, h => .cons (.str x (h x List.mem_cons_self)) (RpA.ofStrs l fun y hy => h y (List.mem_cons_of_mem _ hy))
end
/-- data as a relation -/
def dat (K : PySem.W.Frag) (d : PyData) : SRel := ⟨fun v H => Rp K H v d, fun e h => h.ex e⟩
/-- a written value -/
def val (x : V) : SRel := ⟨fun v _ => v = x, fun _ h => h⟩
/-- what a slot holds: what is not known, what stands, an own list or dict -/
inductive Ent where
  | un
  | it (R : SRel)
  | ow (l : Addr) (d : PyData)
def own : List Ent → List Addr
  | [] => []
  | .ow l _ :: r => l :: own r
  | _ :: r => own r
/-- the content of an own list -/
def OwR (K : PySem.W.Frag) (H h : Hp) (l : Addr) : PyData → Prop
  | .list ds => ∃ xs, H l = some (.lst xs) ∧ RpA K h xs ds
  | .dict ds => ∃ kvs : List (Key × V), H l = some (.dK kvs) ∧ RpA K h (kvs.map fun p => kV p.1) (ds.map (·.1)) ∧ RpA K h (kvs.map (·.2)) (ds.map (·.2))
  | _ => False
def EntR (K : PySem.W.Frag) (H h : Hp) : Ent → Option (Option V) → Prop
  | .un, _ => True
  | .it R, o => ∃ v, o = some (some v) ∧ R.r v h
  | .ow l d, o => o = some (some (.ref l)) ∧ OwR K H h l d
theorem own_mem {env : List Ent} {i : Nat} {l : Addr} {d : PyData} (h : env[i]? = some (.ow l d)) : l ∈ own env := by
  induction env generalizing i with
  | nil => simp at h
  | cons e r ih =>
    cases i with
    | zero =>
      simp only [List.getElem?_cons_zero, Option.some.injEq] at h
      subst h
      exact List.mem_cons_self
    | succ i =>
      have := ih (i := i) (by simpa using h)
      cases e with
      | ow m c => exact List.mem_cons_of_mem _ this
      | un => exact this
      | it R => exact this
/-- the pool, if one was handed over -/
def PoolO (H : Hp) (pl : Option Addr) (n : Int) : Prop := ∀ p, pl = some p → PoolAt H p n
/-- where a def stands: pl is its pool, G what is hidden from it, H0 the heap at its begin -/
structure At (K : PySem.W.Frag) (pl : Option Addr) (G : List Addr) (H0 : Hp) (kp : List (V × SRel)) (n : Int) (env : List Ent) (σ : L2.St) (H : Hp) : Prop where
  ent : ∀ (i : Nat) (e : Ent), env[i]? = some e → EntR K H (hid (G ++ own env) H) e (σ[i]?)
  len : σ.length = env.length
  nd : (own env).Nodup
  new : ∀ l ∈ own env, H0 l = none ∧ (H l).isSome = true
  base : Bt pl.toList H0 H
  pool : PoolO H pl n
  hG : ∀ p, pl = some p → p ∈ G
  kn : ∀ p, pl = some p → (H0 p).isSome = true
  vis : ∀ a ∈ G, (H a).isSome = true
  kept : ∀ p ∈ kp, p.2.r p.1 (hid (G ++ own env) H)
  dj : ∀ l ∈ own env, l ∉ G
end L2.DL

set_option Elab.async false
set_option maxRecDepth 100000
set_option maxHeartbeats 4000000
set_option linter.all false
/-! What an expression comes to where a def stands: operands, values, arguments, tests; with draws. -/
namespace L2.DL
open PySem PySem.Spec PyProof.Rows XC XK Evl
/-- what is read now: a list or dict may be one's own -/
inductive Tr (K : PySem.W.Frag) (h H : Hp) : V → PyData → Prop
  | st {v : V} {d : PyData} (p : Rp K h v d) : Tr K h H v d
  | lst {a : Addr} {xs : List V} {ds : List PyData} (s : H a = some (.lst xs)) (q : RpA K h xs ds) : Tr K h H (.ref a) (.list ds)
  | dic {a : Addr} {kvs : List (Key × V)} {ds : List (PyData × PyData)} (s : H a = some (.dK kvs)) (p : RpA K h (kvs.map fun p => kV p.1) (ds.map (·.1)))
      (q : RpA K h (kvs.map (·.2)) (ds.map (·.2))) : Tr K h H (.ref a) (.dict ds)
theorem Tr.list {K : PySem.W.Frag} {h H : Hp} {v : V} {ds : List PyData} (t : Tr K h H v (.list ds)) (e : Ex h H) : ∃ a xs, v = .ref a ∧ H a = some (.lst xs) ∧ RpA K h xs ds := by
  cases t with
  | st p => cases p with
    | lst s q => exact ⟨_, _, rfl, e _ _ s, q⟩
  | lst s q => exact ⟨_, _, rfl, s, q⟩
theorem Tr.tuple {K : PySem.W.Frag} {h H : Hp} {v : V} {ds : List PyData} (t : Tr K h H v (.tuple ds)) (e : Ex h H) : ∃ a xs, v = .ref a ∧ SqT K H a xs ∧ h a = some (.tup xs) ∧ RpA K h xs ds := by
  cases t with
  | st p => cases p with
    | tup s q => exact ⟨_, _, rfl, st_of (e _ _ s), s, q⟩
theorem Tr.int {K : PySem.W.Frag} {h H : Hp} {v : V} {i : Int} (t : Tr K h H v (.int i)) : v = .int i := by
  cases t with
  | st p => cases p; rfl
theorem Tr.str {K : PySem.W.Frag} {h H : Hp} {v : V} {z : Str} (t : Tr K h H v (.str z)) : v = .str z ∧ z.length ≤ 100000 := by
  cases t with
  | st p => cases p; exact ⟨rfl, ‹_›⟩
theorem Tr.bool {K : PySem.W.Frag} {h H : Hp} {v : V} {b : Bool} (t : Tr K h H v (.bool b)) : v = .bl b := by
  cases t with
  | st p => cases p; rfl
theorem Tr.none {K : PySem.W.Frag} {h H : Hp} {v : V} (t : Tr K h H v .none) : v = .non := by
  cases t with
  | st p => cases p; rfl
/-- all of it together, read in the whole heap -/
theorem Tr.rp {K : PySem.W.Frag} {h H : Hp} {v : V} {d : PyData} (t : Tr K h H v d) (e : Ex h H) : Rp K H v d := by
  cases t with
  | st p => exact p.ex e
  | lst s q => exact .lst s (q.ex e)
  | dic s p q => exact .dic s (p.ex e) (q.ex e)
theorem Tr.mono {K : PySem.W.Frag} {h H h' H' : Hp} {v : V} {d : PyData} (t : Tr K h H v d) (e : Ex h h') (E : Ex H H') : Tr K h' H' v d := by
  cases t with
  | st p => exact .st (p.ex e)
  | lst s q => exact .lst (E _ _ s) (q.ex e)
  | dic s p q => exact .dic (E _ _ s) (p.ex e) (q.ex e)
/-- where a def stands, but for its slots -/
structure Cn where
  K : PySem.W.Frag
  pl : Option Addr
  G : List Addr
  H0 : Hp
  kp : List (V × SRel) := []
section
variable (C : Cn) (n : Int) (env : List Ent)
abbrev Now (σ : L2.St) (H : Hp) : Prop := At C.K C.pl C.G C.H0 C.kp n env σ H
abbrev Cn.hd (H : Hp) : Hp := hid (C.G ++ own env) H
/-- a value that stands | what is read now | values | a test -/
def EvS (te : TE) (R : SRel) : Prop := ∀ σ H, Now C n env σ H → ∀ Q : VK, (∀ v H', Ex H H' → R.r v (C.hd env H') → Q v H') → te σ H Q
def EvD (te : TE) (d : PyData) : Prop := ∀ σ H, Now C n env σ H → ∀ Q : VK, (∀ v H', Ex H H' → Tr C.K (C.hd env H') H' v d → Q v H') → te σ H Q
inductive SAll (h : Hp) : List V → List SRel → Prop
  | nil : SAll h [] []
  | cons {v : V} {vs : List V} {R : SRel} {Rs : List SRel} : R.r v h → SAll h vs Rs → SAll h (v :: vs) (R :: Rs)
def EvSs (ta : TA) (Rs : List SRel) : Prop := ∀ σ H, Now C n env σ H → ∀ Q : List V → Hp → Prop, (∀ vs H', Ex H H' → SAll (C.hd env H') vs Rs → Q vs H') → ta σ H Q
inductive TAll (K : PySem.W.Frag) (h H : Hp) : List V → List PyData → Prop
  | nil : TAll K h H [] []
  | cons {v : V} {vs : List V} {d : PyData} {ds : List PyData} : Tr K h H v d → TAll K h H vs ds → TAll K h H (v :: vs) (d :: ds)
def EvDs (ta : TA) (ds : List PyData) : Prop := ∀ σ H, Now C n env σ H → ∀ Q : List V → Hp → Prop, (∀ vs H', Ex H H' → TAll C.K (C.hd env H') H' vs ds → Q vs H') → ta σ H Q
def EvT (tt : TT) (b : Bool) : Prop := ∀ σ H, Now C n env σ H → ∀ Q : Bool → Hp → Prop, (∀ H', Ex H H' → Q b H') → tt σ H Q
/-- with draws: what is known of the value, and how many draws there were -/
def EfE (te : TE) (F : SRel → Int → Prop) : Prop := ∀ σ H, Now C n env σ H → ∀ Q : VK, (∀ v H' R m, Bt C.pl.toList H H' → Now C m env σ H' → R.r v (C.hd env H') → F R m → Q v H') → te σ H Q
def EfA (ta : TA) (F : List SRel → Int → Prop) : Prop := ∀ σ H, Now C n env σ H → ∀ Q : List V → Hp → Prop, (∀ vs H' Rs m, Bt C.pl.toList H H' → Now C m env σ H' → SAll (C.hd env H') vs Rs → F Rs m → Q vs H') → ta σ H Q
def EfT (tt : TT) (F : Bool → Int → Prop) : Prop := ∀ σ H, Now C n env σ H → ∀ Q : Bool → Hp → Prop, (∀ b H' m, Bt C.pl.toList H H' → Now C m env σ H' → F b m → Q b H') → tt σ H Q
end
theorem SAll.ex {h h' : Hp} (e : Ex h h') : ∀ {vs : List V} {Rs : List SRel}, SAll h vs Rs → SAll h' vs Rs
  | _, _, .nil => .nil
  | _, _, .cons a t => .cons (SRel.ex _ e a) (SAll.ex e t)
theorem TAll.mono {K : PySem.W.Frag} {h H h' H' : Hp} (e : Ex h h') (E : Ex H H') : ∀ {vs : List V} {ds : List PyData}, TAll K h H vs ds → TAll K h' H' vs ds
  | _, _, .nil => .nil
  | _, _, .cons a t => .cons (a.mono e E) (TAll.mono e E t)
theorem TAll.len {K : PySem.W.Frag} {h H : Hp} : ∀ {vs : List V} {ds : List PyData}, TAll K h H vs ds → vs.length = ds.length
  | _, _, .nil => rfl
  | _, _, .cons a t => congrArg Nat.succ (TAll.len t)
theorem SAll.rpa {K : PySem.W.Frag} {h : Hp} : ∀ {vs : List V} {ds : List PyData}, SAll h vs (ds.map (dat K)) → RpA K h vs ds
  | _, [], .nil => .nil
  | _, _ :: _, .cons a t => .cons a (SAll.rpa t)
section
variable {K : PySem.W.Frag} {pl : Option Addr} {G : List Addr} {H0 : Hp} {kp : List (V × SRel)} {n : Int} {env : List Ent} {σ : L2.St} {H H' : Hp}
theorem OwR.mono {h h' : Hp} {l : Addr} {d : PyData} (e : Ex h h') (E : ∀ o, H l = some o → H' l = some o) (q : OwR K H h l d) : OwR K H' h' l d := by
  cases d with
  | list ds =>
    obtain ⟨xs, a, b⟩ := q
    exact ⟨xs, E _ a, b.ex e⟩
  | dict ds =>
    obtain ⟨xs, a, b, c⟩ := q
    exact ⟨xs, E _ a, b.ex e, c.ex e⟩
  | _ => exact q
theorem EntR.mono {h h' : Hp} {e : Ent} {o : Option (Option V)} (x : Ex h h') (E : ∀ l d, e = .ow l d → ∀ o, H l = some o → H' l = some o) (q : EntR K H h e o) : EntR K H' h' e o := by
  cases e with
  | un => trivial
  | it R =>
    obtain ⟨v, a, b⟩ := q
    exact ⟨v, a, R.ex x b⟩
  | ow l d =>
    obtain ⟨a, b⟩ := q
    exact ⟨a, b.mono x (E l d rfl)⟩
theorem PoolO.ex {m : Int} (h : PoolO H pl m) (e : Ex H H') : PoolO H' pl m := fun p z => (h p z).ex e
theorem At.ex (S : At K pl G H0 kp n env σ H) (e : Ex H H') : At K pl G H0 kp n env σ H' where
  ent i x h := (S.ent i x h).mono (hid_ex e) fun l d _ o q => e l o q
  len := S.len
  nd := S.nd
  new l h := ⟨(S.new l h).1, by
    obtain ⟨o, ho⟩ := Option.isSome_iff_exists.mp (S.new l h).2
    rw [e l o ho]
    rfl⟩
  base := S.base.trans (Bt.of e)
  pool := S.pool.ex e
  hG := S.hG
  kn := S.kn
  vis a h := by
    obtain ⟨o, ho⟩ := Option.isSome_iff_exists.mp (S.vis a h)
    rw [e a o ho]
    rfl
  kept p h := SRel.ex _ (hid_ex e) (S.kept p h)
  dj := S.dj
/-- the own lists are none of what was handed over -/
theorem At.apart (S : At K pl G H0 kp n env σ H) {l : Addr} (h : l ∈ own env) : l ∉ pl.toList := fun z => by
  cases pl with
  | none => simp at z
  | some p =>
    have z' : l = p := by simpa using z
    have a := (S.new l h).1
    have b := S.kn p rfl
    rw [z', ] at a
    rw [a] at b
    cases b
/-- behind a draw -/
theorem At.drawn {m : Int} (S : At K pl G H0 kp n env σ H) (e : Bt pl.toList H H') (P : PoolO H' pl m) : At K pl G H0 kp m env σ H' where
  ent i x h := (S.ent i x h).mono (Bt.ex (e.mono fun a z => by
    cases pl with
    | none => simp at z
    | some p =>
      have z' : a = p := by simpa using z
      rw [z']
      exact List.mem_append_left _ (S.hG p rfl))) fun l d hd o q => e l o (S.apart (by subst hd; exact own_mem h)) q
  len := S.len
  nd := S.nd
  new l h := ⟨(S.new l h).1, by
    obtain ⟨o, ho⟩ := Option.isSome_iff_exists.mp (S.new l h).2
    rw [e l o (S.apart h) ho]
    rfl⟩
  base := S.base.trans e
  pool := P
  hG := S.hG
  kn := S.kn
  vis a h := by
    obtain ⟨o, ho⟩ := Option.isSome_iff_exists.mp (S.vis a h)
    by_cases z : a ∈ pl.toList
    · cases pl with
      | none => simp at z
      | some p =>
        have z' : a = p := by simpa using z
        obtain ⟨_, _, _, hp, _⟩ := P p rfl
        rw [z', hp]
        rfl
    · rw [e a o z ho]
      rfl
  kept p h := SRel.ex _ (Bt.ex (e.mono fun a z => by
    cases pl with
    | none => simp at z
    | some p =>
      have z' : a = p := by simpa using z
      rw [z']
      exact List.mem_append_left _ (S.hG p rfl))) (S.kept p h)
  dj := S.dj
theorem At.hex (S : At K pl G H0 kp n env σ H) (e : Bt pl.toList H H') : Ex (hid (G ++ own env) H) (hid (G ++ own env) H') := Bt.ex (e.mono fun a z => by
    cases pl with
    | none => simp at z
    | some p =>
      have z' : a = p := by simpa using z
      rw [z']
      exact List.mem_append_left _ (S.hG p rfl))
end
section
variable {C : Cn} {n : Int} {env : List Ent} {ta tb te tc : TE} {tas : TA} {R R' : SRel} {d e f : PyData} {i : Nat}
theorem es_var (h : env[i]? = some (.it R)) : EvS C n env (tVar i) R := fun σ H S Q q => by
  obtain ⟨v, e, r⟩ := S.ent i _ h
  exact ⟨v, e, q v H (Ex.refl _) r⟩
theorem ed_s (h : EvS C n env te (dat C.K d)) : EvD C n env te d := fun σ H S Q q => h σ H S Q fun v H' e r => q v H' e (.st r)
theorem ed_own {l : Addr} (h : env[i]? = some (.ow l d)) : EvD C n env (tVar i) d := fun σ H S Q q => by
  obtain ⟨e, r⟩ := S.ent i _ h
  refine ⟨_, e, q _ H (Ex.refl _) ?_⟩
  cases d with
  | list ds =>
    obtain ⟨xs, a, b⟩ := r
    exact .lst a b
  | dict ds =>
    obtain ⟨kvs, a, b, c⟩ := r
    exact .dic a b c
  | _ => exact r.elim
theorem es_int {j : Int} : EvS C n env (tC (.int j)) (dat C.K (.int j)) := fun σ H S Q q => q _ H (Ex.refl _) (.int j)
theorem es_str {z : Str} (h : z.length ≤ 100000) : EvS C n env (tC (.str z)) (dat C.K (.str z)) := fun σ H S Q q => q _ H (Ex.refl _) (.str z h)
theorem es_bl {b : Bool} : EvS C n env (tC (.bl b)) (dat C.K (.bool b)) := fun σ H S Q q => q _ H (Ex.refl _) (.bl b)
theorem es_non : EvS C n env (tC .non) (dat C.K .none) := fun σ H S Q q => q _ H (Ex.refl _) .non
theorem es_c {v : V} (h : ∀ H, R.r v H) : EvS C n env (tC v) R := fun σ H S Q q => q _ H (Ex.refl _) (h _)
theorem es_cast (h : EvS C n env te R) (k : ∀ v H, R.r v H → R'.r v H) : EvS C n env te R' := fun σ H S Q q => h σ H S Q fun v H' e r => q v H' e (k _ _ r)
theorem ed_is (h : EvD C n env te d) (e : d = f) : EvD C n env te f := e ▸ h
theorem es_is (h : EvS C n env te (dat C.K d)) (e : d = f) : EvS C n env te (dat C.K f) := e ▸ h
theorem ess_nil : EvSs C n env tNil [] := fun σ H S Q q => q [] H (Ex.refl _) .nil
theorem ess_cons {Rs : List SRel} (h : EvS C n env te R) (t : EvSs C n env tas Rs) : EvSs C n env (tCons te tas) (R :: Rs) := fun σ H S Q q =>
  h σ H S _ fun v H1 e1 r1 => t σ H1 (S.ex e1) _ fun vs H2 e2 r2 => q _ H2 (e1.trans e2) (.cons (R.ex (hid_ex e2) r1) r2)
theorem eds_nil : EvDs C n env tNil [] := fun σ H S Q q => q [] H (Ex.refl _) .nil
theorem eds_cons {ds : List PyData} (h : EvD C n env te d) (t : EvDs C n env tas ds) : EvDs C n env (tCons te tas) (d :: ds) := fun σ H S Q q =>
  h σ H S _ fun v H1 e1 r1 => t σ H1 (S.ex e1) _ fun vs H2 e2 r2 => q _ H2 (e1.trans e2) (.cons (r1.mono (hid_ex e2) e2) r2)
/-- new objects: their addresses are none of what is hidden -/
theorem At.fresh {σ : L2.St} {H : Hp} (S : Now C n env σ H) {p : Addr} (h : H p = none) : p ∉ C.G ++ own env := fun z => by
  rcases List.mem_append.mp z with z | z
  · have := S.vis p z
    rw [h] at this
    cases this
  · have := (S.new p z).2
    rw [h] at this
    cases this
theorem hidNew {G : List Addr} {H : Hp} {p : Addr} {o : HO} (h : p ∉ G) : hid G (upd H p o) p = some o := by
  rw [hid_out h, upd_same]
theorem es_lst {ds : List PyData} (h : EvSs C n env tas (ds.map (dat C.K))) (hl : ds.length ≤ 100000) : EvS C n env (tLst tas) (dat C.K (.list ds)) := fun σ H S Q q =>
  h σ H S _ fun vs H1 e1 r1 => by
    have r := SAll.rpa r1
    refine ⟨sz_of (by rw [r.len]; exact hl), fun p hp => q _ _ (e1.trans (Ex.new hp)) ?_⟩
    exact (.lst (hidNew ((S.ex e1).fresh hp)) (r.ex (hid_ex (Ex.new hp))))
theorem es_tup {ds : List PyData} (h : EvSs C n env tas (ds.map (dat C.K))) (hl : ds.length ≤ 100000) : EvS C n env (tTup tas) (dat C.K (.tuple ds)) := fun σ H S Q q =>
  h σ H S _ fun vs H1 e1 r1 => by
    have r := SAll.rpa r1
    refine ⟨sz_of (by rw [r.len]; exact hl), fun p hp => q _ _ (e1.trans (Ex.new hp)) ?_⟩
    exact (.tup (hidNew ((S.ex e1).fresh hp)) (r.ex (hid_ex (Ex.new hp))))
/-- values that are data -/
def EvSd (C : Cn) (n : Int) (env : List Ent) (ta : TA) (ds : List PyData) : Prop := EvSs C n env ta (ds.map (dat C.K))
theorem esd_nil : EvSd C n env tNil [] := ess_nil
theorem esd_cons {ds : List PyData} (h : EvS C n env te (dat C.K d)) (t : EvSd C n env tas ds) : EvSd C n env (tCons te tas) (d :: ds) := ess_cons h t
theorem es_list {ds : List PyData} (h : EvSd C n env tas ds) (hl : ds.length ≤ 100000) : EvS C n env (tLst tas) (dat C.K (.list ds)) := es_lst h hl
theorem es_tuple {ds : List PyData} (h : EvSd C n env tas ds) (hl : ds.length ≤ 100000) : EvS C n env (tTup tas) (dat C.K (.tuple ds)) := es_tup h hl
theorem et_B {b : Bool} (h : EvD C n env te (.bool b)) : EvT C n env (tB te) b := fun σ H S Q q => h σ H S _ fun v H1 e r => ⟨b, r.bool, q H1 e⟩
/-- a two-place operation upon data; what stands is hidden but for G -/
def OpD (K : PySem.W.Frag) (r : R2) (d e f : PyData) : Prop := ∀ (G : List Addr) (H : Hp) (x y : V), (∀ p, H p = none → p ∉ G) → Tr K (hid G H) H x d → Tr K (hid G H) H y e →
  ∀ Q : VK, (∀ v H', Ex H H' → Rp K (hid G H') v f → Q v H') → r x y H Q
def CallD (K : PySem.W.Frag) (r : List V → Hp → VK → Prop) (ds : List PyData) (f : PyData) : Prop := ∀ (G : List Addr) (H : Hp) (xs : List V), (∀ p, H p = none → p ∉ G) → TAll K (hid G H) H xs ds →
  ∀ Q : VK, (∀ v H', Ex H H' → Rp K (hid G H') v f → Q v H') → r xs H Q
def MethD (K : PySem.W.Frag) (T : String) (r : V → List V → Hp → VK → Prop) (d : PyData) (ds : List PyData) (f : PyData) : Prop := (∀ h H x, Ex h H → Tr K h H x d → tyV K T x H) ∧
  ∀ (G : List Addr) (H : Hp) (x : V) (xs : List V), (∀ p, H p = none → p ∉ G) → Tr K (hid G H) H x d → TAll K (hid G H) H xs ds → ∀ Q : VK, (∀ v H', Ex H H' → Rp K (hid G H') v f → Q v H') → r x xs H Q
theorem es_op {r : R2} (ha : EvD C n env ta d) (hb : EvD C n env tb e) (hr : OpD C.K r d e f) : EvS C n env (tOp r ta tb) (dat C.K f) := fun σ H S Q q =>
  ha σ H S _ fun v H1 e1 r1 => hb σ H1 (S.ex e1) _ fun v2 H2 e2 r2 => hr _ H2 v v2 (fun p hp => (S.ex (e1.trans e2)).fresh hp) (r1.mono (hid_ex e2) e2) r2 Q fun w H3 e3 r3 => q w H3 ((e1.trans e2).trans e3) r3
theorem es_call {r : List V → Hp → VK → Prop} {ds : List PyData} (h : EvDs C n env tas ds) (hr : CallD C.K r ds f) : EvS C n env (tCB r tas) (dat C.K f) := fun σ H S Q q =>
  h σ H S _ fun vs H1 e1 r1 => hr _ H1 vs (fun p hp => (S.ex e1).fresh hp) r1 Q fun w H3 e3 r3 => q w H3 (e1.trans e3) r3
theorem es_meth {T : String} {r : V → List V → Hp → VK → Prop} {ds : List PyData} (ha : EvD C n env ta d) (h : EvDs C n env tas ds) (hr : MethD C.K T r d ds f) : EvS C n env (tBM C.K T r ta tas) (dat C.K f) := fun σ H S Q q =>
  ha σ H S _ fun v H1 e1 r1 => ⟨hr.1 _ _ _ hidEx r1, h σ H1 (S.ex e1) _ fun vs H2 e2 r2 => hr.2 _ H2 v vs (fun p hp => (S.ex (e1.trans e2)).fresh hp) (r1.mono (hid_ex e2) e2) r2 Q fun w H3 e3 r3 => q w H3 ((e1.trans e2).trans e3) r3⟩
/-! tests -/
theorem et_val {b : Bool} (h : EvD C n env te (.bool b)) : EvT C n env (tTest te) b := fun σ H S Q q => h σ H S _ fun v H1 e r => ⟨b, r.bool, q H1 e⟩
theorem et_not {t : TT} {b : Bool} (h : EvT C n env t b) : EvT C n env (tNot t) (!b) := fun σ H S Q q => h σ H S _ fun H1 e => q H1 e
theorem et_and {t u : TT} {b c : Bool} (h : EvT C n env t b) (k : b = true → EvT C n env u c) : EvT C n env (tAnd t u) (b && c) := fun σ H S Q q => h σ H S _ fun H1 e => by
  cases b with
  | true =>
    show u σ H1 Q
    exact k rfl σ H1 (S.ex e) Q fun H2 e2 => q H2 (e.trans e2)
  | false =>
    show Q false H1
    exact q H1 e
theorem et_or {t u : TT} {b c : Bool} (h : EvT C n env t b) (k : b = false → EvT C n env u c) : EvT C n env (tOr t u) (b || c) := fun σ H S Q q => h σ H S _ fun H1 e => by
  cases b with
  | true =>
    show Q true H1
    exact q H1 e
  | false =>
    show u σ H1 Q
    exact k rfl σ H1 (S.ex e) Q fun H2 e2 => q H2 (e.trans e2)
theorem es_not {b : Bool} (h : EvD C n env te (.bool b)) : EvS C n env (tNotV te) (dat C.K (.bool (!b))) := fun σ H S Q q => h σ H S _ fun v H1 e r => ⟨b, r.bool, q _ H1 e (.bl _)⟩
theorem es_and {b c : Bool} (h : EvD C n env ta (.bool b)) (k : b = true → EvD C n env tb (.bool c)) : EvS C n env (tAndV ta tb) (dat C.K (.bool (b && c))) := fun σ H S Q q => h σ H S _ fun v H1 e r => ⟨b, r.bool, by
  cases b with
  | true => exact (if_pos rfl).mpr (k rfl σ H1 (S.ex e) Q fun w H2 e2 r2 => by rw [r2.bool]; exact q _ H2 (e.trans e2) (.bl _))
  | false => exact (if_neg (by decide)).mpr (q _ H1 e (.bl _))⟩
theorem es_or {b c : Bool} (h : EvD C n env ta (.bool b)) (k : b = false → EvD C n env tb (.bool c)) : EvS C n env (tOrV ta tb) (dat C.K (.bool (b || c))) := fun σ H S Q q => h σ H S _ fun v H1 e r => ⟨b, r.bool, by
  cases b with
  | true => exact (if_pos rfl).mpr (q _ H1 e (.bl _))
  | false => exact (if_neg (by decide)).mpr (k rfl σ H1 (S.ex e) Q fun w H2 e2 r2 => by rw [r2.bool]; exact q _ H2 (e.trans e2) (.bl _))⟩
theorem es_if {t : TT} {b : Bool} (h : EvT C n env t b) (h1 : b = true → EvS C n env ta R) (h2 : b = false → EvS C n env tb R) : EvS C n env (tIf t ta tb) R := fun σ H S Q q => h σ H S _ fun H1 e => by
  cases b with
  | true => exact (if_pos rfl).mpr (h1 rfl σ H1 (S.ex e) Q fun w H2 e2 r2 => q _ H2 (e.trans e2) r2)
  | false => exact (if_neg (by decide)).mpr (h2 rfl σ H1 (S.ex e) Q fun w H2 e2 r2 => q _ H2 (e.trans e2) r2)
/-! with draws -/
theorem ef_s {F : SRel → Int → Prop} (h : EvS C n env te R) (k : F R n) : EfE C n env te F := fun σ H S Q q => h σ H S _ fun v H1 e r => q v H1 R n (Bt.of e) (S.ex e) r k
theorem ef_mono {F F' : SRel → Int → Prop} (h : EfE C n env te F) (k : ∀ R m, F R m → F' R m) : EfE C n env te F' := fun σ H S Q q => h σ H S _ fun v H1 R m e S1 r f => q v H1 R m e S1 r (k _ _ f)
theorem ea_s {F : List SRel → Int → Prop} {Rs : List SRel} (h : EvSs C n env tas Rs) (k : F Rs n) : EfA C n env tas F := fun σ H S Q q => h σ H S _ fun v H1 e r => q v H1 Rs n (Bt.of e) (S.ex e) r k
theorem ea_cons {F : List SRel → Int → Prop} (h : EfE C n env te fun R m => EfA C m env tas fun Rs k => F (R :: Rs) k) : EfA C n env (tCons te tas) F := fun σ H S Q q =>
  h σ H S _ fun v H1 R m e1 S1 r1 f1 => f1 σ H1 S1 _ fun vs H2 Rs k e2 S2 r2 f2 => q _ H2 (R :: Rs) k (e1.trans e2) S2 (.cons (R.ex (S1.hex e2) r1) r2) f2
theorem ea_nil {F : List SRel → Int → Prop} (k : F [] n) : EfA C n env tNil F := fun σ H S Q q => q [] H [] n Bt.refl S .nil k
theorem ef_op {r : R2} {F : SRel → Int → Prop} (h : EfE C n env ta fun R m => ∃ d, R = dat C.K d ∧ EfE C m env tb fun R2 k => ∃ e f, R2 = dat C.K e ∧ OpD C.K r d e f ∧ F (dat C.K f) k) : EfE C n env (tOp r ta tb) F := fun σ H S Q q =>
  h σ H S _ fun v H1 R m e1 S1 r1 f1 => by
    obtain ⟨d, rfl, f1⟩ := f1
    refine f1 σ H1 S1 _ fun v2 H2 R2 k e2 S2 r2 f2 => ?_
    obtain ⟨e, f, rfl, hr, f2⟩ := f2
    exact hr _ H2 v v2 (fun p hp => S2.fresh hp) (.st ((dat C.K d).ex (S1.hex e2) r1)) (.st r2) Q fun w H3 e3 r3 => q w H3 _ k ((e1.trans e2).trans (Bt.of e3)) (S2.ex e3) r3 f2
theorem ef_call {r : List V → Hp → VK → Prop} {F : SRel → Int → Prop} (h : EfA C n env tas fun Rs m => ∃ ds f, Rs = ds.map (dat C.K) ∧ CallD C.K r ds f ∧ F (dat C.K f) m) : EfE C n env (tCB r tas) F := fun σ H S Q q =>
  h σ H S _ fun vs H1 Rs m e1 S1 r1 f1 => by
    obtain ⟨ds, f, rfl, hr, f1⟩ := f1
    have t : TAll C.K (C.hd env H1) H1 vs ds := by
      have := SAll.rpa r1
      clear hr q r1
      induction ds generalizing vs with
      | nil => cases this; exact .nil
      | cons d ds ih => cases this with
        | cons a b => exact .cons (.st a) (ih _ b)
    exact hr _ H1 vs (fun p hp => S1.fresh hp) t Q fun w H3 e3 r3 => q w H3 _ m (e1.trans (Bt.of e3)) (S1.ex e3) r3 f1
theorem ef_lst {F : SRel → Int → Prop} (h : EfA C n env tas fun Rs m => ∃ ds, Rs = ds.map (dat C.K) ∧ ds.length ≤ 100000 ∧ F (dat C.K (.list ds)) m) : EfE C n env (tLst tas) F := fun σ H S Q q =>
  h σ H S _ fun vs H1 Rs m e1 S1 r1 f1 => by
    obtain ⟨ds, rfl, hl, f1⟩ := f1
    have r := SAll.rpa r1
    refine ⟨sz_of (by rw [r.len]; exact hl), fun p hp => q _ _ _ m (e1.trans (Bt.of (Ex.new hp))) (S1.ex (Ex.new hp)) ?_ f1⟩
    exact (.lst (hidNew (S1.fresh hp)) (r.ex (hid_ex (Ex.new hp))))
theorem ef_tup {F : SRel → Int → Prop} (h : EfA C n env tas fun Rs m => ∃ ds, Rs = ds.map (dat C.K) ∧ ds.length ≤ 100000 ∧ F (dat C.K (.tuple ds)) m) : EfE C n env (tTup tas) F := fun σ H S Q q =>
  h σ H S _ fun vs H1 Rs m e1 S1 r1 f1 => by
    obtain ⟨ds, rfl, hl, f1⟩ := f1
    have r := SAll.rpa r1
    refine ⟨sz_of (by rw [r.len]; exact hl), fun p hp => q _ _ _ m (e1.trans (Bt.of (Ex.new hp))) (S1.ex (Ex.new hp)) ?_ f1⟩
    exact (.tup (hidNew (S1.fresh hp)) (r.ex (hid_ex (Ex.new hp))))
theorem ef_if {t : TT} {F : SRel → Int → Prop} {b : Bool} (h : EvT C n env t b) (h1 : b = true → EfE C n env ta F) (h2 : b = false → EfE C n env tb F) : EfE C n env (tIf t ta tb) F := fun σ H S Q q => h σ H S _ fun H1 e => by
  cases b with
  | true => exact (if_pos rfl).mpr (h1 rfl σ H1 (S.ex e) Q fun w H2 R m e2 S2 r2 => q _ H2 R m ((Bt.of e).trans e2) S2 r2)
  | false => exact (if_neg (by decide)).mpr (h2 rfl σ H1 (S.ex e) Q fun w H2 R m e2 S2 r2 => q _ H2 R m ((Bt.of e).trans e2) S2 r2)
theorem eft_t {t : TT} {F : Bool → Int → Prop} {b : Bool} (h : EvT C n env t b) (k : F b n) : EfT C n env t F := fun σ H S Q q => h σ H S _ fun H1 e => q b H1 n (Bt.of e) (S.ex e) k
theorem eft_B {F : Bool → Int → Prop} (h : EfE C n env te fun R m => ∃ b, R = dat C.K (.bool b) ∧ F b m) : EfT C n env (tB te) F := fun σ H S Q q => h σ H S _ fun v H1 R m e S1 r f => by
  obtain ⟨b, rfl, f⟩ := f
  exact ⟨b, (show Tr C.K (C.hd env H1) H1 v (.bool b) from .st r).bool, q b H1 m e S1 f⟩
theorem eft_not {t : TT} {F : Bool → Int → Prop} (h : EfT C n env t fun b m => F (!b) m) : EfT C n env (tNot t) F := fun σ H S Q q => h σ H S _ fun b H1 m e S1 f => q (!b) H1 m e S1 f
theorem eft_val {F : Bool → Int → Prop} (h : EfE C n env te fun R m => ∃ b, R = dat C.K (.bool b) ∧ F b m) : EfT C n env (tTest te) F := fun σ H S Q q => h σ H S _ fun v H1 R m e S1 r f => by
  obtain ⟨b, rfl, f⟩ := f
  exact ⟨b, (show Tr C.K (C.hd env H1) H1 v (.bool b) from .st r).bool, q b H1 m e S1 f⟩
end
end L2.DL

set_option Elab.async false
set_option maxRecDepth 100000
set_option maxHeartbeats 4000000
set_option linter.all false
/-! Operations upon data. -/
namespace L2.DL
open PySem PySem.Spec PyProof.Rows XC XK Evl TL
section
variable {K : PySem.W.Frag} {i j : Int} {s t : Str} {ds es : List PyData} {d e f : PyData} {b : Bool}
theorem app_len (x y : Str) : (x ++ y).length = x.length + y.length := by
  rw [len_tl, tl_append, List.length_append, ← len_tl, ← len_tl]
theorem joinL_len (S : List Nat) : ∀ l : List (List Nat), (joinL S l).length ≤ (l.map List.length).sum + l.length * S.length
  | [] => by simp [joinL]
  | [p] => by simp [joinL]
  | p :: q :: r => by
    have ih := joinL_len S (q :: r)
    show (p ++ (S ++ joinL S (q :: r))).length ≤ _
    rw [List.length_append, List.length_append, List.map_cons, List.sum_cons, List.length_cons, Nat.add_mul]
    omega
def sign1 (c : Nat) : Str := ⟨#[c]⟩
theorem join_signs : ∀ zs : List Nat, joinL [] ((zs.map sign1).map tl) = zs
  | [] => rfl
  | [c] => rfl
  | c :: d :: zs => by
    have ih := join_signs (d :: zs)
    simp only [List.map_cons, joinL, List.nil_append] at ih ⊢
    rw [ih]
    rfl
theorem tl_signs (zs : List Nat) : tl (Txt.join ("" : Str) (zs.map sign1)) = zs := by
  rw [join_eq, tl_join]
  exact join_signs zs
theorem sum_one : ∀ zs : List Nat, ((zs.map sign1).map (·.length)).sum = zs.length
  | [] => rfl
  | c :: zs => by
    rw [List.map_cons, List.map_cons, List.sum_cons, sum_one zs, List.length_cons]
    show 1 + zs.length = _
    omega
def alphabet : Str := "abcdefghijklmnopqrstuvwxyz"
theorem alpha_at : ∀ j : Nat, j < 26 → atI alphabet.cps.toList (j : Int) = some (97 + j) := by decide +kernel
theorem rp_big {H : Hp} {z : Str} (h : z.length ≤ 100000) : Rp K H (.str z) (.str z) := .str z h
theorem od_I0 {g : Int → Int → V} (h : ∀ H, Rp K H (g i j) f) : OpD K (rI0 g) (.int i) (.int j) f := fun G H x y _ tx ty Q q => by
  rw [tx.int, ty.int]
  exact ⟨i, j, rfl, rfl, q _ H (Ex.refl _) (h _)⟩
theorem od_I {c : Int → Int → Prop} {g : Int → Int → V} (hc : c i j) (h : ∀ H, Rp K H (g i j) f) : OpD K (rI c g) (.int i) (.int j) f := fun G H x y _ tx ty Q q => by
  rw [tx.int, ty.int]
  exact ⟨i, j, rfl, rfl, hc, q _ H (Ex.refl _) (h _)⟩
theorem od_add : OpD K (rI0 fun i j => .int (i + j)) (.int i) (.int j) (.int (i + j)) := od_I0 fun _ => .int _
theorem od_sub : OpD K (rI0 fun i j => .int (i - j)) (.int i) (.int j) (.int (i - j)) := od_I0 fun _ => .int _
theorem od_mul (h : CMul i j) : OpD K (rI CMul fun i j => .int (i * j)) (.int i) (.int j) (.int (i * j)) := od_I h fun _ => .int _
theorem od_mod (h : 0 < j) : OpD K (rI (fun _ j => 0 < j) fun i j => .int (i % j)) (.int i) (.int j) (.int (i % j)) := od_I h fun _ => .int _
theorem od_lt : OpD K (rI0 fun i j => .bl (decide (i < j))) (.int i) (.int j) (.bool (decide (i < j))) := od_I0 fun _ => .bl _
theorem od_le : OpD K (rI0 fun i j => .bl (decide (i ≤ j))) (.int i) (.int j) (.bool (decide (i ≤ j))) := od_I0 fun _ => .bl _
theorem od_gt : OpD K (rI0 fun i j => .bl (decide (j < i))) (.int i) (.int j) (.bool (decide (j < i))) := od_I0 fun _ => .bl _
theorem od_ge : OpD K (rI0 fun i j => .bl (decide (j ≤ i))) (.int i) (.int j) (.bool (decide (j ≤ i))) := od_I0 fun _ => .bl _
theorem od_eqI : OpD K rEq (.int i) (.int j) (.bool (decide (i = j))) := fun G H x y _ tx ty Q q => by
  rw [tx.int, ty.int]
  refine ⟨rfl, q _ H (Ex.refl _) ?_⟩
  rw [show decide (V.int i = V.int j) = decide (i = j) by simp]
  exact .bl _
theorem od_neI : OpD K rNe (.int i) (.int j) (.bool (!decide (i = j))) := fun G H x y _ tx ty Q q => by
  rw [tx.int, ty.int]
  refine ⟨rfl, q _ H (Ex.refl _) ?_⟩
  rw [show decide (V.int i = V.int j) = decide (i = j) by simp]
  exact .bl _
theorem od_eqS : OpD K rEq (.str s) (.str t) (.bool (decide (s = t))) := fun G H x y _ tx ty Q q => by
  rw [tx.str.1, ty.str.1]
  refine ⟨rfl, q _ H (Ex.refl _) ?_⟩
  rw [show decide (V.str s = V.str t) = decide (s = t) by simp]
  exact .bl _
theorem od_neS : OpD K rNe (.str s) (.str t) (.bool (!decide (s = t))) := fun G H x y _ tx ty Q q => by
  rw [tx.str.1, ty.str.1]
  refine ⟨rfl, q _ H (Ex.refl _) ?_⟩
  rw [show decide (V.str s = V.str t) = decide (s = t) by simp]
  exact .bl _
theorem od_addS (h : s.length + t.length ≤ 100000) : OpD K (fun x y H Q => ∃ i j, x = .str i ∧ y = .str j ∧ i.length + j.length ≤ sizeLine ∧ Q (.str (i ++ j)) H) (.str s) (.str t) (.str (s ++ t)) := fun G H x y _ tx ty Q q => by
  rw [tx.str.1, ty.str.1]
  exact ⟨s, t, rfl, rfl, sz_of h, q _ H (Ex.refl _) (.str _ (by rw [app_len]; exact h))⟩
/-- lists that are not locked: for + and * the library asks tracked ones -/
inductive Tl (h H : Hp) (K : PySem.W.Frag) : V → List PyData → Prop
  | mk {a : Addr} {xs : List V} {ds : List PyData} (s : H a = some (.lst xs)) (q : RpA K h xs ds) : Tl h H K (.ref a) ds
mutual
/-- no dict anywhere -/
def plainD : PyData → Bool
  | .dict _ => false
  | .list xs => plainA xs
  | .tuple xs => plainA xs
  | _ => true
def plainA : List PyData → Bool
  | [] => true
  | x :: xs => plainD x && plainA xs
end
mutual
theorem plain_of_can : ∀ d : PyData, d.canLay0 = true → plainD d = true
  | .none, _ => rfl
  | .bool _, _ => rfl
  | .int _, _ => rfl
  | .str _, _ => rfl
  | .list xs, h => by
    unfold plainD
    exact plainA_of_can xs (by simpa [PyData.canLay0] using h)
  | .tuple xs, h => by
    unfold plainD
    exact plainA_of_can xs (by simpa [PyData.canLay0] using h)
  | .dict _, h => by simp [PyData.canLay0] at h
theorem plainA_of_can : ∀ ds : List PyData, PyData.canLayAll0 ds = true → plainA ds = true
  | [], _ => rfl
  | d :: ds, h => by
    have h' : d.canLay0 = true ∧ PyData.canLayAll0 ds = true := by simpa [PyData.canLayAll0] using h
    unfold plainA
    rw [plain_of_can d h'.1, plainA_of_can ds h'.2]
    rfl
end
mutual
theorem Rp.dp {H : Hp} : ∀ {v : V} {d : PyData}, Rp K H v d → plainD d = true → Dp K H v d
  | _, _, .non, _ => .non
  | _, _, .bl b, _ => .bl b
  | _, _, .int i, _ => .int i
  | _, _, .str x h, _ => .str x
  | _, _, .lst h q, p => .lst (sq_of h) (RpA.dp q (by simpa [plainD] using p))
  | _, _, .tup h q, p => .tup (st_of h) (RpA.dp q (by simpa [plainD] using p))
  | _, _, .dic h _ _, p => by simp [plainD] at p
theorem RpA.dp {H : Hp} : ∀ {vs : List V} {ds : List PyData}, RpA K H vs ds → plainA ds = true → DpAll K H vs ds
  | _, _, .nil, _ => .nil
  | _, _, .cons h t, p => by
    have p' := p
    simp only [plainA, Bool.and_eq_true] at p'
    exact .cons (Rp.dp h p'.1) (RpA.dp t p'.2)
end
theorem shaped_plain {d : PyData} (h : SeqAt.shaped d = true) : plainD d = true := by
  unfold SeqAt.shaped at h
  rw [Bool.and_eq_true] at h
  exact plain_of_can d h.1
theorem od_eqD (h1 : SeqAt.shaped d = true) (h2 : SeqAt.shaped e = true) : OpD K (rEqD K) d e (.bool (PyData.eqv d e)) := fun G H x y _ tx ty Q q =>
  ⟨d, e, (tx.rp hidEx).dp (shaped_plain h1), (ty.rp hidEx).dp (shaped_plain h2), h1, h2, q _ H (Ex.refl _) (.bl _)⟩
theorem od_neD (h1 : SeqAt.shaped d = true) (h2 : SeqAt.shaped e = true) : OpD K (rNeD K) d e (.bool (!PyData.eqv d e)) := fun G H x y _ tx ty Q q =>
  ⟨d, e, (tx.rp hidEx).dp (shaped_plain h1), (ty.rp hidEx).dp (shaped_plain h2), h1, h2, q _ H (Ex.refl _) (.bl _)⟩
theorem od_isN : OpD K (fun x y H Q => y = .non ∧ Q (.bl (decide (x = .non))) H) d .none (.bool (match d with | .none => true | _ => false)) := fun G H x y _ tx ty Q q => by
  refine ⟨ty.none, q _ H (Ex.refl _) ?_⟩
  cases tx with
  | st p => cases p <;> exact .bl _
  | lst _ _ => exact .bl _
  | dic _ _ _ => exact .bl _
theorem od_notN : OpD K (fun x y H Q => y = .non ∧ Q (.bl (!decide (x = .non))) H) d .none (.bool (match d with | .none => false | _ => true)) := fun G H x y _ tx ty Q q => by
  refine ⟨ty.none, q _ H (Ex.refl _) ?_⟩
  cases tx with
  | st p => cases p <;> exact .bl _
  | lst _ _ => exact .bl _
  | dic _ _ _ => exact .bl _
/-! in: texts in a list or tuple of texts -/
theorem inStr {s : Str} : ∀ {l : List Str}, inV (.str s) (l.map V.str) = decide (s ∈ l)
  | [] => by rw [show inV (.str s) ([].map V.str) = false from rfl]; simp
  | x :: l => by
    have ih := inStr (s := s) (l := l)
    unfold inV at ih ⊢
    rw [List.map_cons, List.any_cons, ih]
    show ((x == s) || _) = _
    rw [Bool.eq_iff_iff]
    simp only [Bool.or_eq_true, beq_iff_eq, decide_eq_true_eq, List.mem_cons]
    constructor
    · rintro (h | h)
      · exact .inl h.symm
      · exact .inr h
    · rintro (h | h)
      · exact .inl h.symm
      · exact .inr h
theorem flatS (l : List Str) : (l.map V.str).all flatV = true := by
  rw [List.all_map]
  exact List.all_eq_true.mpr fun _ _ => rfl
theorem od_inL {l : List Str} : OpD K (rIn K false) (.str s) (.list (l.map .str)) (.bool (decide (s ∈ l))) := fun G H x y _ tx ty Q q => by
  obtain ⟨a, xs, rfl, hs, hq⟩ := ty.list hidEx
  obtain ⟨rfl, _⟩ := hq.strs
  rw [tx.str.1]
  exact ⟨a, _, rfl, .inl (sq_of hs), rfl, flatS l, q _ H (Ex.refl _) (by rw [if_neg (by decide), inStr]; exact .bl _)⟩
theorem od_notinL {l : List Str} : OpD K (rIn K true) (.str s) (.list (l.map .str)) (.bool (!decide (s ∈ l))) := fun G H x y _ tx ty Q q => by
  obtain ⟨a, xs, rfl, hs, hq⟩ := ty.list hidEx
  obtain ⟨rfl, _⟩ := hq.strs
  rw [tx.str.1]
  exact ⟨a, _, rfl, .inl (sq_of hs), rfl, flatS l, q _ H (Ex.refl _) (by rw [if_pos rfl, inStr]; exact .bl _)⟩
theorem od_inT {l : List Str} : OpD K (rIn K false) (.str s) (.tuple (l.map .str)) (.bool (decide (s ∈ l))) := fun G H x y _ tx ty Q q => by
  obtain ⟨a, xs, rfl, hs, _, hq⟩ := ty.tuple hidEx
  obtain ⟨rfl, _⟩ := hq.strs
  rw [tx.str.1]
  exact ⟨a, _, rfl, .inr hs, rfl, flatS l, q _ H (Ex.refl _) (by rw [if_neg (by decide), inStr]; exact .bl _)⟩
theorem od_notinT {l : List Str} : OpD K (rIn K true) (.str s) (.tuple (l.map .str)) (.bool (!decide (s ∈ l))) := fun G H x y _ tx ty Q q => by
  obtain ⟨a, xs, rfl, hs, _, hq⟩ := ty.tuple hidEx
  obtain ⟨rfl, _⟩ := hq.strs
  rw [tx.str.1]
  exact ⟨a, _, rfl, .inr hs, rfl, flatS l, q _ H (Ex.refl _) (by rw [if_pos rfl, inStr]; exact .bl _)⟩
/-! index -/
theorem atI_map {α β : Type} (g : α → β) (xs : List α) (i : Int) : atI (xs.map g) i = (atI xs i).map g := by
  unfold atI
  rw [List.length_map]
  cases ixN xs.length i <;> simp
theorem rpa_at {h : Hp} {xs : List V} {k : Int} (q : RpA K h xs ds) (e : atI ds k = some d) : ∃ v, atI xs k = some v ∧ Rp K h v d := by
  unfold atI at e ⊢
  rw [q.len]
  cases hx : ixN ds.length k with
  | none => rw [hx] at e; cases e
  | some m =>
    rw [hx] at e
    exact q.get e
theorem od_ixL {k : Int} (h : atI ds k = some d) : OpD K (rIxL K) (.list ds) (.int k) d := fun G H x y _ tx ty Q q => by
  obtain ⟨a, xs, rfl, hs, hq⟩ := tx.list hidEx
  obtain ⟨v, e, r⟩ := rpa_at hq h
  rw [ty.int]
  exact ⟨a, xs, k, v, rfl, rfl, sq_of hs, e, q _ H (Ex.refl _) r⟩
theorem od_ixT {k : Int} (h : atI ds k = some d) : OpD K (rIxT K) (.tuple ds) (.int k) d := fun G H x y _ tx ty Q q => by
  obtain ⟨a, xs, rfl, hs, _, hq⟩ := tx.tuple hidEx
  obtain ⟨v, e, r⟩ := rpa_at hq h
  rw [ty.int]
  exact ⟨a, xs, k, v, rfl, rfl, hs, e, q _ H (Ex.refl _) r⟩
theorem od_ixS {z : Str} {k : Int} {c : Nat} (h : atI z.cps.toList k = some c) : OpD K rIxS (.str z) (.int k) (.str ⟨#[c]⟩) := fun G H x y _ tx ty Q q => by
  obtain ⟨rfl, hz⟩ := tx.str
  rw [ty.int]
  exact ⟨z, k, c, rfl, rfl, sz_of hz, h, q _ H (Ex.refl _) (.str _ (by show 1 ≤ 100000; decide))⟩
/-! concatenation -/
theorem hidNew' {G : List Addr} {H : Hp} {p : Addr} {o : HO} (fr : ∀ p, H p = none → p ∉ G) (h : H p = none) : hid G (upd H p o) p = some o := hidNew (fr p h)
theorem od_catT (h1 : ds ≠ []) (h : ds.length + es.length ≤ 100000) : OpD K (rCatT K) (.tuple ds) (.tuple es) (.tuple (ds ++ es)) := fun G H x y fr tx ty Q q => by
  obtain ⟨a, xs, rfl, hs, hh, hq⟩ := tx.tuple hidEx
  obtain ⟨b, ys, rfl, hs', _, hq'⟩ := ty.tuple hidEx
  refine ⟨a, b, xs, ys, rfl, rfl, hs, hs', fun z => ?_, sz_of (by rw [hq.len, hq'.len]; exact h), fun z => ?_, fun _ p hp => ?_⟩
  · rw [z] at hq
    cases hq
    exact h1 rfl
  · rw [z] at hq'
    cases hq'
    rw [List.append_nil] at q
    exact q _ H (Ex.refl _) (.tup hh hq)
  · exact q _ _ (Ex.new hp) (.tup (hidNew' fr hp) ((hq.append hq').ex (hid_ex (Ex.new hp))))
theorem od_cat (h : ds.length + es.length ≤ 100000) : OpD K rCat (.list ds) (.list es) (.list (ds ++ es)) := fun G H x y fr tx ty Q q => by
  obtain ⟨a, xs, rfl, hs, hq⟩ := tx.list hidEx
  obtain ⟨b, ys, rfl, hs', hq'⟩ := ty.list hidEx
  exact ⟨a, b, xs, ys, rfl, rfl, hs, hs', sz_of (by rw [hq.len, hq'.len]; exact h), fun p hp => q _ _ (Ex.new hp) (.lst (hidNew' fr hp) ((hq.append hq').ex (hid_ex (Ex.new hp))))⟩
/-! slices -/
def PartO (C : Cn) (n : Int) (env : List Ent) (to : TO) (o : Option Int) : Prop := ∀ σ H, Now C n env σ H → ∀ Q : Option Int → Hp → Prop, (∀ H', Ex H H' → Q o H') → to σ H Q
def SlD (K : PySem.W.Frag) (r : V → Option Int → Option Int → Hp → VK → Prop) (d : PyData) (lo hi : Option Int) (f : PyData) : Prop := ∀ (G : List Addr) (H : Hp) (x : V), (∀ p, H p = none → p ∉ G) → Tr K (hid G H) H x d →
  ∀ Q : VK, (∀ v H', Ex H H' → Rp K (hid G H') v f → Q v H') → r x lo hi H Q
theorem rpa_cut {h : Hp} {xs : List V} {lo hi : Option Int} (q : RpA K h xs ds) : RpA K h (cutV xs lo hi) ((ds.drop (HT.sIx ds.length 0 lo)).take (HT.sIx ds.length ds.length hi - HT.sIx ds.length 0 lo)) := by
  unfold cutV
  rw [q.len]
  exact (q.drop _).take _
def cutD (ds : List PyData) (lo hi : Option Int) : List PyData := (ds.drop (HT.sIx ds.length 0 lo)).take (HT.sIx ds.length ds.length hi - HT.sIx ds.length 0 lo)
theorem sd_S {z : Str} {lo hi : Option Int} : SlD K rSlS (.str z) lo hi (.str (cutS z lo hi)) := fun G H x _ tx Q q => by
  obtain ⟨rfl, hz⟩ := tx.str
  refine ⟨z, rfl, sz_of hz, q _ H (Ex.refl _) (.str _ (Nat.le_trans ?_ hz))⟩
  unfold cutS
  simp only [Str.length]
  simp
  omega
theorem sd_L {lo hi : Option Int} : SlD K (rSlL K) (.list ds) lo hi (.list (cutD ds lo hi)) := fun G H x fr tx Q q => by
  obtain ⟨a, xs, rfl, hs, hq⟩ := tx.list hidEx
  exact ⟨a, xs, rfl, sq_of hs, fun p hp => q _ _ (Ex.new hp) (.lst (hidNew' fr hp) ((rpa_cut hq).ex (hid_ex (Ex.new hp))))⟩
/-! calls -/
theorem TAll.one {h H : Hp} {vs : List V} (t : TAll K h H vs [d]) : ∃ v, vs = [v] ∧ Tr K h H v d := by
  cases t with
  | cons a t => cases t; exact ⟨_, rfl, a⟩
theorem TAll.two {h H : Hp} {vs : List V} (t : TAll K h H vs [d, e]) : ∃ v w, vs = [v, w] ∧ Tr K h H v d ∧ Tr K h H w e := by
  cases t with
  | cons a t =>
    obtain ⟨w, rfl, b⟩ := t.one
    exact ⟨_, _, rfl, a, b⟩
abbrev rLenA (K : PySem.W.Frag) : List V → Hp → VK → Prop := fun xs H Q => ∃ x n, xs = [x] ∧ LenV K x H n ∧ Q (.int n) H
theorem cd_lenS : CallD K (rLenA K) [.str s] (.int s.length) := fun G H xs _ t Q q => by
  obtain ⟨v, rfl, tv⟩ := t.one
  obtain ⟨rfl, hz⟩ := tv.str
  exact ⟨_, _, rfl, ⟨sz_of hz, rfl⟩, q _ H (Ex.refl _) (.int _)⟩
theorem cd_lenL : CallD K (rLenA K) [.list ds] (.int ds.length) := fun G H xs _ t Q q => by
  obtain ⟨v, rfl, tv⟩ := t.one
  obtain ⟨a, ys, rfl, hs, hq⟩ := tv.list hidEx
  exact ⟨_, _, rfl, .inl ⟨_, sq_of hs, rfl⟩, q _ H (Ex.refl _) (by rw [hq.len]; exact .int _)⟩
theorem cd_lenT : CallD K (rLenA K) [.tuple ds] (.int ds.length) := fun G H xs _ t Q q => by
  obtain ⟨v, rfl, tv⟩ := t.one
  obtain ⟨a, ys, rfl, hs, _, hq⟩ := tv.tuple hidEx
  exact ⟨_, _, rfl, .inr ⟨_, hs, rfl⟩, q _ H (Ex.refl _) (by rw [hq.len]; exact .int _)⟩
theorem cd_int : CallD K (fun xs H Q => (∃ i, xs = [.int i] ∧ Q (.int i) H) ∨ ∃ k, xs = [.bl k] ∧ Q (.int (if k then 1 else 0)) H) [.int i] (.int i) := fun G H xs _ t Q q => by
  obtain ⟨v, rfl, tv⟩ := t.one
  rw [tv.int]
  exact .inl ⟨i, rfl, q _ H (Ex.refl _) (.int _)⟩
theorem cd_max2 : CallD K (fun xs H Q => ∃ i j, xs = [.int i, .int j] ∧ Q (.int (if j > i then j else i)) H) [.int i, .int j] (.int (if j > i then j else i)) := fun G H xs _ t Q q => by
  obtain ⟨v, w, rfl, tv, tw⟩ := t.two
  rw [tv.int, tw.int]
  exact ⟨i, j, rfl, q _ H (Ex.refl _) (.int _)⟩
theorem cd_min2 : CallD K (fun xs H Q => ∃ i j, xs = [.int i, .int j] ∧ Q (.int (if j < i then j else i)) H) [.int i, .int j] (.int (if j < i then j else i)) := fun G H xs _ t Q q => by
  obtain ⟨v, w, rfl, tv, tw⟩ := t.two
  rw [tv.int, tw.int]
  exact ⟨i, j, rfl, q _ H (Ex.refl _) (.int _)⟩
theorem cd_tupL (hz : ds.length ≤ 100000) : CallD K (fun xs H Q => ∃ p ys, xs = [.ref p] ∧ ((SqL K H p ys ∧ ∀ l, H l = none → Q (.ref l) (upd H l (.tup ys))) ∨ (SqT K H p ys ∧ Q (.ref p) H))) [.list ds] (.tuple ds) := fun G H xs fr t Q q => by
  obtain ⟨v, rfl, tv⟩ := t.one
  obtain ⟨a, ys, rfl, hs, hq⟩ := tv.list hidEx
  exact ⟨a, ys, rfl, .inl ⟨sq_of hs, fun p hp => q _ _ (Ex.new hp) (.tup (hidNew' fr hp) (hq.ex (hid_ex (Ex.new hp))))⟩⟩
theorem cd_tupT : CallD K (fun xs H Q => ∃ p ys, xs = [.ref p] ∧ ((SqL K H p ys ∧ ∀ l, H l = none → Q (.ref l) (upd H l (.tup ys))) ∨ (SqT K H p ys ∧ Q (.ref p) H))) [.tuple ds] (.tuple ds) := fun G H xs fr t Q q => by
  obtain ⟨v, rfl, tv⟩ := t.one
  obtain ⟨a, ys, rfl, hs, hh, hq⟩ := tv.tuple hidEx
  exact ⟨a, ys, rfl, .inr ⟨hs, q _ H (Ex.refl _) (.tup hh hq)⟩⟩
theorem cd_listL : CallD K (fun xs H Q => ∃ p ys, xs = [.ref p] ∧ (SqL K H p ys ∨ SqT K H p ys) ∧ ∀ l, H l = none → Q (.ref l) (upd H l (.lst ys))) [.list ds] (.list ds) := fun G H xs fr t Q q => by
  obtain ⟨v, rfl, tv⟩ := t.one
  obtain ⟨a, ys, rfl, hs, hq⟩ := tv.list hidEx
  exact ⟨a, ys, rfl, .inl (sq_of hs), fun p hp => q _ _ (Ex.new hp) (.lst (hidNew' fr hp) (hq.ex (hid_ex (Ex.new hp))))⟩
theorem cd_listT : CallD K (fun xs H Q => ∃ p ys, xs = [.ref p] ∧ (SqL K H p ys ∨ SqT K H p ys) ∧ ∀ l, H l = none → Q (.ref l) (upd H l (.lst ys))) [.tuple ds] (.list ds) := fun G H xs fr t Q q => by
  obtain ⟨v, rfl, tv⟩ := t.one
  obtain ⟨a, ys, rfl, hs, _, hq⟩ := tv.tuple hidEx
  exact ⟨a, ys, rfl, .inr hs, fun p hp => q _ _ (Ex.new hp) (.lst (hidNew' fr hp) (hq.ex (hid_ex (Ex.new hp))))⟩
theorem cd_strI (h : i.natAbs.log2 < 1920) (hl : ((toString i : String) : Str).length ≤ 100000) : CallD K (fun xs H Q => ∃ i, xs = [.int i] ∧ i.natAbs.log2 < 1920 ∧ Q (.str (toString i)) H) [.int i] (.str (toString i)) := fun G H xs _ t Q q => by
  obtain ⟨v, rfl, tv⟩ := t.one
  rw [tv.int]
  exact ⟨i, rfl, h, q _ H (Ex.refl _) (.str _ hl)⟩
theorem cd_isi {T : String} (hT : T ∈ ["int", "bool", "str", "tuple"]) : ∀ (G : List Addr) (H : Hp) (x : V), Tr K (hid G H) H x d → ∀ Q : VK, Q (.bl (isD T d)) H → rIsi K [x, .ty T] H Q := fun G H x t Q q =>
  ⟨x, .ty T, .type (tyN d), .type T, isD T d, rfl, .ty T, ((t.rp hidEx).da).ty, kitD hT d, q⟩
/-! methods of texts -/
theorem tyStr {h H : Hp} {x : V} (e : Ex h H) (t : Tr K h H x (.str s)) : tyV K "str" x H := by
  rw [t.str.1]
  rfl
theorem md_starts : MethD K "str" (fun x xs H Q => ∃ a b, x = .str a ∧ xs = [.str b] ∧ Q (.bl (Txt.startswith a b)) H) (.str s) [.str t] (.bool (Txt.startswith s t)) :=
  ⟨fun _ _ _ e t => tyStr e t, fun G H x xs _ tx ts Q q => by
    obtain ⟨v, rfl, tv⟩ := ts.one
    rw [tx.str.1, tv.str.1]
    exact ⟨s, t, rfl, rfl, q _ H (Ex.refl _) (.bl _)⟩⟩
theorem md_join {l : List Str} (hz : (l.map (·.length)).sum + l.length * s.length ≤ 100000) : MethD K "str" (fun x xs H Q => ∃ a p, ∃ ys : List Str, x = .str a ∧ xs = [.ref p] ∧ (SqL K H p (ys.map V.str) ∨ SqT K H p (ys.map V.str)) ∧
    (ys.map (·.length)).sum + ys.length * a.length ≤ 16777216 ∧ Q (.str (Txt.join a ys)) H) (.str s) [.list (l.map .str)] (.str (Txt.join s l)) :=
  ⟨fun _ _ _ e t => tyStr e t, fun G H x xs _ tx ts Q q => by
    obtain ⟨v, rfl, tv⟩ := ts.one
    obtain ⟨a, ys, rfl, hs, hq⟩ := tv.list hidEx
    obtain ⟨rfl, _⟩ := hq.strs
    rw [tx.str.1]
    refine ⟨s, a, l, rfl, rfl, .inl (sq_of hs), Nat.le_trans hz (by decide), q _ H (Ex.refl _) (.str _ ?_)⟩
    rw [len_tl, join_eq, tl_join]
    refine Nat.le_trans (joinL_len _ _) ?_
    rw [List.map_map, List.length_map, ← len_tl]
    refine Nat.le_trans (Nat.le_of_eq ?_) hz
    congr 2⟩
end
section
variable {C : Cn} {n : Int} {env : List Ent} {ta tb te tc : TE} {tas : TA} {R R' : SRel} {d e f : PyData} {i : Nat}
theorem po_no : PartO C n env tNoPart none := fun σ H S Q q => q H (Ex.refl _)
theorem po_at {k : Int} (h : EvD C n env te (.int k)) : PartO C n env (tPart te) (some k) := fun σ H S Q q => h σ H S _ fun v H1 e r => ⟨k, r.int, q H1 e⟩
theorem es_sl {r : V → Option Int → Option Int → Hp → VK → Prop} {tl th : TO} {lo hi : Option Int} (h : EvD C n env te d) (h1 : PartO C n env tl lo) (h2 : PartO C n env th hi) (hr : SlD C.K r d lo hi f) :
    EvS C n env (tSl r te tl th) (dat C.K f) := fun σ H S Q q => h σ H S _ fun v H1 e1 r1 => h1 σ H1 (S.ex e1) _ fun H2 e2 => h2 σ H2 (S.ex (e1.trans e2)) _ fun H3 e3 =>
  hr _ H3 v (fun p hp => (S.ex ((e1.trans e2).trans e3)).fresh hp) (r1.mono (hid_ex (e2.trans e3)) (e2.trans e3)) Q fun w H4 e4 r4 => q w H4 (((e1.trans e2).trans e3).trans e4) r4
theorem es_isi {T : String} (hT : T ∈ ["int", "bool", "str", "tuple"]) (h : EvD C n env te d) : EvS C n env (tCB (rIsi C.K) (tCons te (tCons (tC (.ty T)) tNil))) (dat C.K (.bool (isD T d))) := fun σ H S Q q =>
  h σ H S _ fun v H1 e1 r1 => cd_isi hT _ H1 v r1 Q (q _ H1 e1 (.bl _))
theorem es_chain {r r' : R2} {b c : Bool} (ha : EvD C n env ta d) (hb : EvD C n env tb e) (h1 : OpD C.K r d e (.bool b)) (hc : b = true → EvD C n env tc f) (h2 : OpD C.K r' e f (.bool c)) :
    EvS C n env (tChain r r' ta tb tc) (dat C.K (.bool (b && c))) := fun σ H S Q q =>
  ha σ H S _ fun v H1 e1 r1 => hb σ H1 (S.ex e1) _ fun w H2 e2 r2 => h1 _ H2 v w (fun p hp => (S.ex (e1.trans e2)).fresh hp) (r1.mono (hid_ex e2) e2) r2 _ fun z H3 e3 r3 => by
    refine ⟨b, (Tr.st r3 : Tr C.K (C.hd env H3) H3 z (.bool b)).bool, ?_⟩
    have S3 := S.ex ((e1.trans e2).trans e3)
    cases b with
    | true => exact (if_pos rfl).mpr (hc rfl σ H3 S3 _ fun u H4 e4 r4 => h2 _ H4 w u (fun p hp => (S3.ex e4).fresh hp) (r2.mono (hid_ex (e3.trans e4)) (e3.trans e4)) r4 Q fun x H5 e5 r5 => q x H5 ((((e1.trans e2).trans e3).trans e4).trans e5) r5)
    | false => exact (if_neg (by decide)).mpr (q _ H3 ((e1.trans e2).trans e3) (.bl _))
end
end L2.DL

set_option Elab.async false
set_option maxRecDepth 100000
set_option maxHeartbeats 4000000
set_option linter.all false
/-! Lists made by a comprehension; statements; loops. -/
namespace L2.DL
open PySem PySem.Spec PyProof.Rows XC XK Evl TL
section
variable {K : PySem.W.Frag} {pl : Option Addr} {G : List Addr} {H0 : Hp} {kp : List (V × SRel)} {n : Int} {env : List Ent} {σ : L2.St} {H H' : Hp}
theorem own_set_sub : ∀ {env : List Ent} {i : Nat} {e : Ent} {a : Addr}, a ∈ own (env.set i e) → a ∈ own env ∨ ∃ d, e = .ow a d
  | [], _, _, _, h => by cases h
  | .ow l c :: r, 0, e, a, h => by
    cases e with
    | ow m d =>
      rcases List.mem_cons.mp h with rfl | h
      · exact .inr ⟨_, rfl⟩
      · exact .inl (List.mem_cons_of_mem _ h)
    | un => exact .inl (List.mem_cons_of_mem _ h)
    | it R => exact .inl (List.mem_cons_of_mem _ h)
  | .un :: r, 0, e, a, h => by
    cases e with
    | ow m d =>
      rcases List.mem_cons.mp h with rfl | h
      · exact .inr ⟨_, rfl⟩
      · exact .inl h
    | un => exact .inl h
    | it R => exact .inl h
  | .it _ :: r, 0, e, a, h => by
    cases e with
    | ow m d =>
      rcases List.mem_cons.mp h with rfl | h
      · exact .inr ⟨_, rfl⟩
      · exact .inl h
    | un => exact .inl h
    | it R => exact .inl h
  | .ow l c :: r, i + 1, e, a, h => by
    rcases List.mem_cons.mp h with rfl | h
    · exact .inl List.mem_cons_self
    · exact (own_set_sub (env := r) h).imp (List.mem_cons_of_mem _) id
  | .un :: r, i + 1, e, a, h => own_set_sub (env := r) h
  | .it _ :: r, i + 1, e, a, h => own_set_sub (env := r) h
theorem own_set_nd : ∀ {env : List Ent} {i : Nat} {e : Ent}, (own env).Nodup → (∀ a d, e = .ow a d → a ∉ own env) → (own (env.set i e)).Nodup
  | [], _, _, h, _ => h
  | .ow l c :: r, 0, e, h, k => by
    have h' := (List.nodup_cons.mp h).2
    cases e with
    | ow m d => exact List.nodup_cons.mpr ⟨fun z => k m d rfl (List.mem_cons_of_mem _ z), h'⟩
    | un => exact h'
    | it R => exact h'
  | .un :: r, 0, e, h, k => by
    cases e with
    | ow m d => exact List.nodup_cons.mpr ⟨k m d rfl, h⟩
    | un => exact h
    | it R => exact h
  | .it _ :: r, 0, e, h, k => by
    cases e with
    | ow m d => exact List.nodup_cons.mpr ⟨k m d rfl, h⟩
    | un => exact h
    | it R => exact h
  | .ow l c :: r, i + 1, e, h, k => by
    obtain ⟨h1, h2⟩ := List.nodup_cons.mp h
    refine List.nodup_cons.mpr ⟨fun z => ?_, own_set_nd h2 fun a d q z => k a d q (List.mem_cons_of_mem _ z)⟩
    rcases own_set_sub z with z | ⟨d, z⟩
    · exact h1 z
    · exact k l d z List.mem_cons_self
  | .un :: r, i + 1, e, h, k => own_set_nd (env := r) h k
  | .it _ :: r, i + 1, e, h, k => own_set_nd (env := r) h k
/-- a slot gets what stands -/
theorem At.set (S : At K pl G H0 kp n env σ H) {i : Nat} {v : V} {R : SRel} (hi : i < env.length) (r : R.r v (hid (G ++ own env) H)) : At K pl G H0 kp n (env.set i (.it R)) (σ.set i (some v)) H := by
  have sub : ∀ a, a ∈ G ++ own (env.set i (.it R)) → a ∈ G ++ own env := fun a h => by
    rcases List.mem_append.mp h with h | h
    · exact List.mem_append_left _ h
    · rcases own_set_sub h with h | ⟨d, h⟩
      · exact List.mem_append_right _ h
      · cases h
  refine ⟨fun j e h => ?_, by simp [S.len], own_set_nd S.nd (fun a d z => by cases z), fun l h => S.new l ?_, S.base, S.pool, S.hG, S.kn, S.vis, fun p h => SRel.ex _ (hid_sub sub) (S.kept p h), fun l h => S.dj l ?_⟩
  rotate_left 2
  · rcases own_set_sub h with h | ⟨d, h⟩
    · exact h
    · cases h
  · rw [List.getElem?_set] at h
    by_cases hj : i = j
    · subst hj
      rw [if_pos rfl, if_pos hi] at h
      cases h
      exact ⟨v, by rw [List.getElem?_set_self (by rw [S.len]; exact hi)], R.ex (hid_sub sub) r⟩
    · rw [if_neg hj] at h
      rw [List.getElem?_set_ne hj]
      exact (S.ent j e h).mono (hid_sub sub) fun _ _ _ o q => q
  · rcases own_set_sub h with h | ⟨d, h⟩
    · exact h
    · cases h
/-- a slot gets an own list or dict, made now -/
theorem At.setOwn (S : At K pl G H0 kp n env σ H) {i : Nat} {l : Addr} {o : HO} {d : PyData} (hi : i < env.length) (hl : H l = none) (hb : H0 l = none)
    (r : ∀ H' h, H' l = some o → Ex (hid (G ++ own env) H) h → OwR K H' h l d) : At K pl G H0 kp n (env.set i (.ow l d)) (σ.set i (some (.ref l))) (upd H l o) := by
  have nl : l ∉ G ++ own env := fun z => by
    rcases List.mem_append.mp z with z | z
    · have := S.vis l z
      rw [hl] at this
      cases this
    · have := (S.new l z).2
      rw [hl] at this
      cases this
  have ex : Ex (hid (G ++ own env) H) (hid (G ++ own (env.set i (.ow l d))) (upd H l o)) := fun a u h => by
    obtain ⟨na, ha⟩ := hid_some h
    have ne : a ≠ l := fun z => by rw [z, hl] at ha; cases ha
    rw [hid_out fun z => ?_, upd_ne ne]
    · exact ha
    · rcases List.mem_append.mp z with z | z
      · exact na (List.mem_append_left _ z)
      · rcases own_set_sub z with z | ⟨c, z⟩
        · exact na (List.mem_append_right _ z)
        · cases z
          exact ne rfl
  refine ⟨fun j e h => ?_, by simp [S.len], own_set_nd S.nd (fun a c z q => by cases z; exact nl (List.mem_append_right _ q)), fun m h => ?_, S.base.trans (Bt.of (Ex.new hl)), S.pool.ex (Ex.new hl), S.hG, S.kn, fun a h => ?_, fun p h => SRel.ex _ ex (S.kept p h), fun m h => ?_⟩
  · rw [List.getElem?_set] at h
    by_cases hj : i = j
    · subst hj
      rw [if_pos rfl, if_pos hi] at h
      cases h
      exact ⟨by rw [List.getElem?_set_self (by rw [S.len]; exact hi)], r _ _ upd_same ex⟩
    · rw [if_neg hj] at h
      rw [List.getElem?_set_ne hj]
      refine (S.ent j e h).mono ex fun m c z u q => ?_
      rw [upd_ne fun z => by rw [z, hl] at q; cases q]
      exact q
  · rcases own_set_sub h with h | ⟨c, h⟩
    · have := S.new m h
      refine ⟨this.1, ?_⟩
      rw [upd_ne fun (z : m = l) => nl (by rw [← z]; exact List.mem_append_right _ h)]
      exact this.2
    · cases h
      exact ⟨hb, by rw [upd_same]; rfl⟩
  · rw [upd_ne fun (z : a = l) => nl (by rw [← z]; exact List.mem_append_left _ h)]
    exact S.vis a h
  · rcases own_set_sub h with h | ⟨c, h⟩
    · exact S.dj m h
    · cases h
      exact fun z => nl (List.mem_append_left _ z)
/-- an own list changes -/
theorem At.grow (S : At K pl G H0 kp n env σ H) {i : Nat} {l : Addr} {o : HO} {d d' : PyData} (hi : env[i]? = some (.ow l d)) (r : ∀ H' h, H' l = some o → Ex (hid (G ++ own env) H) h → OwR K H' h l d') :
    At K pl G H0 kp n (env.set i (.ow l d')) σ (upd H l o) := by
  have ml : l ∈ own env := own_mem hi
  have lt : i < env.length := (List.getElem?_eq_some_iff.mp hi).1
  have oe : ∀ {env : List Ent} {i : Nat}, env[i]? = some (.ow l d) → own (env.set i (.ow l d')) = own env := by
    intro env
    induction env with
    | nil => intro i h; simp at h
    | cons e r ih =>
      intro i h
      cases i with
      | zero =>
        simp only [List.getElem?_cons_zero, Option.some.injEq] at h
        subst h
        rfl
      | succ i =>
        have := ih (i := i) (by simpa using h)
        cases e with
        | ow m c => exact congrArg (m :: ·) this
        | un => exact this
        | it R => exact this
  have e1 := oe hi
  have ex : Ex (hid (G ++ own env) H) (hid (G ++ own env) (upd H l o)) := fun a u h => by
    obtain ⟨na, ha⟩ := hid_some h
    rw [hid_out na, upd_ne fun (z : a = l) => na (by rw [z]; exact List.mem_append_right _ ml)]
    exact ha
  have uniq : ∀ {env : List Ent} {i j : Nat} {m : Addr} {c c' : PyData}, (own env).Nodup → env[i]? = some (.ow m c) → env[j]? = some (.ow m c') → i = j := by
    intro env
    induction env with
    | nil => intro i j m c c' _ h; simp at h
    | cons e r ih =>
      intro i j m c c' nd h h'
      cases i with
      | zero =>
        cases j with
        | zero => rfl
        | succ j =>
          simp only [List.getElem?_cons_zero, Option.some.injEq] at h
          subst h
          exact absurd (own_mem (by simpa using h')) (List.nodup_cons.mp nd).1
      | succ i =>
        cases j with
        | zero =>
          simp only [List.getElem?_cons_zero, Option.some.injEq] at h'
          subst h'
          exact absurd (own_mem (by simpa using h)) (List.nodup_cons.mp nd).1
        | succ j =>
          refine congrArg Nat.succ (ih ?_ (by simpa using h) (by simpa using h'))
          cases e with
          | ow m c => exact (List.nodup_cons.mp nd).2
          | un => exact nd
          | it R => exact nd
  refine ⟨fun j e h => ?_, by simp [S.len], by rw [e1]; exact S.nd, fun m h => ?_, fun a u na ha => ?_, fun p hp => ?_, S.hG, S.kn, fun a h => ?_, fun p h => by rw [e1]; exact SRel.ex _ ex (S.kept p h), by rw [e1]; exact S.dj⟩
  · rw [e1]
    rw [List.getElem?_set] at h
    by_cases hj : i = j
    · subst hj
      rw [if_pos rfl, if_pos lt] at h
      cases h
      exact ⟨(S.ent i _ hi).1, r _ _ upd_same ex⟩
    · rw [if_neg hj] at h
      refine (S.ent j e h).mono ex fun m c z u q => ?_
      subst z
      rw [upd_ne fun z => hj (uniq S.nd hi (by rw [z] at h; exact h))]
      exact q
  · rw [e1] at h
    refine ⟨(S.new m h).1, ?_⟩
    by_cases z : m = l
    · rw [z, upd_same]; rfl
    · rw [upd_ne z]
      exact (S.new m h).2
  · rw [upd_ne fun (z : a = l) => by rw [z, (S.new l ml).1] at ha; cases ha]
    exact S.base a u na ha
  · obtain ⟨x, y, z, e, q⟩ := S.pool p hp
    refine ⟨x, y, z, ?_, q⟩
    rw [upd_ne fun (z : p = l) => S.apart ml (by rw [hp, z]; simp)]
    exact e
  · by_cases z : a = l
    · rw [z, upd_same]; rfl
    · rw [upd_ne z]
      exact S.vis a h
end
end L2.DL

set_option Elab.async false
set_option maxRecDepth 100000
set_option maxHeartbeats 4000000
set_option linter.all false
/-! Statements, loops, lists made by a comprehension. -/
namespace L2.DL
open PySem PySem.Spec PyProof.Rows XC XK Evl TL
section
variable {K : PySem.W.Frag} {pl : Option Addr} {G : List Addr} {H0 : Hp} {kp : List (V × SRel)} {n : Int} {env : List Ent} {σ : L2.St} {H H' : Hp}
theorem own_set_un {env : List Ent} {i : Nat} {a : Addr} (h : a ∈ own (env.set i .un)) : a ∈ own env := by
  rcases own_set_sub h with h | ⟨d, h⟩
  · exact h
  · cases h
theorem At.setUn (S : At K pl G H0 kp n env σ H) (i : Nat) : At K pl G H0 kp n (env.set i .un) (σ.set i none) H := by
  have sub : ∀ a, a ∈ G ++ own (env.set i .un) → a ∈ G ++ own env := fun a h => by
    rcases List.mem_append.mp h with h | h
    · exact List.mem_append_left _ h
    · exact List.mem_append_right _ (own_set_un h)
  refine ⟨fun j e h => ?_, by simp [S.len], own_set_nd S.nd (fun a d z => by cases z), fun l h => S.new l (own_set_un h), S.base, S.pool, S.hG, S.kn, S.vis, fun p h => SRel.ex _ (hid_sub sub) (S.kept p h), fun l h => S.dj l (own_set_un h)⟩
  rw [List.getElem?_set] at h
  by_cases hj : i = j
  · subst hj
    rw [if_pos rfl] at h
    by_cases hi : i < env.length
    · rw [if_pos hi] at h
      cases h
      trivial
    · rw [if_neg hi] at h
      cases h
  · rw [if_neg hj] at h
    rw [List.getElem?_set_ne hj]
    exact (S.ent j e h).mono (hid_sub sub) fun _ _ _ o q => q
/-- a slot that is not asked any more -/
theorem At.forget (S : At K pl G H0 kp n env σ H) {i : Nat} {R : SRel} (h : env[i]? = some (.it R)) : At K pl G H0 kp n (env.set i .un) σ H := by
  have oe : ∀ {env : List Ent} {i : Nat}, env[i]? = some (.it R) → own (env.set i .un) = own env := by
    intro env
    induction env with
    | nil => intro i h; simp at h
    | cons e r ih =>
      intro i h
      cases i with
      | zero =>
        simp only [List.getElem?_cons_zero, Option.some.injEq] at h
        subst h
        rfl
      | succ i =>
        have := ih (i := i) (by simpa using h)
        cases e with
        | ow m c => exact congrArg (m :: ·) this
        | un => exact this
        | it R => exact this
  have e1 := oe h
  refine ⟨fun j e hj => ?_, by simp [S.len], by rw [e1]; exact S.nd, by rw [e1]; exact S.new, S.base, S.pool, S.hG, S.kn, S.vis, by rw [e1]; exact S.kept, by rw [e1]; exact S.dj⟩
  rw [e1]
  rw [List.getElem?_set] at hj
  by_cases hij : i = j
  · rw [if_pos hij] at hj
    split at hj
    · cases hj
      trivial
    · cases hj
  · rw [if_neg hij] at hj
    exact S.ent j e hj
def wipeE (env : List Ent) : List Nat → List Ent
  | [] => env
  | v :: vs => (wipeE env vs).set v .un
theorem At.wipe (S : At K pl G H0 kp n env σ H) : ∀ vs : List Nat, At K pl G H0 kp n (wipeE env vs) (wipe σ vs) H
  | [] => S
  | v :: vs => (At.wipe S vs).setUn v
theorem wipe_set {σ : L2.St} {j : Nat} (x : Option V) : wipe ((wipe σ [j]).set j x) [j] = wipe σ [j] := by
  show (((σ.set j none).set j x).set j none) = σ.set j none
  rw [List.set_set, List.set_set]
theorem wipe_set2 {σ : L2.St} {i j : Nat} (x y : Option V) : wipe (((wipe σ [i, j]).set i x).set j y) [i, j] = wipe σ [i, j] := by
  show ((((((σ.set j none).set i none).set i x).set j y).set j none).set i none) = (σ.set j none).set i none
  rw [List.set_set, List.set_set]
  by_cases h : i = j
  · subst h
    simp [List.set_set]
  · apply List.ext_getElem?
    intro k
    simp only [List.getElem?_set, List.length_set]
    by_cases h1 : i = k <;> by_cases h2 : j = k <;> simp [h1, h2]
/-- what is hidden grows by an address at which something stands -/
theorem At.hide (S : At K pl G H0 kp n env σ H) {p : Addr} {o : HO} (hp : H p = none) : At K pl (p :: G) H0 kp n env σ (upd H p o) := by
  have np : p ∉ G ++ own env := fun z => by
    rcases List.mem_append.mp z with z | z
    · have := S.vis p z
      rw [hp] at this
      cases this
    · have := (S.new p z).2
      rw [hp] at this
      cases this
  have ex : Ex (hid (G ++ own env) H) (hid (p :: G ++ own env) (upd H p o)) := fun a u h => by
    obtain ⟨na, ha⟩ := hid_some h
    have ne : a ≠ p := fun z => by rw [z, hp] at ha; cases ha
    rw [hid_out fun z => ?_, upd_ne ne]
    · exact ha
    · rcases List.mem_cons.mp z with z | z
      · exact ne z
      · exact na z
  refine ⟨fun i e h => (S.ent i e h).mono ex fun l d _ u q => Ex.new hp l u q, S.len, S.nd, fun l h => ⟨(S.new l h).1, ?_⟩, S.base.trans (Bt.of (Ex.new hp)), S.pool.ex (Ex.new hp), fun q h => List.mem_cons_of_mem _ (S.hG q h), S.kn, fun a h => ?_, fun p h => SRel.ex _ ex (S.kept p h), fun l h z => ?_⟩
  · rw [upd_ne fun (z : l = p) => np (by rw [← z]; exact List.mem_append_right _ h)]
    exact (S.new l h).2
  · rcases List.mem_cons.mp h with rfl | h
    · rw [upd_same]; rfl
    · rw [upd_ne fun (z : a = p) => np (by rw [← z]; exact List.mem_append_left _ h)]
      exact S.vis a h
  · rcases List.mem_cons.mp z with rfl | z
    · exact np (List.mem_append_right _ h)
    · exact S.dj l h z
/-- what is hidden changes at an address of no pool and no own list -/
theorem At.hupd (S : At K pl G H0 kp n env σ H) {p : Addr} {o : HO} (hp : p ∈ G) (hn : H0 p = none) (ho : p ∉ own env) : At K pl G H0 kp n env σ (upd H p o) := by
  have ne : p ∉ pl.toList := fun z => by
    cases pl with
    | none => simp at z
    | some q =>
      have z' : p = q := by simpa using z
      have := S.kn q rfl
      rw [← z', hn] at this
      cases this
  have ex : Ex (hid (G ++ own env) H) (hid (G ++ own env) (upd H p o)) := fun a u h => by
    obtain ⟨na, ha⟩ := hid_some h
    rw [hid_out na, upd_ne fun (z : a = p) => na (by rw [z]; exact List.mem_append_left _ hp)]
    exact ha
  refine ⟨fun i e h => (S.ent i e h).mono ex fun l d hd u q => ?_, S.len, S.nd, fun l h => ⟨(S.new l h).1, ?_⟩, fun a u na ha => ?_, fun q hq => ?_, S.hG, S.kn, fun a h => ?_, fun p h => SRel.ex _ ex (S.kept p h), S.dj⟩
  · subst hd
    rw [upd_ne fun (z : l = p) => ho (by rw [← z]; exact own_mem h)]
    exact q
  · rw [upd_ne fun (z : l = p) => ho (by rw [← z]; exact h)]
    exact (S.new l h).2
  · rw [upd_ne fun (z : a = p) => by rw [z, hn] at ha; cases ha]
    exact S.base a u na ha
  · obtain ⟨x, y, z, e, r⟩ := S.pool q hq
    refine ⟨x, y, z, ?_, r⟩
    rw [upd_ne fun (z : q = p) => ne (by rw [hq, z]; simp)]
    exact e
  · by_cases z : a = p
    · rw [z, upd_same]; rfl
    · rw [upd_ne z]
      exact S.vis a h
/-- nothing is hidden any more at an address -/
theorem At.show_ (S : At K pl (p :: G) H0 kp n env σ H) (hG : ∀ q, pl = some q → q ∈ G) : At K pl G H0 kp n env σ H := by
  have ex : Ex (hid (p :: G ++ own env) H) (hid (G ++ own env) H) := hid_sub fun a h => List.mem_cons_of_mem _ h
  exact ⟨fun i e h => (S.ent i e h).mono ex fun _ _ _ _ q => q, S.len, S.nd, S.new, S.base, S.pool, hG, S.kn, fun a h => S.vis a (List.mem_cons_of_mem _ h), fun q h => SRel.ex _ ex (S.kept q h), fun l h z => S.dj l h (List.mem_cons_of_mem _ z)⟩
/-- a new object is new to the heap at the begin -/
theorem At.fresh0 (S : At K pl G H0 kp n env σ H) {p : Addr} (h : H p = none) : H0 p = none := by
  cases h0 : H0 p with
  | none => rfl
  | some o =>
    by_cases z : p ∈ pl.toList
    · cases pl with
      | none => simp at z
      | some q =>
        have z' : p = q := by simpa using z
        obtain ⟨_, _, _, e, _⟩ := S.pool q rfl
        rw [← z', h] at e
        cases e
    · have := S.base p o z h0
      rw [h] at this
      cases this
end
section
variable (C : Cn) (n : Int) (env : List Ent)
/-- a statement: what is so behind it, what it returns -/
def TSd (t : TS) (Nx : Int → List Ent → Prop) (Rt : SRel → Int → Prop) : Prop := ∀ (D : Ends) σ H, Now C n env σ H → (∀ σ' H' m env', Now C m env' σ' H' → Nx m env' → D.nx σ' H') →
  (∀ v H' R m, Bt C.pl.toList C.H0 H' → PoolO H' C.pl m → R.r v (hid C.G H') → Rt R m → D.rt v H') → t D σ H
end
section
variable {C : Cn} {n : Int} {env : List Ent} {ta tb te tc : TE} {tas : TA} {R R' : SRel} {d e f : PyData} {i j : Nat} {t u : TS} {tt : TT} {Nx : Int → List Ent → Prop} {Rt : SRel → Int → Prop}
theorem ts_next (h : Nx n env) : TSd C n env tNext Nx Rt := fun D σ H S k _ => k σ H n env S h
theorem ts_nextF (i : Nat) (e : env[i]? = some (.it R)) (h : Nx n (env.set i .un)) : TSd C n env tNext Nx Rt := fun D σ H S k _ => k σ H n _ (S.forget e) h
theorem ts_forget (i : Nat) (e : env[i]? = some (.it R)) (h : TSd C n (env.set i .un) t Nx Rt) : TSd C n env t Nx Rt := fun D σ H S k r => h D σ H (S.forget e) k r
theorem ts_weak (i : Nat) (h : TSd C n env t (fun m e => ∃ R, e[i]? = some (.it R) ∧ Nx m (e.set i .un)) Rt) : TSd C n env t Nx Rt := fun D σ H S k r =>
  h D σ H S (fun σ' H' m e S' ⟨R, he, x⟩ => k σ' H' m _ (S'.forget he) x) r
theorem ts_seq (h : TSd C n env t (fun m e => TSd C m e u Nx Rt) Rt) : TSd C n env (tSeq t u) Nx Rt := fun D σ H S k r =>
  h { D with nx := u D } σ H S (fun σ' H' m e S' q => q D σ' H' S' k r) r
theorem ts_mono {Nx' : Int → List Ent → Prop} (h : TSd C n env t Nx Rt) (k : ∀ m e, Nx m e → Nx' m e) : TSd C n env t Nx' Rt := fun D σ H S q r => h D σ H S (fun σ' H' m e S' x => q σ' H' m e S' (k m e x)) r
theorem ts_asgE (hi : i < env.length) (h : EfE C n env te fun R m => Nx m (env.set i (.it R))) : TSd C n env (tAsg te (gName i)) Nx Rt := fun D σ H S k _ =>
  h σ H S _ fun v H' R m e S' r f => k _ _ m _ (S'.set hi r) f
theorem ts_asg (hi : i < env.length) (h : EvS C n env te R) (k : Nx n (env.set i (.it R))) : TSd C n env (tAsg te (gName i)) Nx Rt := ts_asgE hi (ef_s h k)
theorem ts_parE (hi : i < env.length) (hj : j < env.length) (h : EfA C n env tas fun Rs m => ∃ R1 R2, Rs = [R1, R2] ∧ Nx m ((env.set i (.it R1)).set j (.it R2))) : TSd C n env (tPar i j tas) Nx Rt := fun D σ H S k _ =>
  h σ H S _ fun vs H' Rs m e S' r f => by
    obtain ⟨R1, R2, rfl, f⟩ := f
    cases r with
    | cons r1 r => cases r with
      | cons r2 r =>
        cases r
        refine ⟨_, _, rfl, k _ _ m _ ((S'.set hi r1).set (by simpa using hj) (R2.ex (hid_sub fun a h => ?_) r2)) f⟩
        rcases List.mem_append.mp h with h | h
        · exact List.mem_append_left _ h
        · rcases own_set_sub h with h | ⟨d, h⟩
          · exact List.mem_append_right _ h
          · cases h
theorem ts_own (hi : i < env.length) (k : ∀ l, Nx n (env.set i (.ow l (.list [])))) : TSd C n env (tAsg (tLst tNil) (gName i)) Nx Rt := fun D σ H S q _ =>
  ⟨sz_of (by show 0 ≤ 100000; decide), fun l hl => q _ _ n _ (S.setOwn (d := .list []) hi hl (S.fresh0 hl) fun H' h a _ => ⟨[], a, .nil⟩) (k l)⟩
theorem ts_ownE (hi : i < env.length) (h : EfA C n env tas fun Rs m => ∃ ds, Rs = ds.map (dat C.K) ∧ ds.length ≤ 100000 ∧ ∀ l, Nx m (env.set i (.ow l (.list ds)))) : TSd C n env (tAsg (tLst tas) (gName i)) Nx Rt := fun D σ H S q _ =>
  h σ H S _ fun vs H' Rs m e S' r f => by
    obtain ⟨ds, rfl, hz, f⟩ := f
    have r' := SAll.rpa r
    exact ⟨sz_of (by rw [r'.len]; exact hz), fun l hl => q _ _ m _ (S'.setOwn (d := .list ds) hi hl (S'.fresh0 hl) fun H' h a b => ⟨vs, a, r'.ex b⟩) (f l)⟩
theorem ts_append {l : Addr} {ds : List PyData} (h : env[i]? = some (.ow l (.list ds))) (he : EfE C n env te fun R m => ∃ d, R = dat C.K d ∧ ds.length < 100000 ∧ Nx m (env.set i (.ow l (.list (ds ++ [d]))))) :
    TSd C n env (tDrop (tBM C.K "list" rAppend (tVar i) (tCons te tNil))) Nx Rt := fun D σ H S q _ => by
  obtain ⟨e0, xs, hx, _⟩ := S.ent i _ h
  refine ⟨_, e0, .inl ⟨rfl, xs, .inl (.inl hx)⟩, he σ H S _ fun v H1 R m e1 S1 r1 f1 => ?_⟩
  obtain ⟨d, rfl, hz, f1⟩ := f1
  obtain ⟨_, ys, hy, ry⟩ := S1.ent i _ h
  exact ⟨l, ys, v, rfl, rfl, hy, sz_lt (by rw [ry.len]; exact hz), q _ _ m _ (S1.grow (d' := .list (ds ++ [d])) h fun H' h' a b => ⟨_, a, (ry.ex b).append (.cons ((dat C.K d).ex b r1) .nil)⟩) f1⟩
theorem ts_drop (h : EfE C n env te fun _ m => Nx m env) : TSd C n env (tDrop te) Nx Rt := fun D σ H S q _ => h σ H S _ fun v H' R m e S' r f => q _ _ m _ S' f
/-- an own list will not change any more -/
theorem ts_freeze {l : Addr} (h : env[i]? = some (.ow l d)) (k : TSd C n (env.set i (.it (dat C.K d))) t Nx Rt) : TSd C n env t Nx Rt := fun D σ H S q r => by
  have hi : i < env.length := (List.getElem?_eq_some_iff.mp h).1
  obtain ⟨e0, o⟩ := S.ent i _ h
  refine k D σ H ?_ q r
  have sub : ∀ a, a ∈ C.G ++ own (env.set i (.it (dat C.K d))) → a ∈ C.G ++ own env := fun a h => by
    rcases List.mem_append.mp h with h | h
    · exact List.mem_append_left _ h
    · rcases own_set_sub h with h | ⟨d, h⟩
      · exact List.mem_append_right _ h
      · cases h
  have nl : l ∉ own (env.set i (.it (dat C.K d))) := by
    have : ∀ {env : List Ent} {i : Nat}, (own env).Nodup → env[i]? = some (.ow l d) → l ∉ own (env.set i (.it (dat C.K d))) := by
      intro env
      induction env with
      | nil => intro i _ h; simp at h
      | cons e r ih =>
        intro i nd h
        cases i with
        | zero =>
          simp only [List.getElem?_cons_zero, Option.some.injEq] at h
          subst h
          exact (List.nodup_cons.mp nd).1
        | succ i =>
          have h' : r[i]? = some (.ow l d) := by simpa using h
          cases e with
          | ow m c =>
            obtain ⟨n1, n2⟩ := List.nodup_cons.mp nd
            intro z
            rcases List.mem_cons.mp z with rfl | z
            · exact n1 (own_mem h')
            · exact ih n2 h' z
          | un => exact ih nd h'
          | it R => exact ih nd h'
    exact this S.nd h
  have ng : l ∉ C.G ++ own (env.set i (.it (dat C.K d))) := fun z => by
    rcases List.mem_append.mp z with z | z
    · exact S.dj l (own_mem h) z
    · exact nl z
  refine ⟨fun j e hj => ?_, by simp [S.len], own_set_nd S.nd (fun a d z => by cases z), fun m hm => S.new m ?_, S.base, S.pool, S.hG, S.kn, S.vis, fun p h => SRel.ex _ (hid_sub sub) (S.kept p h), fun m hm => S.dj m ?_⟩
  rotate_left 2
  · rcases own_set_sub hm with h | ⟨d, h⟩
    · exact h
    · cases h
  · rw [List.getElem?_set] at hj
    by_cases hij : i = j
    · subst hij
      rw [if_pos rfl, if_pos hi] at hj
      cases hj
      refine ⟨_, e0, ?_⟩
      cases d with
      | list ds =>
        obtain ⟨xs, a, b⟩ := o
        exact Rp.lst (by rw [hid_out ng]; exact a) (b.ex (hid_sub sub))
      | dict ds =>
        obtain ⟨kvs, a, b, c⟩ := o
        exact Rp.dic (by rw [hid_out ng]; exact a) (b.ex (hid_sub sub)) (c.ex (hid_sub sub))
      | _ => exact o.elim
    · rw [if_neg hij] at hj
      exact (S.ent j e hj).mono (hid_sub sub) fun _ _ _ o q => q
  · rcases own_set_sub hm with h | ⟨d, h⟩
    · exact h
    · cases h
end
end L2.DL

set_option Elab.async false
set_option maxRecDepth 100000
set_option maxHeartbeats 4000000
set_option linter.all false
/-! if, return, for; lists made by a comprehension. -/
namespace L2.DL
open PySem PySem.Spec PyProof.Rows XC XK Evl TL
section
variable {C : Cn} {n : Int} {env : List Ent} {ta tb te tc : TE} {tas : TA} {R R' : SRel} {d e f : PyData} {i j : Nat} {t u : TS} {tt : TT} {Nx : Int → List Ent → Prop} {Rt : SRel → Int → Prop}
theorem ts_ifE (h : EfT C n env tt fun b m => if b = true then TSd C m env t Nx Rt else TSd C m env u Nx Rt) : TSd C n env (tIfS tt t u) Nx Rt := fun D σ H S q r =>
  h σ H S _ fun b H1 m e S1 f => by
    cases b with
    | true => exact (if_pos rfl).mpr ((show TSd C m env t Nx Rt from f) D σ H1 S1 q r)
    | false => exact (if_neg (by decide)).mpr ((show TSd C m env u Nx Rt from f) D σ H1 S1 q r)
theorem ts_if {b : Bool} (h : EvT C n env tt b) (h1 : b = true → TSd C n env t Nx Rt) (h2 : b = false → TSd C n env u Nx Rt) : TSd C n env (tIfS tt t u) Nx Rt :=
  ts_ifE (eft_t h (by
    cases b with
    | true => exact h1 rfl
    | false => exact h2 rfl))
theorem hidG {G : List Addr} {H : Hp} {o : List Addr} : Ex (hid (G ++ o) H) (hid G H) := hid_sub fun a h => List.mem_append_left _ h
theorem ts_ret (h : EfE C n env te Rt) : TSd C n env (tRet te) Nx Rt := fun D σ H S q r => h σ H S _ fun v H' R m e S' rv f => r v H' R m S'.base S'.pool (R.ex hidG rv) f
theorem ts_retS (h : EvS C n env te R) (k : Rt R n) : TSd C n env (tRet te) Nx Rt := ts_ret (ef_s h k)
theorem ts_retOwn {l : Addr} (h : env[i]? = some (.ow l d)) (k : Rt (dat C.K d) n) : TSd C n env (tRet (tVar i)) Nx Rt :=
  ts_freeze h (ts_retS (es_var (by rw [List.getElem?_set_self (List.getElem?_eq_some_iff.mp h).1])) k)
/-- for i in range(k) -/
theorem ts_forR {k : Int} (h : EvDs C n env tas [.int k]) (hk : k ≤ 1000000) (hk0 : -1000000 ≤ k) (Inv : Nat → Int → List Ent → Prop) (h0 : Inv 0 n env) (hl : ∀ i m e, Inv i m e → j < e.length)
    (hs : ∀ (i : Nat) m e, i < k.toNat → Inv i m e → TSd C m (e.set j (.it (dat C.K (.int i)))) t (Inv (i + 1)) Rt) (hd : ∀ m e, Inv k.toNat m e → Nx m e) :
    TSd C n env (tFor (iRng1 tas) (gName j) t) Nx Rt := fun D σ H S q r => by
  refine h σ H S _ fun vs H1 e1 t1 => ?_
  obtain ⟨v, rfl, tv⟩ := t1.one
  rw [tv.int]
  refine ⟨k, rfl, by omega, by omega, ?_⟩
  refine for_range (fun i σ' H' => ∃ m e, Now C m e σ' H' ∧ Inv i m e) ⟨n, env, S.ex e1, h0⟩ (fun i σ' H' hi ⟨m, e, S', p⟩ => ?_) fun σ' H' ⟨m, e, S', p⟩ => q _ _ m e S' (hd m e p)
  show t _ _ _
  refine hs i m e hi p _ _ H' (S'.set (hl i m e p) ?_) (fun σ2 H2 m2 e2 S2 p2 => ⟨m2, e2, S2, p2⟩) r
  show Rp _ _ _ _
  rw [Int.zero_add]
  exact .int _
/-- what a walk keeps -/
def walkL (K : PySem.W.Frag) (a : Addr) (xs : List V) (ds : List PyData) : SRel := ⟨fun v H => v = .ref a ∧ H a = some (.lst xs) ∧ RpA K H xs ds, fun e h => ⟨h.1, e _ _ h.2.1, h.2.2.ex e⟩⟩
def walkT (K : PySem.W.Frag) (a : Addr) (xs : List V) (ds : List PyData) : SRel := ⟨fun v H => v = .ref a ∧ SqT K H a xs ∧ RpA K H xs ds, fun e h => ⟨h.1, ex_t e h.2.1, h.2.2.ex e⟩⟩
theorem At.keep {C : Cn} {n : Int} {env : List Ent} {σ : L2.St} {H : Hp} (S : Now C n env σ H) {v : V} {R : SRel} (h : R.r v (C.hd env H)) : Now { C with kp := (v, R) :: C.kp } n env σ H :=
  ⟨S.ent, S.len, S.nd, S.new, S.base, S.pool, S.hG, S.kn, S.vis, fun p hp => by
    rcases List.mem_cons.mp hp with rfl | hp
    · exact h
    · exact S.kept p hp, S.dj⟩
theorem At.unkeep {C : Cn} {n : Int} {env : List Ent} {σ : L2.St} {H : Hp} {p : V × SRel} (S : Now { C with kp := p :: C.kp } n env σ H) : Now C n env σ H :=
  ⟨S.ent, S.len, S.nd, S.new, S.base, S.pool, S.hG, S.kn, S.vis, fun q hq => S.kept q (List.mem_cons_of_mem _ hq), S.dj⟩
/-- for x in a list -/
theorem ts_forL {ds : List PyData} (h : EvS C n env te (dat C.K (.list ds))) (Inv : Nat → Int → List Ent → Prop) (h0 : Inv 0 n env) (hl : ∀ i m e, Inv i m e → j < e.length)
    (hs : ∀ p (i : Nat) d m e, ds[i]? = some d → Inv i m e → TSd { C with kp := p :: C.kp } m (e.set j (.it (dat C.K d))) t (Inv (i + 1)) Rt) (hd : ∀ m e, Inv ds.length m e → Nx m e) :
    TSd C n env (tFor (iList C.K te) (gName j) t) Nx Rt := fun D σ H S q r => by
  refine h σ H S _ fun v H1 e1 r1 => ?_
  cases r1 with
  | @lst a xs _ ha hq =>
    have ha' := (hid_some ha).2
    refine ⟨a, rfl, ⟨xs, sq_of ha'⟩, ?_⟩
    have S1 : Now { C with kp := (.ref a, walkL C.K a xs ds) :: C.kp } n env σ H1 := (S.ex e1).keep ⟨rfl, ha, hq⟩
    refine for_list (xs := xs) (fun i σ' H' => ∃ m e, Now { C with kp := (.ref a, walkL C.K a xs ds) :: C.kp } m e σ' H' ∧ Inv i m e) ⟨n, env, S1, h0⟩ (fun i σ' H' _ ⟨m, e, S', p⟩ => ?_) (fun i x σ' H' hi ⟨m, e, S', p⟩ => ?_)
      fun σ' H' ⟨m, e, S', p⟩ => q _ _ m e S'.unkeep (hd m e (by rw [← hq.len]; exact p))
    · have := (S'.kept _ List.mem_cons_self).2.1
      exact sq_of (hid_some this).2
    · have kq := (S'.kept _ List.mem_cons_self).2.2
      obtain ⟨d, hdd, rd⟩ := RpA.get' kq hi
      exact hs _ i d m e hdd p _ _ H' (S'.set (hl i m e p) rd) (fun σ2 H2 m2 e2 S2 p2 => ⟨m2, e2, S2, p2⟩) r
/-- for x in a tuple -/
theorem ts_forT {ds : List PyData} (h : EvS C n env te (dat C.K (.tuple ds))) (Inv : Nat → Int → List Ent → Prop) (h0 : Inv 0 n env) (hl : ∀ i m e, Inv i m e → j < e.length)
    (hs : ∀ p (i : Nat) d m e, ds[i]? = some d → Inv i m e → TSd { C with kp := p :: C.kp } m (e.set j (.it (dat C.K d))) t (Inv (i + 1)) Rt) (hd : ∀ m e, Inv ds.length m e → Nx m e) :
    TSd C n env (tFor (iTup C.K te) (gName j) t) Nx Rt := fun D σ H S q r => by
  refine h σ H S _ fun v H1 e1 r1 => ?_
  cases r1 with
  | @tup a xs _ ha hq =>
    refine ⟨a, rfl, ⟨xs, ex_t hidEx (st_of ha)⟩, ?_⟩
    have S1 : Now { C with kp := (.ref a, walkT C.K a xs ds) :: C.kp } n env σ H1 := (S.ex e1).keep ⟨rfl, st_of ha, hq⟩
    refine for_tup (xs := xs) (fun i σ' H' => ∃ m e, Now { C with kp := (.ref a, walkT C.K a xs ds) :: C.kp } m e σ' H' ∧ Inv i m e) ⟨n, env, S1, h0⟩ (fun i σ' H' _ ⟨m, e, S', p⟩ => ?_) (fun i x σ' H' hi ⟨m, e, S', p⟩ => ?_)
      fun σ' H' ⟨m, e, S', p⟩ => q _ _ m e S'.unkeep (hd m e (by rw [← hq.len]; exact p))
    · exact ex_t hidEx (S'.kept _ List.mem_cons_self).2.1
    · have kq := (S'.kept _ List.mem_cons_self).2.2
      obtain ⟨d, hdd, rd⟩ := RpA.get' kq hi
      exact hs _ i d m e hdd p _ _ H' (S'.set (hl i m e p) rd) (fun σ2 H2 m2 e2 S2 p2 => ⟨m2, e2, S2, p2⟩) r
/-! ### comprehensions -/
abbrev Cn.add (C : Cn) (p : Addr) : Cn := { C with G := p :: C.G }
/-- where the element of a comprehension stands: its list, at p, is hidden -/
structure Lc (C : Cn) (n : Int) (env : List Ent) (vs : List Nat) (σ : L2.St) (p : Addr) (ds : List PyData) (H : Hp) : Prop where
  at_ : Now (C.add p) n (wipeE env vs) (wipe σ vs) H
  acc : ∃ xs, H p = some (.lst xs) ∧ RpA C.K ((C.add p).hd (wipeE env vs) H) xs ds
  h0 : C.H0 p = none
  no : p ∉ own (wipeE env vs)
theorem own_wipe {env : List Ent} {a : Addr} : ∀ {vs : List Nat}, a ∈ own (wipeE env vs) → a ∈ own env
  | [], h => h
  | _ :: _, h => own_wipe (own_set_un h)
theorem Lc.start {σ : L2.St} {H : Hp} {p : Addr} (S : Now C n env σ H) (vs : List Nat) (hp : H p = none) : Lc C n env vs σ p [] (upd H p (.lst [])) :=
  ⟨(S.wipe vs).hide hp, ⟨[], upd_same, .nil⟩, S.fresh0 hp, fun z => by
    have := (S.new p (own_wipe z)).2
    rw [hp] at this
    cases this⟩
theorem Lc.push {σ : L2.St} {H H' : Hp} {p : Addr} {vs : List Nat} {ds : List PyData} {d : PyData} {v : V} {m : Int} (L : Lc C n env vs σ p ds H) (bt : Bt C.pl.toList H H')
    (hpl : p ∉ C.pl.toList) (S : Now (C.add p) m (wipeE env vs) (wipe σ vs) H') (r : Rp C.K ((C.add p).hd (wipeE env vs) H') v d) :
    ∃ acc, H' p = some (.lst acc) ∧ acc.length = ds.length ∧ Lc C m env vs σ p (ds ++ [d]) (upd H' p (.lst (acc ++ [v]))) := by
  obtain ⟨xs, hx, hr⟩ := L.acc
  have ex : Ex ((C.add p).hd (wipeE env vs) H) ((C.add p).hd (wipeE env vs) H') := L.at_.hex bt
  refine ⟨xs, bt p _ hpl hx, hr.len, S.hupd List.mem_cons_self L.h0 L.no, ⟨_, upd_same, ?_⟩, L.h0, L.no⟩
  have ex2 : Ex ((C.add p).hd (wipeE env vs) H') ((C.add p).hd (wipeE env vs) (upd H' p (.lst (xs ++ [v])))) := fun a u h => by
    obtain ⟨na, ha⟩ := hid_some h
    show hid _ _ _ = _
    rw [hid_out na, upd_ne fun (z : a = p) => na (by rw [z]; exact List.mem_append_left _ List.mem_cons_self)]
    exact ha
  exact ((hr.ex ex).ex ex2).append (.cons (r.ex ex2) .nil)
theorem Lc.npl {σ : L2.St} {H : Hp} {p : Addr} {vs : List Nat} {ds : List PyData} (L : Lc C n env vs σ p ds H) : p ∉ C.pl.toList := fun z => by
  cases hpl : C.pl with
  | none => rw [hpl] at z; simp at z
  | some q =>
    rw [hpl] at z
    have z' : p = q := by simpa using z
    have := L.at_.kn q hpl
    have h0 := L.h0
    rw [z'] at h0
    rw [show (C.add p).H0 = C.H0 from rfl, h0] at this
    cases this
end
end L2.DL

set_option Elab.async false
set_option maxRecDepth 100000
set_option maxHeartbeats 4000000
set_option linter.all false
/-! What is walked; targets; for and comprehensions over anything. -/
namespace L2.DL
open PySem PySem.Spec PyProof.Rows XC XK Evl TL
/-- a walk that gives ds, one behind the other, while kr holds of kv -/
structure ItW (K : PySem.W.Frag) (J : It) (ds : List PyData) (kv : V) (kr : SRel) : Prop where
  w : Walk J ds.length (fun H => ∃ L, kr.r kv (hid L H)) fun i Ha x Hb => Ex Ha Hb ∧ ∀ L, (∀ p, Ha p = none → p ∉ L) → kr.r kv (hid L Ha) → ∃ d, ds[i]? = some d ∧ Rp K (hid L Hb) x d
section
variable (C : Cn) (n : Int) (env : List Ent)
def ItD (wi : TI) (ds : List PyData) : Prop := ∀ σ H, Now C n env σ H → ∀ R : It → Hp → Prop, (∀ J H' kv kr, Ex H H' → kr.r kv (C.hd env H') → ItW C.K J ds kv kr → R J H') → wi σ H R
/-- a target that gets d -/
def TgD (g : TG) (vs : List Nat) (d : PyData) (env' : List Ent) : Prop := ∀ σ H x, Now C n env σ H → Rp C.K (C.hd env H) x d → ∀ Q : L2.St → Hp → Prop, (∀ σ', Now C n env' σ' H → wipe σ' vs = wipe σ vs → Q σ' H) → g x σ H Q
end
section
variable {C : Cn} {n : Int} {env : List Ent} {ta tb te tc : TE} {tas : TA} {R R' : SRel} {d e f : PyData} {ds es : List PyData} {i j : Nat} {t u : TS} {tt : TT} {Nx : Int → List Ent → Prop} {Rt : SRel → Int → Prop} {wi : TI} {g : TG}
theorem it_list (h : EvS C n env te (dat C.K (.list ds))) : ItD C n env (iList C.K te) ds := fun σ H S Q q => h σ H S _ fun v H1 e1 r1 => by
  cases r1 with
  | @lst a xs _ ha hq =>
    refine ⟨a, rfl, ⟨xs, sq_of (hid_some ha).2⟩, q _ H1 (.ref a) (walkL C.K a xs ds) e1 ⟨rfl, ha, hq⟩ ⟨?_⟩⟩
    rw [← hq.len]
    refine walk_list.mono (fun H' h => ?_) fun i H' x H2 hi _ y => ?_
    · obtain ⟨L, _, h, _⟩ := h
      exact sq_of (hid_some h).2
    · obtain ⟨rfl, hx⟩ := y
      exact ⟨Ex.refl _, fun L _ k => RpA.get' k.2.2 hx⟩
theorem it_tup (h : EvS C n env te (dat C.K (.tuple ds))) : ItD C n env (iTup C.K te) ds := fun σ H S Q q => h σ H S _ fun v H1 e1 r1 => by
  cases r1 with
  | @tup a xs _ ha hq =>
    refine ⟨a, rfl, ⟨xs, ex_t hidEx (st_of ha)⟩, q _ H1 (.ref a) (walkT C.K a xs ds) e1 ⟨rfl, st_of ha, hq⟩ ⟨?_⟩⟩
    rw [← hq.len]
    refine walk_tup.mono (fun H' h => ?_) fun i H' x H2 hi _ y => ?_
    · obtain ⟨L, _, h, _⟩ := h
      exact ex_t hidEx h
    · obtain ⟨rfl, hx⟩ := y
      exact ⟨Ex.refl _, fun L _ k => RpA.get' k.2.2 hx⟩
def iota (k : Nat) : List PyData := (List.range k).map fun (i : Nat) => .int (i : Int)
theorem iota_len {k : Nat} : (iota k).length = k := by simp [iota]
theorem iota_at {k i : Nat} {d : PyData} (h : (iota k)[i]? = some d) : d = .int i ∧ i < k := by
  simp only [iota, List.getElem?_map, Option.map_eq_some_iff, List.getElem?_range] at h
  obtain ⟨a, h1, rfl⟩ := h
  have hi : i < k := by
    by_cases hi : i < k
    · exact hi
    · simp [List.getElem?_eq_none, hi] at h1
  rw [List.getElem?_range hi] at h1
  cases h1
  exact ⟨rfl, hi⟩
theorem it_rng {k : Int} (h : EvDs C n env tas [.int k]) (hk : k ≤ 1000000) (hk0 : -1000000 ≤ k) : ItD C n env (iRng1 tas) (iota k.toNat) := fun σ H S Q q => h σ H S _ fun vs H1 e1 t1 => by
  obtain ⟨v, rfl, tv⟩ := t1.one
  rw [tv.int]
  refine ⟨k, rfl, by omega, by omega, q _ H1 .non (val .non) e1 rfl ⟨?_⟩⟩
  rw [iota_len]
  refine walk_range.mono (fun _ _ => True.intro) fun i H' x H2 hi _ y => ?_
  obtain ⟨rfl, rfl⟩ := y
  refine ⟨Ex.refl _, fun L _ _ => ⟨.int i, ?_, by
    show Rp _ _ (V.int (0 + (i : Int))) _
    rw [Int.zero_add]
    exact .int _⟩⟩
  simp [iota, hi]
theorem it_rng2 {lo k : Int} (h : EvDs C n env tas [.int lo, .int k]) (hl : lo ≤ 1000000) (hl0 : -1000000 ≤ lo) (hk : k ≤ 1000000) (hk0 : -1000000 ≤ k) :
    ItD C n env (iRng2 tas) ((List.range (k - lo).toNat).map fun (i : Nat) => .int (lo + (i : Int))) := fun σ H S Q q => h σ H S _ fun vs H1 e1 t1 => by
  obtain ⟨v, w, rfl, tv, tw⟩ := t1.two
  rw [tv.int, tw.int]
  refine ⟨lo, k, rfl, ⟨by omega, by omega, by omega, by omega⟩, q _ H1 .non (val .non) e1 rfl ⟨?_⟩⟩
  rw [List.length_map, List.length_range]
  refine walk_range.mono (fun _ _ => True.intro) fun i H' x H2 hi _ y => ?_
  obtain ⟨rfl, rfl⟩ := y
  exact ⟨Ex.refl _, fun L _ _ => ⟨.int (lo + i), by simp [hi], .int _⟩⟩
def chars (z : Str) : List PyData := z.cps.toList.map fun c => .str ⟨#[c]⟩
theorem it_str {z : Str} (h : EvD C n env te (.str z)) : ItD C n env (iStr te) (chars z) := fun σ H S Q q => h σ H S _ fun v H1 e1 t1 => by
  refine ⟨z, t1.str.1, q _ H1 .non (val .non) e1 rfl ⟨?_⟩⟩
  rw [show (chars z).length = z.cps.size by simp [chars]]
  refine walk_str.mono (fun _ _ => True.intro) fun i H' x H2 hi _ y => ?_
  obtain ⟨rfl, c, hc, rfl⟩ := y
  refine ⟨Ex.refl _, fun L _ _ => ⟨.str ⟨#[c]⟩, ?_, .str _ (by show 1 ≤ 100000; decide)⟩⟩
  have : z.cps.toList[i]? = some c := by rw [Array.getElem?_toList]; exact hc
  simp [chars, this]
theorem tg_name (hj : j < env.length) : TgD C n env (gName j) [j] d (env.set j (.it (dat C.K d))) := fun σ H x S r Q q => q _ (S.set hj r) (by
  show ((σ.set j (some x)).set j none) = σ.set j none
  rw [List.set_set])
theorem tg_pair (hi : i < env.length) (hj : j < env.length) (hd : f = .tuple [d, e]) : TgD C n env (gTup C.K 2 (gCons (gName i) (gCons (gName j) gNil))) [i, j] f ((env.set i (.it (dat C.K d))).set j (.it (dat C.K e))) := fun σ H x S r Q q => by
  subst hd
  cases r with
  | @tup a xs _ ha hq =>
    cases hq with
    | @cons v1 vs1 _ _ r1 hq => cases hq with
      | @cons v2 vs2 _ _ r2 hq =>
        cases hq
        refine ⟨a, _, rfl, ex_t hidEx (st_of ha), rfl, v1, _, rfl, ?_⟩
        show ∃ v r, [v2] = v :: r ∧ _
        refine ⟨v2, [], rfl, rfl, q _ ((S.set hi r1).set (by simpa using hj) (r2.ex (hid_sub fun a h => ?_))) ?_⟩
        · rcases List.mem_append.mp h with h | h
          · exact List.mem_append_left _ h
          · rcases own_set_sub h with h | ⟨d, h⟩
            · exact List.mem_append_right _ h
            · cases h
        · show ((((σ.set i (some v1)).set j (some v2)).set j none).set i none) = (σ.set j none).set i none
          apply List.ext_getElem?
          intro k
          simp only [List.getElem?_set, List.length_set]
          by_cases h1 : i = k <;> by_cases h2 : j = k <;> simp [h1, h2]
theorem hd_fresh {σ : L2.St} {H : Hp} (S : Now C n env σ H) : ∀ p, H p = none → p ∉ C.G ++ own env := fun p hp => S.fresh hp
abbrev Cn.kept (C : Cn) (p : V × SRel) : Cn := { C with kp := p :: C.kp }
/-- for target in iter -/
theorem ts_for (hi : ItD C n env wi ds) (Inv : Nat → Int → List Ent → Prop) (h0 : Inv 0 n env)
    (hs : ∀ p (i : Nat) d m e, ds[i]? = some d → Inv i m e → ∃ vs e', TgD (C.kept p) m e g vs d e' ∧ TSd (C.kept p) m e' t (Inv (i + 1)) Rt) (hd : ∀ m e, Inv ds.length m e → Nx m e) :
    TSd C n env (tFor wi g t) Nx Rt := fun D σ H S q r => by
  refine hi σ H S _ fun J H1 kv kr e1 k1 W => ?_
  refine for_it W.w (fun i σ' H' => ∃ m e, Now (C.kept (kv, kr)) m e σ' H' ∧ Inv i m e) ⟨n, env, (S.ex e1).keep k1, h0⟩ (fun i σ' H' _ ⟨m, e, S', p⟩ => ⟨_, S'.kept _ List.mem_cons_self⟩)
    (fun i x σ' H' H2 hi ⟨m, e, S', p⟩ ⟨ex, y⟩ => ?_) fun σ' H' ⟨m, e, S', p⟩ => q _ _ m e S'.unkeep (hd m e p)
  obtain ⟨d, hdd, rd⟩ := y _ (hd_fresh S') (S'.kept _ List.mem_cons_self)
  obtain ⟨vs, e', tg, ts⟩ := hs (kv, kr) i d m e hdd p
  exact tg σ' H2 x (S'.ex ex) rd _ fun σ2 S2 _ => ts _ σ2 H2 S2 (fun σ3 H3 m3 e3 S3 p3 => ⟨m3, e3, S3, p3⟩) r
theorem wipe_wipe {σ : L2.St} (vs : List Nat) : wipe (wipe σ vs) vs = wipe σ vs := by
  apply List.ext_getElem?
  intro k
  by_cases hk : k ∈ vs
  · have z : ∀ (vs : List Nat) (τ : L2.St), k ∈ vs → τ.length = σ.length → (wipe τ vs)[k]? = (wipe σ vs)[k]? := by
      intro vs
      induction vs with
      | nil => intro τ hk; cases hk
      | cons v vs ih =>
        intro τ hk hτ
        show ((wipe τ vs).set v none)[k]? = ((wipe σ vs).set v none)[k]?
        rw [List.getElem?_set, List.getElem?_set, wipe_length, wipe_length, hτ]
        by_cases hv : v = k
        · rw [if_pos hv, if_pos hv]
        · rw [if_neg hv, if_neg hv]
          rcases List.mem_cons.mp hk with hk | hk
          · exact absurd hk.symm hv
          · exact ih τ hk hτ
    exact z vs _ hk (wipe_length σ vs)
  · rw [wipe_out hk]
theorem et_yes : EvT C n env tYes true := fun σ H S Q q => q H (Ex.refl _)
/-- a comprehension that draws nothing -/
theorem es_lc {vs : List Nat} (hi : ItD C n env wi ds) (ho : own (wipeE env vs) = own env) (hz : ds.length ≤ 90000) (f : PyData → PyData) (b : PyData → Bool)
    (hs : ∀ p q (i : Nat) d, ds[i]? = some d → ∃ e', TgD ((C.add p).kept q) n (wipeE env vs) g vs d e' ∧ own e' = own env ∧ EvT ((C.add p).kept q) n e' tt (b d) ∧ (b d = true → EvS ((C.add p).kept q) n e' te (dat C.K (f d)))) :
    EvS C n env (tLc wi g tt te vs) (dat C.K (.list ((ds.filter b).map f))) := fun σ H S Q q => by
  refine hi σ H S _ fun J H1 kv kr e1 k1 W D hD => ?_
  have S1 := S.ex e1
  have L0 : Lc (C.kept (kv, kr)) n env vs σ D [] (upd H1 D (.lst [])) := Lc.start (S1.keep k1) vs hD
  refine lc_it W.w (fun i H' => Ex H1 H' ∧ Lc (C.kept (kv, kr)) n env vs σ D (((ds.take i).filter b).map f) H') ⟨Ex.new hD, by simpa using L0⟩ (fun i H' _ ⟨_, L⟩ => ⟨_, L.at_.kept _ List.mem_cons_self⟩) (fun i x H' H2 hlt ⟨x1, L⟩ ⟨ex, y⟩ => ?_) fun H' ⟨x1, L⟩ => ?_
  · obtain ⟨d, hdd, rd⟩ := y _ (hd_fresh L.at_) (L.at_.kept _ List.mem_cons_self)
    obtain ⟨e', tg, oe, ht, he⟩ := hs D (kv, kr) i d hdd
    have tk : ds.take (i + 1) = ds.take i ++ [d] := by rw [List.take_succ, hdd]; rfl
    refine tg _ H2 x (L.at_.ex ex) rd _ fun σ2 S2 w2 => ⟨w2.trans ?_, ht σ2 H2 S2 _ fun H3 e3 => ?_⟩
    · exact wipe_wipe vs
    · cases hb : b d with
      | false =>
        refine (if_neg (by decide)).mpr ⟨x1.trans (ex.trans e3), ?_⟩
        rw [tk, List.filter_append, show [d].filter b = [] by simp [hb], List.append_nil]
        obtain ⟨a1, ⟨xs, h1, h2⟩, a3, a4⟩ := L
        exact ⟨a1.ex (ex.trans e3), ⟨xs, (ex.trans e3) _ _ h1, h2.ex (hid_ex (ex.trans e3))⟩, a3, a4⟩
      | true =>
        refine (if_pos rfl).mpr (he hb σ2 H3 (S2.ex e3) _ fun v H4 e4 r4 => ?_)
        have E : Ex H' H4 := (ex.trans e3).trans e4
        obtain ⟨xs, h1, h2⟩ := L.acc
        have r4' : Rp C.K (((C.kept (kv, kr)).add D).hd (wipeE env vs) H4) v (f d) := by
          show Rp C.K (hid (_ ++ own (wipeE env vs)) H4) v (f d)
          rw [ho, ← oe]
          exact r4
        obtain ⟨acc, a1, a2, L'⟩ := L.push (Bt.of E) L.npl (L.at_.ex E) r4'
        refine ⟨acc, a1, sz_lt ?_, Ex.mut (x1.trans E) hD, ?_⟩
        · rw [a2]
          have l1 := List.length_filter_le b (ds.take i)
          have l2 := List.length_take_le i ds
          have l3 : (ds.take i).length ≤ ds.length := by rw [List.length_take]; omega
          simp only [List.length_map]
          omega
        · rw [tk, List.filter_append, show [d].filter b = [d] by simp [hb], List.map_append]
          exact L'
  · obtain ⟨xs, h1, h2⟩ := L.acc
    rw [List.take_length] at h2
    have nD := hd_fresh S1 D hD
    refine q (.ref D) H' (e1.trans x1) (Rp.lst (xs := xs) ?_ ?_)
    · show hid (C.G ++ own env) H' D = _
      rw [hid_out nD]
      exact h1
    · refine h2.ex (hid_sub fun a h => ?_)
      rcases List.mem_append.mp h with h | h
      · exact List.mem_append_left _ (List.mem_cons_of_mem _ h)
      · exact List.mem_append_right _ (by rw [ho]; exact h)
theorem es_map {vs : List Nat} (hi : ItD C n env wi ds) (ho : own (wipeE env vs) = own env) (hz : ds.length ≤ 90000) (f : PyData → PyData)
    (hs : ∀ p q (i : Nat) d, ds[i]? = some d → ∃ e', TgD ((C.add p).kept q) n (wipeE env vs) g vs d e' ∧ own e' = own env ∧ EvS ((C.add p).kept q) n e' te (dat C.K (f d))) :
    EvS C n env (tLc wi g tYes te vs) (dat C.K (.list (ds.map f))) := by
  have := es_lc (tt := tYes) hi ho hz f (fun _ => true) fun p q i d hd => by
    obtain ⟨e', h1, h2, h3⟩ := hs p q i d hd
    exact ⟨e', h1, h2, et_yes, fun _ => h3⟩
  rwa [List.filter_eq_self.mpr (fun _ _ => rfl)] at this
/-- a comprehension with draws -/
theorem ef_lc {vs : List Nat} {F : SRel → Int → Prop} (hi : ItD C n env wi ds) (ho : own (wipeE env vs) = own env) (hz : ds.length ≤ 90000) (Inv : Nat → List PyData → Int → Prop) (h0 : Inv 0 [] n)
    (hs : ∀ p q (i : Nat) d acc m, ds[i]? = some d → Inv i acc m → ∃ e', TgD ((C.add p).kept q) m (wipeE env vs) g vs d e' ∧ own e' = own env ∧ EfT ((C.add p).kept q) m e' tt fun b m1 =>
      if b = true then EfE ((C.add p).kept q) m1 e' te fun R m2 => ∃ c, R = dat C.K c ∧ Inv (i + 1) (acc ++ [c]) m2 else Inv (i + 1) acc m1)
    (hd : ∀ acc m, Inv ds.length acc m → F (dat C.K (.list acc)) m) : EfE C n env (tLc wi g tt te vs) F := fun σ H S Q q => by
  refine hi σ H S _ fun J H1 kv kr e1 k1 W D hD => ?_
  have S1 := S.ex e1
  have nD := hd_fresh S1 D hD
  have L0 : Lc (C.kept (kv, kr)) n env vs σ D [] (upd H1 D (.lst [])) := Lc.start (S1.keep k1) vs hD
  refine lc_it W.w (fun i H' => ∃ acc m, acc.length ≤ i ∧ Bt C.pl.toList H1 H' ∧ Lc (C.kept (kv, kr)) m env vs σ D acc H' ∧ Inv i acc m) ⟨[], n, Nat.zero_le _, Bt.of (Ex.new hD), L0, h0⟩ (fun i H' _ ⟨_, _, _, _, L, _⟩ => ⟨_, L.at_.kept _ List.mem_cons_self⟩)
    (fun i x H' H2 hlt ⟨acc, m, la, x1, L, iv⟩ ⟨ex, y⟩ => ?_) fun H' ⟨acc, m, la, x1, L, iv⟩ => ?_
  · obtain ⟨d, hdd, rd⟩ := y _ (hd_fresh L.at_) (L.at_.kept _ List.mem_cons_self)
    obtain ⟨e', tg, oe, ht⟩ := hs D (kv, kr) i d acc m hdd iv
    refine tg _ H2 x (L.at_.ex ex) rd _ fun σ2 S2 w2 => ⟨w2.trans (wipe_wipe vs), ht σ2 H2 S2 _ fun b H3 m1 e3 S3 f3 => ?_⟩
    have back : ∀ {H4 : Hp} {k : Int}, Now ((C.add D).kept (kv, kr)) k e' σ2 H4 → Bt C.pl.toList H' H4 → Now ((C.kept (kv, kr)).add D) k (wipeE env vs) (wipe σ vs) H4 := fun S4 b4 => L.at_.drawn b4 S4.pool
    cases b with
    | false =>
      refine (if_neg (by decide)).mpr ⟨acc, m1, Nat.le_succ_of_le la, x1.trans ((Bt.of ex).trans e3), ?_, f3⟩
      have B : Bt C.pl.toList H' H3 := (Bt.of ex).trans e3
      obtain ⟨xs, h1, h2⟩ := L.acc
      exact ⟨back S3 B, ⟨xs, B _ _ L.npl h1, h2.ex (L.at_.hex B)⟩, L.h0, L.no⟩
    | true =>
      refine (if_pos rfl).mpr ((show EfE ((C.add D).kept (kv, kr)) m1 e' te _ from f3) σ2 H3 S3 _ fun v H4 R m2 e4 S4 r4 f4 => ?_)
      obtain ⟨c, rfl, f4⟩ := f4
      have B : Bt C.pl.toList H' H4 := ((Bt.of ex).trans e3).trans e4
      have r4' : Rp C.K (((C.kept (kv, kr)).add D).hd (wipeE env vs) H4) v c := by
        show Rp C.K (hid (_ ++ own (wipeE env vs)) H4) v c
        rw [ho, ← oe]
        exact r4
      obtain ⟨ac, a1, a2, L'⟩ := L.push B L.npl (back S4 B) r4'
      refine ⟨ac, a1, sz_lt (by rw [a2]; omega), acc ++ [c], m2, by simp; omega, ?_, L', f4⟩
      refine fun a o na ha => ?_
      rw [upd_ne fun (z : a = D) => by rw [z, hD] at ha; cases ha]
      exact B a o na (x1 a o na ha)
  · obtain ⟨xs, h1, h2⟩ := L.acc
    have B : Bt C.pl.toList H H' := (Bt.of e1).trans x1
    refine q (.ref D) H' _ m B (S.drawn B L.at_.pool) (Rp.lst (xs := xs) ?_ ?_) (hd acc m iv)
    · show hid (C.G ++ own env) H' D = _
      rw [hid_out nD]
      exact h1
    · refine h2.ex (hid_sub fun a h => ?_)
      rcases List.mem_append.mp h with h | h
      · exact List.mem_append_left _ (List.mem_cons_of_mem _ h)
      · exact List.mem_append_right _ (by rw [ho]; exact h)
end
end L2.DL

set_option Elab.async false
set_option maxRecDepth 100000
set_option maxHeartbeats 4000000
set_option linter.all false
/-! Promises of defs upon data; calls; draws. -/
namespace L2.DL
open PySem PySem.Spec PyProof.Rows XC XK Evl TL
/-- a promise: of which arguments, when, at how many draws, what comes -/
structure Pro (α : Type) where
  args : α → List SRel
  pre : α → Prop
  cost : Int
  res : α → SRel → Prop
/-- with the pool handed over first -/
def spP {α : Type} (C : Pro α) : Sp := fun vs H Q _ => ∃ (a : α) (p : Addr) (n : Int) (G : List Addr) (ws : List V), vs = .ref p :: ws ∧ p ∈ G ∧ (∀ b ∈ G, (H b).isSome = true) ∧ PoolAt H p n ∧ n + C.cost ≤ 1000000 ∧ C.pre a ∧ SAll (hid G H) ws (C.args a) ∧
  ∀ v H' R, Bt [p] H H' → PoolAt H' p (n + C.cost) → C.res a R → R.r v (hid G H') → Q v H'
def spF {α : Type} (C : Pro α) : Sp := fun vs H Q _ => ∃ (a : α) (G : List Addr), (∀ b ∈ G, (H b).isSome = true) ∧ C.pre a ∧ SAll (hid G H) vs (C.args a) ∧ ∀ v H' R, Ex H H' → C.res a R → R.r v (hid G H') → Q v H'
def envS (Rs : List SRel) (k : Nat) : List Ent := Rs.map .it ++ List.replicate k .un
theorem own_envS : ∀ (Rs : List SRel) (k : Nat), own (envS Rs k) = []
  | [], 0 => rfl
  | [], k + 1 => own_envS [] k
  | _ :: Rs, k => own_envS Rs k
theorem SAll.len {h : Hp} : ∀ {vs : List V} {Rs : List SRel}, SAll h vs Rs → vs.length = Rs.length
  | _, _, .nil => rfl
  | _, _, .cons _ t => congrArg Nat.succ (SAll.len t)
theorem SAll.get {h : Hp} : ∀ {vs : List V} {Rs : List SRel} {i : Nat} {R : SRel}, SAll h vs Rs → Rs[i]? = some R → ∃ v, vs[i]? = some v ∧ R.r v h
  | _, _, 0, _, .cons a _, e => ⟨_, rfl, by cases e; exact a⟩
  | _, _, i + 1, _, .cons _ t, e => SAll.get (i := i) t e
  | _, _, i, _, .nil, e => by simp at e
theorem at_start {K : PySem.W.Frag} {pl : Option Addr} {G : List Addr} {H : Hp} {n : Int} {vs : List V} {Rs : List SRel} (k : Nat) (hs : SAll (hid G H) vs Rs) (hp : PoolO H pl n) (hG : ∀ p, pl = some p → p ∈ G) (hv : ∀ b ∈ G, (H b).isSome = true) :
    At K pl G H [] n (envS Rs k) (vs.map some ++ List.replicate k none) H where
  ent i e h := by
    rw [own_envS, List.append_nil]
    unfold envS at h
    rw [List.getElem?_append] at h
    rw [List.getElem?_append]
    rw [List.length_map] at h ⊢
    rw [hs.len]
    by_cases hi : i < Rs.length
    · rw [if_pos hi, List.getElem?_map] at h
      rw [if_pos hi, List.getElem?_map]
      cases hr : Rs[i]? with
      | none => rw [hr] at h; cases h
      | some R =>
        rw [hr] at h
        cases h
        obtain ⟨v, e, r⟩ := hs.get hr
        exact ⟨v, by rw [e]; rfl, r⟩
    · rw [if_neg hi] at h
      have : e = .un := (List.mem_replicate.mp (List.mem_of_getElem? h)).2
      subst this
      trivial
  len := by simp [envS, hs.len]
  nd := by rw [own_envS]; exact List.nodup_nil
  new l h := by rw [own_envS] at h; cases h
  base := Bt.refl
  pool := hp
  hG := hG
  kn p h := by
    obtain ⟨_, _, _, e, _⟩ := hp p h
    rw [e]; rfl
  vis := hv
  kept p h := by cases h
  dj l h := by rw [own_envS] at h; cases h
theorem ltE {i : Nat} {l : List Ent} (h : Nat.blt i l.length = true) : i < l.length := by
  unfold Nat.blt at h
  exact Nat.le_of_ble_eq_true h
theorem bt_nil {H H' : Hp} (e : Bt [] H H') : Ex H H' := fun a o h => e a o (fun z => by cases z) h
/-- the body of a def with the pool -/
theorem bodyP {α : Type} {D : Pro α} {K : PySem.W.Frag} {N : List Str} {t : TS} {vs : List V} {H : Hp} {Q : VK} {E : XK} (h : spP D vs H Q E)
    (T : ∀ (a : α) (p : Addr) (n : Int) (G : List Addr) (H0 : Hp), D.pre a → n + D.cost ≤ 1000000 → TSd { K := K, pl := some p, G := G, H0 := H0 } n (envS (val (.ref p) :: D.args a) (N.length - ((D.args a).length + 1))) t (fun _ _ => False)
      fun R m => m ≤ n + D.cost ∧ D.res a R) : t { nx := fun _ H' => Q .non H', rt := Q } (start N vs) H := by
  obtain ⟨a, p, n, G, ws, rfl, hp, hv, pa, hn, pre, hs, k⟩ := h
  have l := hs.len
  refine T a p n G H pre hn _ _ H ?_ (fun _ _ _ _ _ z => z.elim) fun v H' R m b po r ⟨hm, f⟩ => ?_
  · have := at_start (K := K) (pl := some p) (n := n) (N.length - ((D.args a).length + 1)) (SAll.cons (R := val (.ref p)) (v := .ref p) rfl hs) (fun q z => by cases z; exact pa) (fun q z => by cases z; exact hp) hv
    unfold start
    rw [List.length_cons, l]
    exact this
  · exact k v H' R b ((po p rfl).le hm) f r
/-- the body of a def without -/
theorem bodyF {α : Type} {D : Pro α} {K : PySem.W.Frag} {N : List Str} {t : TS} {vs : List V} {H : Hp} {Q : VK} {E : XK} (h : spF D vs H Q E)
    (T : ∀ (a : α) (G : List Addr) (H0 : Hp), D.pre a → TSd { K := K, pl := none, G := G, H0 := H0 } 0 (envS (D.args a) (N.length - (D.args a).length)) t (fun _ _ => False) fun R _ => D.res a R) :
    t { nx := fun _ H' => Q .non H', rt := Q } (start N vs) H := by
  obtain ⟨a, G, hv, pre, hs, k⟩ := h
  have l := hs.len
  refine T a G H pre _ _ H ?_ (fun _ _ _ _ _ z => z.elim) fun v H' R m b po r f => k v H' R (bt_nil b) f r
  have := at_start (K := K) (pl := none) (n := 0) (N.length - (D.args a).length) hs (fun q z => by cases z) (fun q z => by cases z) hv
  unfold start
  rw [l]
  exact this
theorem lenP {α : Type} {D : Pro α} {ps : List Str} {vs : List V} {H : Hp} {Q : VK} {E : XK} (hl : ∀ a, (D.args a).length + 1 = ps.length) (h : spP D vs H Q E) : vs.length = ps.length := by
  obtain ⟨a, _, _, _, ws, rfl, _, _, _, _, _, hs, _⟩ := h
  rw [List.length_cons, hs.len]
  exact hl a
theorem lenF {α : Type} {D : Pro α} {ps : List Str} {vs : List V} {H : Hp} {Q : VK} {E : XK} (hl : ∀ a, (D.args a).length = ps.length) (h : spF D vs H Q E) : vs.length = ps.length := by
  obtain ⟨a, _, _, _, hs, _⟩ := h
  rw [hs.len]
  exact hl a
section
variable {C : Cn} {n : Int} {env : List Ent} {ta tb te tc : TE} {tas : TA} {R R' : SRel} {d e f : PyData} {ds es : List PyData} {i j : Nat} {F : SRel → Int → Prop} {p : Addr}
theorem At.bt1 {σ : L2.St} {H H' : Hp} (hpl : C.pl = some p) (e : Bt [p] H H') : Bt C.pl.toList H H' := by
  rw [hpl]
  exact e
theorem At.poolO {H' : Hp} {m : Int} (hpl : C.pl = some p) (h : PoolAt H' p m) : PoolO H' C.pl m := fun q z => by
  rw [hpl] at z
  cases z
  exact h
theorem ef_callP {α : Type} {D : Pro α} {E : XK} (hpl : C.pl = some p) (hp : env[i]? = some (.it (val (.ref p))))
    (h : EfA C n env tas fun Rs m => ∃ a, Rs = D.args a ∧ D.pre a ∧ m + D.cost ≤ 1000000 ∧ ∀ R, D.res a R → F R (m + D.cost)) : EfE C n env (tCall (spP D) [] E (tCons (tVar i) tas)) F := fun σ H S Q q => by
  obtain ⟨v, e, hv⟩ := S.ent i _ hp
  have hv' : v = .ref p := hv
  subst hv'
  refine ⟨_, e, h σ H S _ fun vs H1 Rs m e1 S1 r1 f1 => ?_⟩
  obtain ⟨a, rfl, pre, hm, k⟩ := f1
  refine ⟨a, p, m, C.G ++ own env, vs, by rw [List.append_nil], List.mem_append_left _ (S1.hG p hpl), fun b hb => ?_, S1.pool p hpl, hm, pre, r1, fun v H' R b po f r => ?_⟩
  · rcases List.mem_append.mp hb with hb | hb
    · exact S1.vis b hb
    · exact (S1.new b hb).2
  · exact q v H' R _ (e1.trans (At.bt1 (σ := σ) hpl b)) (S1.drawn (At.bt1 (σ := σ) hpl b) (At.poolO hpl po)) r (k R f)
theorem es_callF {α : Type} {D : Pro α} {E : XK} {Rs : List SRel} (a : α) (h : EvSs C n env tas Rs) (ha : Rs = D.args a) (pre : D.pre a) (k : ∀ R', D.res a R' → ∀ v h, R'.r v h → R.r v h) : EvS C n env (tCall (spF D) [] E tas) R := fun σ H S Q q =>
  h σ H S _ fun vs H1 e1 r1 => by
    subst ha
    refine ⟨a, C.G ++ own env, fun b hb => ?_, pre, by rw [List.append_nil]; exact r1, fun v H' R b f r => q v H' (e1.trans b) (k R f v _ r)⟩
    rcases List.mem_append.mp hb with hb | hb
    · exact (S.ex e1).vis b hb
    · exact ((S.ex e1).new b hb).2
theorem ef_callF {α : Type} {D : Pro α} {E : XK} (h : EfA C n env tas fun Rs m => ∃ a, Rs = D.args a ∧ D.pre a ∧ ∀ R, D.res a R → F R m) : EfE C n env (tCall (spF D) [] E tas) F := fun σ H S Q q =>
  h σ H S _ fun vs H1 Rs m e1 S1 r1 f1 => by
    obtain ⟨a, rfl, pre, k⟩ := f1
    refine ⟨a, C.G ++ own env, fun b hb => ?_, pre, by rw [List.append_nil]; exact r1, fun v H' R b f r => q v H' R m (e1.trans (Bt.of b)) (S1.ex b) r (k R f)⟩
    rcases List.mem_append.mp hb with hb | hb
    · exact S1.vis b hb
    · exact (S1.new b hb).2
theorem TAll.ofS {K : PySem.W.Frag} {h H : Hp} : ∀ {vs : List V} {ds : List PyData}, SAll h vs (ds.map (dat K)) → TAll K h H vs ds
  | _, [], .nil => .nil
  | _, _ :: _, .cons a t => .cons (.st a) (TAll.ofS t)
/-- x.m(..), the arguments with draws -/
theorem ef_methA {T : String} {r : V → List V → Hp → VK → Prop} (ty : ∀ h H x, Ex h H → Tr C.K h H x d → tyV C.K T x H) (ha : EvS C n env ta (dat C.K d)) (h : EfA C n env tas fun Rs m => ∃ ds f, Rs = ds.map (dat C.K) ∧ MethD C.K T r d ds f ∧ F (dat C.K f) m) :
    EfE C n env (tBM C.K T r ta tas) F := fun σ H S Q q => ha σ H S _ fun v H1 e1 r1 =>
  have S1 := S.ex e1
  have run : ∀ (vs : List V) H2 Rs m, Bt C.pl.toList H1 H2 → Now C m env σ H2 → SAll (C.hd env H2) vs Rs → (∃ ds f, Rs = ds.map (dat C.K) ∧ MethD C.K T r d ds f ∧ F (dat C.K f) m) → r v vs H2 Q := fun vs H2 Rs m e2 S2 r2 f2 => by
    obtain ⟨ds, f, rfl, hr, f2⟩ := f2
    exact hr.2 _ H2 v vs (fun p hp => S2.fresh hp) (.st ((dat C.K d).ex (S1.hex e2) r1)) (TAll.ofS r2) Q fun w H3 e3 r3 => q w H3 _ m (((Bt.of e1).trans e2).trans (Bt.of e3)) (S2.ex e3) r3 f2
  ⟨ty _ _ _ hidEx (.st r1), h σ H1 S1 _ run⟩
/-- draw(pool, many) -/
theorem ef_draw {m : Int} {E : XK} (hpl : C.pl = some p) (hp : env[i]? = some (.it (val (.ref p)))) (h : EvD C n env te (.int m)) (h1 : 1 ≤ m) (h2 : m < 1073741824) (hn : n ≤ 1000000)
    (k : ∀ r, 0 ≤ r → r < m → F (dat C.K (.int r)) (n + 1)) : EfE C n env (tCall spDraw [] E (tCons (tVar i) (tCons te tNil))) F := fun σ H S Q q => by
  obtain ⟨v, e, hv⟩ := S.ent i _ hp
  have hv' : v = .ref p := hv
  subst hv'
  refine ⟨_, e, h σ H S _ fun w H1 e1 t1 => ?_⟩
  have S1 := S.ex e1
  rw [t1.int]
  refine ⟨p, n, m, rfl, S1.pool p hpl, hn, h1, h2, fun H' r po b r0 r1 => ?_⟩
  have b' : Bt C.pl.toList H1 H' := At.bt1 (σ := σ) hpl (Bt.but b)
  exact q (.int r) H' (dat C.K (.int r)) (n + 1) ((Bt.of e1).trans b') (S1.drawn b' (At.poolO hpl po)) (Rp.int r) (k r r0 r1)
/-- pick(pool, things) -/
theorem ef_pick {E : XK} (hpl : C.pl = some p) (hp : env[i]? = some (.it (val (.ref p)))) (h : EvS C n env te (dat C.K (.list ds))) (h1 : ds ≠ []) (h2 : ds.length ≤ 100000) (hn : n ≤ 1000000)
    (k : ∀ d, d ∈ ds → F (dat C.K d) (n + 1)) : EfE C n env (tCall spPick [] E (tCons (tVar i) (tCons te tNil))) F := fun σ H S Q q => by
  obtain ⟨v, e, hv⟩ := S.ent i _ hp
  have hv' : v = .ref p := hv
  subst hv'
  refine ⟨_, e, h σ H S _ fun w H1 e1 t1 => ?_⟩
  have S1 := S.ex e1
  cases t1 with
  | @lst a xs _ ha hq =>
    obtain ⟨na, ha'⟩ := hid_some ha
    have hl := hq.len
    have hne : 1 ≤ xs.length := by
      rw [hl]
      cases ds with
      | nil => exact absurd rfl h1
      | cons d r => simp
    refine ⟨p, a, n, xs, rfl, S1.pool p hpl, hn, fun z => na (List.mem_append_left _ (by rw [z]; exact S1.hG p hpl)), ha', hne, by omega, fun H' v po b hv => ?_⟩
    have b' : Bt C.pl.toList H1 H' := At.bt1 (σ := σ) hpl (Bt.but b)
    obtain ⟨j, hj⟩ := List.mem_iff_getElem?.mp hv
    obtain ⟨d, hd, rd⟩ := RpA.get' hq hj
    exact q v H' (dat C.K d) (n + 1) ((Bt.of e1).trans b') (S1.drawn b' (At.poolO hpl po)) (rd.ex (S1.hex b')) (k d (List.mem_of_getElem? hd))
/-- pick(pool, things), things an own list -/
theorem ef_pickO {E : XK} {l : Addr} (hpl : C.pl = some p) (hp : env[i]? = some (.it (val (.ref p)))) (h : env[j]? = some (.ow l (.list ds))) (h1 : ds ≠ []) (h2 : ds.length ≤ 100000) (hn : n ≤ 1000000)
    (k : ∀ d, d ∈ ds → F (dat C.K d) (n + 1)) : EfE C n env (tCall spPick [] E (tCons (tVar i) (tCons (tVar j) tNil))) F := fun σ H S Q q => by
  obtain ⟨v, e, hv⟩ := S.ent i _ hp
  have hv' : v = .ref p := hv
  subst hv'
  obtain ⟨e', xs, ha', hq⟩ := S.ent j _ h
  refine ⟨_, e, _, e', ?_⟩
  have hl := hq.len
  have hne : 1 ≤ xs.length := by
    rw [hl]
    cases ds with
    | nil => exact absurd rfl h1
    | cons d r => simp
  refine ⟨p, l, n, xs, rfl, S.pool p hpl, hn, fun z => S.dj l (own_mem h) (by rw [z]; exact S.hG p hpl), ha', hne, by omega, fun H' v po b hv => ?_⟩
  have b' : Bt C.pl.toList H H' := At.bt1 (σ := σ) hpl (Bt.but b)
  obtain ⟨j', hj⟩ := List.mem_iff_getElem?.mp hv
  obtain ⟨d, hd, rd⟩ := RpA.get' hq hj
  exact q v H' (dat C.K d) (n + 1) b' (S.drawn b' (At.poolO hpl po)) (rd.ex (S.hex b')) (k d (List.mem_of_getElem? hd))
end
end L2.DL

set_option Elab.async false
set_option maxRecDepth 100000
set_option maxHeartbeats 4000000
set_option linter.all false
/-! What an expression comes to, read now or for good; with draws. -/
namespace L2.DL
open PySem PySem.Spec PyProof.Rows XC XK Evl TL
/-- v is the data d: for good, or an own list's content now -/
def Tw (K : PySem.W.Frag) (env : List Ent) (h : Hp) (v : V) (d : PyData) : Prop := Rp K h v d ∨ ∃ (i : Nat) (l : Addr), env[i]? = some (Ent.ow l d) ∧ v = .ref l
inductive TwA (K : PySem.W.Frag) (env : List Ent) (h : Hp) : List V → List PyData → Prop
  | nil : TwA K env h [] []
  | cons {v : V} {vs : List V} {d : PyData} {ds : List PyData} : Tw K env h v d → TwA K env h vs ds → TwA K env h (v :: vs) (d :: ds)
section
variable {K : PySem.W.Frag} {C : Cn} {n : Int} {env : List Ent} {σ : L2.St} {h h' H : Hp} {v : V} {vs : List V} {d : PyData} {ds : List PyData}
theorem Tw.ex (e : Ex h h') (t : Tw K env h v d) : Tw K env h' v d := t.elim (fun r => .inl (r.ex e)) .inr
theorem TwA.ex (e : Ex h h') : ∀ {vs : List V} {ds : List PyData}, TwA K env h vs ds → TwA K env h' vs ds
  | _, _, .nil => .nil
  | _, _, .cons a t => .cons (a.ex e) (TwA.ex e t)
theorem tw_tr (S : Now C n env σ H) (t : Tw C.K env (C.hd env H) v d) : Tr C.K (C.hd env H) H v d := by
  rcases t with r | ⟨i, l, e, rfl⟩
  · exact .st r
  · obtain ⟨_, r⟩ := S.ent i _ e
    cases d with
    | list ds =>
      obtain ⟨xs, a, b⟩ := r
      exact .lst a b
    | dict ds =>
      obtain ⟨kvs, a, b, c⟩ := r
      exact .dic a b c
    | _ => exact r.elim
theorem twa_tr (S : Now C n env σ H) : ∀ {vs : List V} {ds : List PyData}, TwA C.K env (C.hd env H) vs ds → TAll C.K (C.hd env H) H vs ds
  | _, _, .nil => .nil
  | _, _, .cons a t => .cons (tw_tr S a) (twa_tr S t)
end
section
variable (C : Cn) (n : Int) (env : List Ent)
def EfD (te : TE) (F : PyData → Int → Prop) : Prop := ∀ σ H, Now C n env σ H → ∀ Q : VK, (∀ v H' d m, Bt C.pl.toList H H' → Now C m env σ H' → Tw C.K env (C.hd env H') v d → F d m → Q v H') → te σ H Q
def EfDs (ta : TA) (F : List PyData → Int → Prop) : Prop := ∀ σ H, Now C n env σ H → ∀ Q : List V → Hp → Prop, (∀ vs H' ds m, Bt C.pl.toList H H' → Now C m env σ H' → TwA C.K env (C.hd env H') vs ds → F ds m → Q vs H') → ta σ H Q
def EfO (to : TO) (F : Option Int → Int → Prop) : Prop := ∀ σ H, Now C n env σ H → ∀ Q : Option Int → Hp → Prop, (∀ o H' m, Bt C.pl.toList H H' → Now C m env σ H' → F o m → Q o H') → to σ H Q
/-- a list that nobody else holds -/
def EfN (te : TE) (F : List PyData → Int → Prop) : Prop := ∀ σ H, Now C n env σ H → ∀ Q : VK, (∀ p xs H' ds m, Bt C.pl.toList H H' → Now C m env σ H' → H' p = none → RpA C.K (C.hd env H') xs ds → F ds m → Q (.ref p) (upd H' p (.lst xs))) → te σ H Q
/-- what is walked, with draws -/
def ItF (wi : TI) (F : List PyData → Int → Prop) : Prop := ∀ σ H, Now C n env σ H → ∀ R : It → Hp → Prop, (∀ J H' kv kr ds m, Bt C.pl.toList H H' → Now C m env σ H' → kr.r kv (C.hd env H') → ItW C.K J ds kv kr → F ds m → R J H') → wi σ H R
end
section
variable {C : Cn} {n : Int} {env : List Ent} {ta tb te tc : TE} {tas : TA} {d e f : PyData} {ds es : List PyData} {i j : Nat} {G : PyData → Int → Prop} {F : SRel → Int → Prop} {tt : TT} {T : Bool → Int → Prop}
theorem efd_of (h : EfE C n env te fun R m => ∃ d, R = dat C.K d ∧ G d m) : EfD C n env te G := fun σ H S Q q => h σ H S _ fun v H' R m b S' r ⟨d, e, f⟩ => q v H' d m b S' (by subst e; exact .inl r) f
theorem efd_own {l : Addr} (h : env[i]? = some (.ow l d)) (k : G d n) : EfD C n env (tVar i) G := fun σ H S Q q => ⟨_, (S.ent i _ h).1, q _ H d n Bt.refl S (.inr ⟨i, l, h, rfl⟩) k⟩
theorem efd_mono {G' : PyData → Int → Prop} (h : EfD C n env te G) (k : ∀ d m, G d m → G' d m) : EfD C n env te G' := fun σ H S Q q => h σ H S _ fun v H' d m b S' t f => q v H' d m b S' t (k d m f)
theorem eds_nilF {L : List PyData → Int → Prop} (k : L [] n) : EfDs C n env tNil L := fun σ H S Q q => q [] H [] n Bt.refl S .nil k
theorem eds_consF {L : List PyData → Int → Prop} (h : EfD C n env te fun d m => EfDs C m env tas fun ds k => L (d :: ds) k) : EfDs C n env (tCons te tas) L := fun σ H S Q q =>
  h σ H S _ fun v H1 d m b1 S1 t1 f1 => f1 σ H1 S1 _ fun vs H2 ds k b2 S2 t2 f2 => q _ H2 _ k (b1.trans b2) S2 (.cons (t1.ex (S1.hex b2)) t2) f2
theorem ef_opD {r : R2} (h : EfD C n env ta fun d m => EfD C m env tb fun e k => ∃ f, OpD C.K r d e f ∧ F (dat C.K f) k) : EfE C n env (tOp r ta tb) F := fun σ H S Q q =>
  h σ H S _ fun v H1 d m b1 S1 t1 f1 => f1 σ H1 S1 _ fun w H2 e k b2 S2 t2 ⟨f, hr, f2⟩ =>
    hr _ H2 v w (fun p hp => S2.fresh hp) (tw_tr S2 (t1.ex (S1.hex b2))) (tw_tr S2 t2) Q fun z H3 e3 r3 => q z H3 _ k ((b1.trans b2).trans (Bt.of e3)) (S2.ex e3) r3 f2
theorem ef_callD {r : List V → Hp → VK → Prop} (h : EfDs C n env tas fun ds m => ∃ f, CallD C.K r ds f ∧ F (dat C.K f) m) : EfE C n env (tCB r tas) F := fun σ H S Q q =>
  h σ H S _ fun vs H1 ds m b1 S1 t1 ⟨f, hr, f1⟩ => hr _ H1 vs (fun p hp => S1.fresh hp) (twa_tr S1 t1) Q fun z H3 e3 r3 => q z H3 _ m (b1.trans (Bt.of e3)) (S1.ex e3) r3 f1
theorem ef_methS {r : V → List V → Hp → VK → Prop} (h : EfD C n env ta fun d m => ∃ s, d = .str s ∧ EfDs C m env tas fun ds k => ∃ f, MethD C.K "str" r d ds f ∧ F (dat C.K f) k) : EfE C n env (tBM C.K "str" r ta tas) F := fun σ H S Q q =>
  h σ H S _ fun v H1 d m b1 S1 t1 ⟨s, e, f1⟩ => by
    subst e
    refine ⟨tyStr hidEx (tw_tr S1 t1), f1 σ H1 S1 _ fun vs H2 ds k b2 S2 t2 ⟨f, hr, f2⟩ => ?_⟩
    exact hr.2 _ H2 v vs (fun p hp => S2.fresh hp) (tw_tr S2 (t1.ex (S1.hex b2))) (twa_tr S2 t2) Q fun z H3 e3 r3 => q z H3 _ k ((b1.trans b2).trans (Bt.of e3)) (S2.ex e3) r3 f2
theorem efo_none {O : Option Int → Int → Prop} (k : O none n) : EfO C n env tNoPart O := fun σ H S Q q => q none H n Bt.refl S k
theorem efo_some {O : Option Int → Int → Prop} (h : EfD C n env te fun d m => ∃ i, d = .int i ∧ O (some i) m) : EfO C n env (tPart te) O := fun σ H S Q q =>
  h σ H S _ fun v H1 d m b1 S1 t1 ⟨i, e, f1⟩ => by
    subst e
    exact ⟨i, (tw_tr S1 t1).int, q (some i) H1 m b1 S1 f1⟩
theorem ef_slD {r : V → Option Int → Option Int → Hp → VK → Prop} {tl th : TO} (h : EfD C n env te fun d m => EfO C m env tl fun lo k => EfO C k env th fun hi k2 => ∃ f, SlD C.K r d lo hi f ∧ F (dat C.K f) k2) : EfE C n env (tSl r te tl th) F := fun σ H S Q q =>
  h σ H S _ fun v H1 d m b1 S1 t1 f1 => f1 σ H1 S1 _ fun lo H2 k b2 S2 f2 => f2 σ H2 S2 _ fun hi H3 k2 b3 S3 ⟨f, hr, f3⟩ =>
    hr _ H3 v (fun p hp => S3.fresh hp) (tw_tr S3 (t1.ex (S1.hex (b2.trans b3)))) Q fun z H4 e4 r4 => q z H4 _ k2 (((b1.trans b2).trans b3).trans (Bt.of e4)) (S3.ex e4) r4 f3
theorem ef_isi {T : String} (hT : T ∈ ["int", "bool", "str", "tuple"]) (h : EfD C n env te fun d m => F (dat C.K (.bool (isD T d))) m) : EfE C n env (tCB (rIsi C.K) (tCons te (tCons (tC (.ty T)) tNil))) F := fun σ H S Q q =>
  h σ H S _ fun v H1 d m b1 S1 t1 f1 => cd_isi hT _ H1 v (tw_tr S1 t1) Q (q _ H1 _ m b1 S1 (Rp.bl _) f1)
theorem ef_notV (h : EfD C n env te fun d m => ∃ b, d = .bool b ∧ F (dat C.K (.bool (!b))) m) : EfE C n env (tNotV te) F := fun σ H S Q q =>
  h σ H S _ fun v H1 d m b1 S1 t1 ⟨b, e, f1⟩ => by
    subst e
    exact ⟨b, (tw_tr S1 t1).bool, q _ H1 _ m b1 S1 (Rp.bl _) f1⟩
theorem ef_andV (h : EfD C n env ta fun d m => ∃ b, d = .bool b ∧ if b = true then EfE C m env tb F else F (dat C.K (.bool false)) m) : EfE C n env (tAndV ta tb) F := fun σ H S Q q =>
  h σ H S _ fun v H1 d m b1 S1 t1 ⟨b, e, f1⟩ => by
    subst e
    refine ⟨b, (tw_tr S1 t1).bool, ?_⟩
    cases b with
    | true => exact (if_pos rfl).mpr ((show EfE C m env tb F from f1) σ H1 S1 Q fun w H2 R k b2 S2 r2 f2 => q w H2 R k (b1.trans b2) S2 r2 f2)
    | false => exact (if_neg (by decide)).mpr (q _ H1 _ m b1 S1 (Rp.bl _) f1)
theorem ef_orV (h : EfD C n env ta fun d m => ∃ b, d = .bool b ∧ if b = true then F (dat C.K (.bool true)) m else EfE C m env tb F) : EfE C n env (tOrV ta tb) F := fun σ H S Q q =>
  h σ H S _ fun v H1 d m b1 S1 t1 ⟨b, e, f1⟩ => by
    subst e
    refine ⟨b, (tw_tr S1 t1).bool, ?_⟩
    cases b with
    | true => exact (if_pos rfl).mpr (q _ H1 _ m b1 S1 (Rp.bl _) f1)
    | false => exact (if_neg (by decide)).mpr ((show EfE C m env tb F from f1) σ H1 S1 Q fun w H2 R k b2 S2 r2 f2 => q w H2 R k (b1.trans b2) S2 r2 f2)
theorem ef_ifT (h : EfT C n env tt fun b m => if b = true then EfE C m env ta F else EfE C m env tb F) : EfE C n env (tIf tt ta tb) F := fun σ H S Q q =>
  h σ H S _ fun b H1 m b1 S1 f1 => by
    cases b with
    | true => exact (if_pos rfl).mpr ((show EfE C m env ta F from f1) σ H1 S1 Q fun w H2 R k b2 S2 r2 f2 => q w H2 R k (b1.trans b2) S2 r2 f2)
    | false => exact (if_neg (by decide)).mpr ((show EfE C m env tb F from f1) σ H1 S1 Q fun w H2 R k b2 S2 r2 f2 => q w H2 R k (b1.trans b2) S2 r2 f2)
theorem eft_D (h : EfD C n env te fun d m => ∃ b, d = .bool b ∧ T b m) : EfT C n env (tTest te) T := fun σ H S Q q =>
  h σ H S _ fun v H1 d m b1 S1 t1 ⟨b, e, f1⟩ => by
    subst e
    exact ⟨b, (tw_tr S1 t1).bool, q b H1 m b1 S1 f1⟩
theorem eft_BD (h : EfD C n env te fun d m => ∃ b, d = .bool b ∧ T b m) : EfT C n env (tB te) T := fun σ H S Q q =>
  h σ H S _ fun v H1 d m b1 S1 t1 ⟨b, e, f1⟩ => by
    subst e
    exact ⟨b, (tw_tr S1 t1).bool, q b H1 m b1 S1 f1⟩
theorem eft_and {t u : TT} (h : EfT C n env t fun b m => if b = true then EfT C m env u T else T false m) : EfT C n env (tAnd t u) T := fun σ H S Q q =>
  h σ H S _ fun b H1 m b1 S1 f1 => by
    cases b with
    | true => exact (if_pos rfl).mpr ((show EfT C m env u T from f1) σ H1 S1 Q fun c H2 k b2 S2 f2 => q c H2 k (b1.trans b2) S2 f2)
    | false => exact (if_neg (by decide)).mpr (q false H1 m b1 S1 f1)
theorem eft_or {t u : TT} (h : EfT C n env t fun b m => if b = true then T true m else EfT C m env u T) : EfT C n env (tOr t u) T := fun σ H S Q q =>
  h σ H S _ fun b H1 m b1 S1 f1 => by
    cases b with
    | true => exact (if_pos rfl).mpr (q true H1 m b1 S1 f1)
    | false => exact (if_neg (by decide)).mpr ((show EfT C m env u T from f1) σ H1 S1 Q fun c H2 k b2 S2 f2 => q c H2 k (b1.trans b2) S2 f2)
theorem ef_drawD {E : XK} {p : Addr} (hpl : C.pl = some p) (hp : env[i]? = some (.it (val (.ref p)))) (h : EfD C n env te fun d k => ∃ m, d = .int m ∧ 1 ≤ m ∧ m < 1073741824 ∧ k ≤ 1000000 ∧ ∀ r, 0 ≤ r → r < m → F (dat C.K (.int r)) (k + 1)) :
    EfE C n env (tCall spDraw [] E (tCons (tVar i) (tCons te tNil))) F := fun σ H S Q q => by
  obtain ⟨v, e, hv⟩ := S.ent i _ hp
  have hv' : v = .ref p := hv
  subst hv'
  refine ⟨_, e, h σ H S _ fun w H1 d k b1 S1 t1 ⟨m, ed, h1, h2, hn, f1⟩ => ?_⟩
  subst ed
  rw [(tw_tr S1 t1).int]
  refine ⟨p, k, m, rfl, S1.pool p hpl, hn, h1, h2, fun H' r po b r0 r1 => ?_⟩
  have b' : Bt C.pl.toList H1 H' := At.bt1 (σ := σ) hpl (Bt.but b)
  exact q (.int r) H' (dat C.K (.int r)) (k + 1) (b1.trans b') (S1.drawn b' (At.poolO hpl po)) (Rp.int r) (f1 r r0 r1)
theorem ef_pickD {E : XK} {p : Addr} (hpl : C.pl = some p) (hp : env[i]? = some (.it (val (.ref p)))) (h : EfD C n env te fun d k => ∃ ds, d = .list ds ∧ ds ≠ [] ∧ ds.length ≤ 100000 ∧ k ≤ 1000000 ∧ ∀ c, c ∈ ds → F (dat C.K c) (k + 1)) :
    EfE C n env (tCall spPick [] E (tCons (tVar i) (tCons te tNil))) F := fun σ H S Q q => by
  obtain ⟨v, e, hv⟩ := S.ent i _ hp
  have hv' : v = .ref p := hv
  subst hv'
  refine ⟨_, e, h σ H S _ fun w H1 d k b1 S1 t1 ⟨ds, ed, h1, h2, hn, f1⟩ => ?_⟩
  subst ed
  have key : ∀ (a : Addr) (xs : List V), w = .ref a → H1 a = some (.lst xs) → a ≠ p → RpA C.K (C.hd env H1) xs ds → spPick ([.ref p, w] ++ []) H1 Q E := fun a xs ew ha na hq => by
    subst ew
    have hl := hq.len
    have hne : 1 ≤ xs.length := by
      rw [hl]
      cases ds with
      | nil => exact absurd rfl h1
      | cons d r => simp
    refine ⟨p, a, k, xs, rfl, S1.pool p hpl, hn, na, ha, hne, by omega, fun H' v po b hv => ?_⟩
    have b' : Bt C.pl.toList H1 H' := At.bt1 (σ := σ) hpl (Bt.but b)
    obtain ⟨j, hj⟩ := List.mem_iff_getElem?.mp hv
    obtain ⟨d, hd, rd⟩ := RpA.get' hq hj
    exact q v H' (dat C.K d) (k + 1) (b1.trans b') (S1.drawn b' (At.poolO hpl po)) (rd.ex (S1.hex b')) (f1 d (List.mem_of_getElem? hd))
  rcases t1 with r | ⟨j, l, ej, rfl⟩
  · cases r with
    | @lst a xs _ ha hq =>
      obtain ⟨na, ha'⟩ := hid_some ha
      exact key a xs rfl ha' (fun z => na (List.mem_append_left _ (by rw [z]; exact S1.hG p hpl))) hq
  · obtain ⟨_, xs, ha', hq⟩ := S1.ent j _ ej
    exact key l xs rfl ha' (fun z => S1.dj l (own_mem ej) (by rw [z]; exact S1.hG p hpl)) hq
/-! new lists -/
theorem efn_lst {L : List PyData → Int → Prop} (h : EfA C n env tas fun Rs m => ∃ ds, Rs = ds.map (dat C.K) ∧ ds.length ≤ 100000 ∧ L ds m) : EfN C n env (tLst tas) L := fun σ H S Q q =>
  h σ H S _ fun vs H1 Rs m b1 S1 r1 ⟨ds, e, hl, f⟩ => by
    subst e
    have r := SAll.rpa r1
    exact ⟨sz_of (by rw [r.len]; exact hl), fun p hp => q p vs H1 ds m b1 S1 hp r f⟩
theorem efn_cat {L : List PyData → Int → Prop} (h : EfD C n env ta fun d m => EfD C m env tb fun e k => ∃ xs ys, d = .list xs ∧ e = .list ys ∧ xs.length + ys.length ≤ 100000 ∧ L (xs ++ ys) k) : EfN C n env (tOp rCat ta tb) L := fun σ H S Q q =>
  h σ H S _ fun v H1 d m b1 S1 t1 f1 => f1 σ H1 S1 _ fun w H2 e k b2 S2 t2 ⟨xs, ys, e1, e2, hl, f⟩ => by
    subst e1 e2
    obtain ⟨a, us, rfl, hs, hq⟩ := (tw_tr S2 (t1.ex (S1.hex b2))).list hidEx
    obtain ⟨b, ws, rfl, hs', hq'⟩ := (tw_tr S2 t2).list hidEx
    exact ⟨a, b, us, ws, rfl, rfl, hs, hs', sz_of (by rw [hq.len, hq'.len]; exact hl), fun p hp => q p _ H2 _ k (b1.trans b2) S2 hp (hq.append hq') f⟩
theorem ef_ofN {L : List PyData → Int → Prop} (h : EfN C n env te L) (k : ∀ ds m, L ds m → F (dat C.K (.list ds)) m) : EfE C n env te F := fun σ H S Q q =>
  h σ H S _ fun p xs H1 ds m b1 S1 hp r f => q _ _ _ m (b1.trans (Bt.of (Ex.new hp))) (S1.ex (Ex.new hp)) (Rp.lst (hidNew (S1.fresh hp)) (r.ex (hid_ex (Ex.new hp)))) (k ds m f)
theorem ts_ownN {L : List PyData → Int → Prop} {Nx : Int → List Ent → Prop} {Rt : SRel → Int → Prop} (hi : i < env.length) (h : EfN C n env te L) (k : ∀ ds m l, L ds m → Nx m (env.set i (.ow l (.list ds)))) : TSd C n env (tAsg te (gName i)) Nx Rt := fun D σ H S q _ =>
  h σ H S _ fun p xs H1 ds m b1 S1 hp r f => q _ _ m _ (S1.setOwn (d := .list ds) hi hp (S1.fresh0 hp) fun H' h' a b => ⟨xs, a, r.ex b⟩) (k ds m p f)
/-! what is walked -/
theorem itf_of {wi : TI} {L : List PyData → Int → Prop} (h : ItD C n env wi ds) (k : L ds n) : ItF C n env wi L := fun σ H S R q => h σ H S R fun J H1 kv kr e1 k1 W => q J H1 kv kr ds n (Bt.of e1) (S.ex e1) k1 W k
/-- the same, when the walk stands -/
theorem itf_run {wi : TI} {L : List PyData → Int → Prop} {σ : L2.St} {H : Hp} {R : It → Hp → Prop} (h : ItF C n env wi L) (S : Now C n env σ H)
    (k : ∀ J H' kv kr ds m, Bt C.pl.toList H H' → Now (C.kept (kv, kr)) m env σ H' → ItD (C.kept (kv, kr)) m env (fun _ H R => R J H) ds → L ds m → R J H') : wi σ H R :=
  h σ H S R fun J H1 kv kr ds m b1 S1 k1 W f => k J H1 kv kr ds m b1 (S1.keep k1) (fun σ2 H2 S2 R2 q2 => q2 J H2 kv kr (Ex.refl _) (S2.kept _ List.mem_cons_self) W) f
end
end L2.DL

set_option Elab.async false
set_option maxRecDepth 100000
set_option maxHeartbeats 4000000
set_option linter.all false
/-! Expressions as data, and what they ask of plain data. -/
namespace L2.EV
open PySem PySem.Spec PyProof.Rows XC XK Evl TL DL
/-- a value: data | anything that stands -/
inductive Vd where
  | d (x : PyData)
  | o (R : SRel)
def Vd.R (K : PySem.W.Frag) : Vd → SRel
  | .d x => dat K x
  | .o R => R
inductive Sl where
  | un
  | va (v : Vd)
  | ow (d : PyData)
  | pl
abbrev En := List Sl
def SlR (C : Cn) : Sl → Ent → Prop
  | .un, e => e = .un ∨ ∃ R, e = .it R
  | .va v, e => e = .it (v.R C.K)
  | .ow d, e => ∃ l, e = .ow l d
  | .pl, e => ∃ p, C.pl = some p ∧ e = .it (val (.ref p))
def EnR (C : Cn) (ρ : En) (env : List Ent) : Prop := ρ.length = env.length ∧ ∀ (i : Nat) s, ρ[i]? = some s → ∃ e, env[i]? = some e ∧ SlR C s e
theorem EnR.set {C : Cn} {ρ : En} {env : List Ent} {s : Sl} {e : Ent} (h : EnR C ρ env) (i : Nat) (r : SlR C s e) : EnR C (ρ.set i s) (env.set i e) := by
  refine ⟨by rw [List.length_set, List.length_set]; exact h.1, fun j t ht => ?_⟩
  rw [List.getElem?_set] at ht
  by_cases hij : i = j
  · rw [if_pos hij] at ht
    by_cases hl : i < ρ.length
    · rw [if_pos hl] at ht
      cases ht
      refine ⟨e, ?_, r⟩
      rw [List.getElem?_set, if_pos hij, if_pos (by rw [← h.1]; exact hl)]
    · rw [if_neg hl] at ht
      cases ht
  · rw [if_neg hij] at ht
    obtain ⟨e', h1, h2⟩ := h.2 j t ht
    exact ⟨e', by rw [List.getElem?_set, if_neg hij]; exact h1, h2⟩
theorem EnR.kept {C : Cn} {ρ : En} {env : List Ent} (h : EnR C ρ env) (p : V × SRel) : EnR (C.kept p) ρ env := h
/-- operators -/
inductive Op where
  | addI | subI | mulI | modI | ltI | leI | gtI | geI | eqF | neF | eqD | neD | isN | noN | inn | nin | addS | cat | catT | ixL | ixT | ixS
abbrev rAddS : R2 := fun x y H Q => ∃ i j, x = .str i ∧ y = .str j ∧ i.length + j.length ≤ sizeLine ∧ Q (.str (i ++ j)) H
def opR (K : PySem.W.Frag) : Op → R2
  | .addI => rI0 fun i j => .int (i + j)
  | .subI => rI0 fun i j => .int (i - j)
  | .mulI => rI CMul fun i j => .int (i * j)
  | .modI => rI (fun _ j => 0 < j) fun i j => .int (i % j)
  | .ltI => rI0 fun i j => .bl (decide (i < j))
  | .leI => rI0 fun i j => .bl (decide (i ≤ j))
  | .gtI => rI0 fun i j => .bl (decide (j < i))
  | .geI => rI0 fun i j => .bl (decide (j ≤ i))
  | .eqF => rEq
  | .neF => rNe
  | .eqD => rEqD K
  | .neD => rNeD K
  | .isN => fun x y H Q => y = .non ∧ Q (.bl (decide (x = .non))) H
  | .noN => fun x y H Q => y = .non ∧ Q (.bl (!decide (x = .non))) H
  | .inn => rIn K false
  | .nin => rIn K true
  | .addS => rAddS
  | .cat => rCat
  | .catT => rCatT K
  | .ixL => rIxL K
  | .ixT => rIxT K
  | .ixS => rIxS
def txts : List PyData → Option (List Str)
  | [] => some []
  | .str s :: r => (txts r).map (s :: ·)
  | _ => none
theorem txts_eq : ∀ {l : List PyData} {z : List Str}, txts l = some z → l = z.map .str
  | [], z, h => by cases h; rfl
  | .str s :: r, z, h => by
    unfold txts at h
    cases q : txts r with
    | none => rw [q] at h; cases h
    | some y =>
      rw [q] at h
      cases h
      rw [txts_eq q]
      rfl
  | .none :: _, _, h => by cases h
  | .bool _ :: _, _, h => by cases h
  | .int _ :: _, _, h => by cases h
  | .list _ :: _, _, h => by cases h
  | .tuple _ :: _, _, h => by cases h
  | .dict _ :: _, _, h => by cases h
@[simp] theorem txts_map : ∀ l : List Str, txts (l.map .str) = some l
  | [] => rfl
  | s :: r => by
    show (txts (r.map .str)).map (s :: ·) = _
    rw [txts_map r]
    rfl
def isNone : PyData → Bool
  | .none => true
  | _ => false
/-- what an operator asks, and gives -/
def wOp : Op → PyData → PyData → (PyData → Prop) → Prop
  | .addI, .int i, .int j, F => F (.int (i + j))
  | .subI, .int i, .int j, F => F (.int (i - j))
  | .mulI, .int i, .int j, F => CMul i j ∧ F (.int (i * j))
  | .modI, .int i, .int j, F => 0 < j ∧ F (.int (i % j))
  | .ltI, .int i, .int j, F => F (.bool (decide (i < j)))
  | .leI, .int i, .int j, F => F (.bool (decide (i ≤ j)))
  | .gtI, .int i, .int j, F => F (.bool (decide (j < i)))
  | .geI, .int i, .int j, F => F (.bool (decide (j ≤ i)))
  | .eqF, .int i, .int j, F => F (.bool (decide (i = j)))
  | .eqF, .str i, .str j, F => F (.bool (decide (i = j)))
  | .neF, .int i, .int j, F => F (.bool (!decide (i = j)))
  | .neF, .str i, .str j, F => F (.bool (!decide (i = j)))
  | .eqD, d, e, F => SeqAt.shaped d = true ∧ SeqAt.shaped e = true ∧ F (.bool (PyData.eqv d e))
  | .neD, d, e, F => SeqAt.shaped d = true ∧ SeqAt.shaped e = true ∧ F (.bool (!PyData.eqv d e))
  | .isN, d, .none, F => F (.bool (isNone d))
  | .noN, d, .none, F => F (.bool (!isNone d))
  | .inn, .str s, .list l, F => ∃ z, txts l = some z ∧ F (.bool (decide (s ∈ z)))
  | .inn, .str s, .tuple l, F => ∃ z, txts l = some z ∧ F (.bool (decide (s ∈ z)))
  | .nin, .str s, .list l, F => ∃ z, txts l = some z ∧ F (.bool (!decide (s ∈ z)))
  | .nin, .str s, .tuple l, F => ∃ z, txts l = some z ∧ F (.bool (!decide (s ∈ z)))
  | .addS, .str s, .str t, F => s.length + t.length ≤ 100000 ∧ F (.str (s ++ t))
  | .cat, .list a, .list b, F => a.length + b.length ≤ 100000 ∧ F (.list (a ++ b))
  | .catT, .tuple a, .tuple b, F => a ≠ [] ∧ a.length + b.length ≤ 100000 ∧ F (.tuple (a ++ b))
  | .ixL, .list a, .int k, F => ∃ d, atI a k = some d ∧ F d
  | .ixT, .tuple a, .int k, F => ∃ d, atI a k = some d ∧ F d
  | .ixS, .str z, .int k, F => ∃ c, atI z.cps.toList k = some c ∧ F (.str ⟨#[c]⟩)
  | _, _, _, _ => False
theorem wOp_snd {K : PySem.W.Frag} {o : Op} {d e : PyData} {F : PyData → Prop} (h : wOp o d e F) : ∃ f, OpD K (opR K o) d e f ∧ F f := by
  unfold wOp at h
  split at h
  · exact ⟨_, od_add, h⟩
  · exact ⟨_, od_sub, h⟩
  · exact ⟨_, od_mul h.1, h.2⟩
  · exact ⟨_, od_mod h.1, h.2⟩
  · exact ⟨_, od_lt, h⟩
  · exact ⟨_, od_le, h⟩
  · exact ⟨_, od_gt, h⟩
  · exact ⟨_, od_ge, h⟩
  · exact ⟨_, od_eqI, h⟩
  · exact ⟨_, od_eqS, h⟩
  · exact ⟨_, od_neI, h⟩
  · exact ⟨_, od_neS, h⟩
  · exact ⟨_, od_eqD h.1 h.2.1, h.2.2⟩
  · exact ⟨_, od_neD h.1 h.2.1, h.2.2⟩
  · refine ⟨_, od_isN, ?_⟩
    cases d <;> exact h
  · refine ⟨_, od_notN, ?_⟩
    cases d <;> exact h
  · obtain ⟨z, hz, f⟩ := h
    rw [txts_eq hz]
    exact ⟨_, od_inL, f⟩
  · obtain ⟨z, hz, f⟩ := h
    rw [txts_eq hz]
    exact ⟨_, od_inT, f⟩
  · obtain ⟨z, hz, f⟩ := h
    rw [txts_eq hz]
    exact ⟨_, od_notinL, f⟩
  · obtain ⟨z, hz, f⟩ := h
    rw [txts_eq hz]
    exact ⟨_, od_notinT, f⟩
  · exact ⟨_, od_addS h.1, h.2⟩
  · exact ⟨_, od_cat h.1, h.2⟩
  · exact ⟨_, od_catT h.1 h.2.1, h.2.2⟩
  · obtain ⟨z, hz, f⟩ := h
    exact ⟨_, od_ixL hz, f⟩
  · obtain ⟨z, hz, f⟩ := h
    exact ⟨_, od_ixT hz, f⟩
  · obtain ⟨z, hz, f⟩ := h
    exact ⟨_, od_ixS hz, f⟩
  · exact h.elim
end L2.EV

set_option Elab.async false
set_option maxRecDepth 100000
set_option maxHeartbeats 4000000
set_option linter.all false
/-! Built-ins, methods, slices upon data; what is walked; targets. -/
namespace L2.EV
open PySem PySem.Spec PyProof.Rows XC XK Evl TL DL
inductive Blt where
  | len | int | max2 | min2 | tup | lst | strI
abbrev rTup (K : PySem.W.Frag) : List V → Hp → VK → Prop := fun xs H Q => ∃ p ys, xs = [.ref p] ∧ ((SqL K H p ys ∧ ∀ l, H l = none → Q (.ref l) (upd H l (.tup ys))) ∨ (SqT K H p ys ∧ Q (.ref p) H))
abbrev rLst (K : PySem.W.Frag) : List V → Hp → VK → Prop := fun xs H Q => ∃ p ys, xs = [.ref p] ∧ (SqL K H p ys ∨ SqT K H p ys) ∧ ∀ l, H l = none → Q (.ref l) (upd H l (.lst ys))
def bltR (K : PySem.W.Frag) : Blt → List V → Hp → VK → Prop
  | .len => rLenA K
  | .int => fun xs H Q => (∃ i, xs = [.int i] ∧ Q (.int i) H) ∨ ∃ k, xs = [.bl k] ∧ Q (.int (if k then 1 else 0)) H
  | .max2 => fun xs H Q => ∃ i j, xs = [.int i, .int j] ∧ Q (.int (if j > i then j else i)) H
  | .min2 => fun xs H Q => ∃ i j, xs = [.int i, .int j] ∧ Q (.int (if j < i then j else i)) H
  | .tup => rTup K
  | .lst => rLst K
  | .strI => fun xs H Q => ∃ i, xs = [.int i] ∧ i.natAbs.log2 < 1920 ∧ Q (.str (toString i)) H
def wBlt : Blt → List PyData → (PyData → Prop) → Prop
  | .len, [.str s], F => F (.int s.length)
  | .len, [.list l], F => F (.int l.length)
  | .len, [.tuple l], F => F (.int l.length)
  | .int, [.int i], F => F (.int i)
  | .max2, [.int i, .int j], F => F (.int (if j > i then j else i))
  | .min2, [.int i, .int j], F => F (.int (if j < i then j else i))
  | .tup, [.list l], F => l.length ≤ 100000 ∧ F (.tuple l)
  | .tup, [.tuple l], F => F (.tuple l)
  | .lst, [.list l], F => F (.list l)
  | .lst, [.tuple l], F => F (.list l)
  | .strI, [.int i], F => (i.natAbs.log2 < 1920 ∧ ((toString i : String) : Str).length ≤ 100000) ∧ F (.str (toString i))
  | _, _, _ => False
theorem wBlt_snd {K : PySem.W.Frag} {b : Blt} {ds : List PyData} {F : PyData → Prop} (h : wBlt b ds F) : ∃ f, CallD K (bltR K b) ds f ∧ F f := by
  unfold wBlt at h
  split at h
  · exact ⟨_, cd_lenS, h⟩
  · exact ⟨_, cd_lenL, h⟩
  · exact ⟨_, cd_lenT, h⟩
  · exact ⟨_, cd_int, h⟩
  · exact ⟨_, cd_max2, h⟩
  · exact ⟨_, cd_min2, h⟩
  · exact ⟨_, cd_tupL h.1, h.2⟩
  · exact ⟨_, cd_tupT, h⟩
  · exact ⟨_, cd_listL, h⟩
  · exact ⟨_, cd_listT, h⟩
  · exact ⟨_, cd_strI h.1.1 h.1.2, h.2⟩
  · exact h.elim
/-- methods of texts -/
inductive Mth where
  | starts | join | split
abbrev rStarts : V → List V → Hp → VK → Prop := fun x xs H Q => ∃ a b, x = .str a ∧ xs = [.str b] ∧ Q (.bl (Txt.startswith a b)) H
abbrev rJoin (K : PySem.W.Frag) : V → List V → Hp → VK → Prop := fun x xs H Q => ∃ a p, ∃ ys : List Str, x = .str a ∧ xs = [.ref p] ∧ (SqL K H p (ys.map V.str) ∨ SqT K H p (ys.map V.str)) ∧
    (ys.map (·.length)).sum + ys.length * a.length ≤ 16777216 ∧ Q (.str (Txt.join a ys)) H
abbrev rSplit : V → List V → Hp → VK → Prop := fun x xs H Q => ∃ a b, x = .str a ∧ xs = [.str b] ∧ (b.length == 0) = false ∧ a.length + 2 ≤ sizeLine ∧ rNewStrs (Txt.split a b) H Q
def mthR (K : PySem.W.Frag) : Mth → V → List V → Hp → VK → Prop
  | .starts => rStarts
  | .join => rJoin K
  | .split => rSplit
theorem rpa_strs {K : PySem.W.Frag} {H : Hp} : ∀ {l : List Str}, (∀ x ∈ l, x.length ≤ 100000) → RpA K H (l.map V.str) (l.map PyData.str)
  | [], _ => .nil
  | x :: l, h => .cons (.str x (h x List.mem_cons_self)) (rpa_strs fun y hy => h y (List.mem_cons_of_mem _ hy))
theorem md_split {K : PySem.W.Frag} {s t : Str} (hs : Sep t) (hl : s.length ≤ 99000) : MethD K "str" rSplit (.str s) [.str t] (.list ((Txt.split s t).map .str)) :=
  ⟨fun _ _ _ e t => tyStr e t, fun G H x xs fr tx ts Q q => by
    obtain ⟨v, rfl, tv⟩ := ts.one
    rw [tx.str.1, tv.str.1]
    exact ⟨s, t, rfl, rfl, hs.len, sz_of (by omega), fun p hp => q _ _ (Ex.new hp) (.lst (hidNew' fr hp) (rpa_strs fun y hy => Nat.le_trans (split_len hs hy) (by omega)))⟩⟩
def wMth : Mth → Str → List PyData → (PyData → Prop) → Prop
  | .starts, s, [.str t], F => F (.bool (Txt.startswith s t))
  | .join, s, [.list l], F => ∃ z, txts l = some z ∧ (z.map (·.length)).sum + z.length * s.length ≤ 100000 ∧ F (.str (Txt.join s z))
  | .split, s, [.str t], F => Sep t ∧ s.length ≤ 99000 ∧ F (.list ((Txt.split s t).map .str))
  | _, _, _, _ => False
theorem wMth_snd {K : PySem.W.Frag} {m : Mth} {s : Str} {ds : List PyData} {F : PyData → Prop} (h : wMth m s ds F) : ∃ f, MethD K "str" (mthR K m) (.str s) ds f ∧ F f := by
  unfold wMth at h
  split at h
  · exact ⟨_, md_starts, h⟩
  · obtain ⟨z, hz, hl, f⟩ := h
    rw [txts_eq hz]
    exact ⟨_, md_join hl, f⟩
  · exact ⟨_, md_split h.1 h.2.1, h.2.2⟩
  · exact h.elim
/-- slices -/
inductive Slk where
  | str | lst | tup
theorem sd_T {K : PySem.W.Frag} {ds : List PyData} {lo hi : Option Int} (hw : ¬ (HT.sIx ds.length 0 lo = 0 ∧ HT.sIx ds.length ds.length hi = ds.length)) : SlD K (rSlT K) (.tuple ds) lo hi (.tuple (cutD ds lo hi)) := fun G H x fr tx Q q => by
  obtain ⟨a, xs, rfl, hs, hh, hq⟩ := tx.tuple hidEx
  exact ⟨a, xs, rfl, hs, by rw [hq.len]; exact hw, fun p hp => q _ _ (Ex.new hp) (.tup (hidNew' fr hp) ((rpa_cut hq).ex (hid_ex (Ex.new hp))))⟩
def slR (K : PySem.W.Frag) : Slk → V → Option Int → Option Int → Hp → VK → Prop
  | .str => rSlS
  | .lst => rSlL K
  | .tup => rSlT K
def wSl : Slk → PyData → Option Int → Option Int → (PyData → Prop) → Prop
  | .str, .str z, lo, hi, F => F (.str (cutS z lo hi))
  | .lst, .list l, lo, hi, F => F (.list (cutD l lo hi))
  | .tup, .tuple l, lo, hi, F => ¬ (HT.sIx l.length 0 lo = 0 ∧ HT.sIx l.length l.length hi = l.length) ∧ F (.tuple (cutD l lo hi))
  | _, _, _, _, _ => False
theorem wSl_snd {K : PySem.W.Frag} {k : Slk} {d : PyData} {lo hi : Option Int} {F : PyData → Prop} (h : wSl k d lo hi F) : ∃ f, SlD K (slR K k) d lo hi f ∧ F f := by
  unfold wSl at h
  split at h
  · exact ⟨_, sd_S, h⟩
  · exact ⟨_, sd_L, h⟩
  · exact ⟨_, sd_T h.1, h.2⟩
  · exact h.elim
/-! targets -/
inductive Tgt where
  | name (j : Nat)
  | tup (js : List Nat)
def gs : List Nat → TGs
  | [] => gNil
  | j :: r => gCons (gName j) (gs r)
def Tgt.g (K : PySem.W.Frag) : Tgt → TG
  | .name j => gName j
  | .tup js => gTup K js.length (gs js)
def Tgt.vs : Tgt → List Nat
  | .name j => [j]
  | .tup js => js
def setR (ρ : En) : List Nat → List PyData → En
  | j :: js, d :: ds => setR (ρ.set j (.va (.d d))) js ds
  | _, _ => ρ
def setE (K : PySem.W.Frag) (env : List Ent) : List Nat → List PyData → List Ent
  | j :: js, d :: ds => setE K (env.set j (.it (dat K d))) js ds
  | _, _ => env
def wTgt : Tgt → PyData → En → (En → Prop) → Prop
  | .name j, d, ρ, k => j < ρ.length ∧ k (ρ.set j (.va (.d d)))
  | .tup js, .tuple ds, ρ, k => js.length = ds.length ∧ (∀ j ∈ js, j < ρ.length) ∧ k (setR ρ js ds)
  | _, _, _, _ => False
theorem wipe_setN {σ : L2.St} {j : Nat} {x : Option V} : ∀ js : List Nat, (wipe (σ.set j x) js).set j none = (wipe σ js).set j none
  | [] => by
    show (σ.set j x).set j none = σ.set j none
    rw [List.set_set]
  | k :: ks => by
    have ih := wipe_setN (σ := σ) (j := j) (x := x) ks
    show ((wipe (σ.set j x) ks).set k none).set j none = ((wipe σ ks).set k none).set j none
    by_cases h : k = j
    · rw [h, List.set_set, List.set_set]
      exact ih
    · rw [List.set_comm _ _ h, List.set_comm _ _ h, ih]
theorem tgs_all {C : Cn} {n : Int} {H : Hp} : ∀ (js : List Nat) (ds : List PyData) (xs : List V) (σ : L2.St) (env : List Ent), Now C n env σ H → RpA C.K (C.hd env H) xs ds → js.length = ds.length → (∀ j ∈ js, j < env.length) →
    ∀ Q : L2.St → Hp → Prop, (∀ σ', Now C n (setE C.K env js ds) σ' H → wipe σ' js = wipe σ js → Q σ' H) → gs js xs σ H Q
  | [], [], xs, σ, env, S, r, _, _, Q, q => by
    cases r
    exact ⟨rfl, q σ S rfl⟩
  | [], _ :: _, _, _, _, _, _, h, _, _, _ => by simp at h
  | _ :: _, [], _, _, _, _, _, h, _, _, _ => by simp at h
  | j :: js, d :: ds, _, σ, env, S, .cons (v := v) (vs := xs) r1 r2, h, hl, Q, q => by
    refine ⟨v, xs, rfl, ?_⟩
    have S' := S.set (hl j List.mem_cons_self) (R := dat C.K d) r1
    refine tgs_all js ds xs _ _ S' (r2.ex (hid_sub fun a h => ?_)) (by simpa using h) (fun k hk => by rw [List.length_set]; exact hl k (List.mem_cons_of_mem _ hk)) Q fun σ' S2 w => q σ' S2 ?_
    · rcases List.mem_append.mp h with h | h
      · exact List.mem_append_left _ h
      · rcases own_set_sub h with h | ⟨d, h⟩
        · exact List.mem_append_right _ h
        · cases h
    · show (wipe σ' js).set j none = (wipe σ js).set j none
      rw [w]
      exact wipe_setN js
theorem tg_tup {C : Cn} {n : Int} {env : List Ent} {js : List Nat} {ds : List PyData} (h : js.length = ds.length) (hl : ∀ j ∈ js, j < env.length) : TgD C n env (gTup C.K js.length (gs js)) js (.tuple ds) (setE C.K env js ds) := fun σ H x S r Q q => by
  cases r with
  | @tup a xs _ ha hq => exact ⟨a, xs, rfl, ex_t hidEx (st_of ha), by rw [hq.len, h], tgs_all js ds xs σ env S hq h hl Q q⟩
def noOw (ρ : En) (i : Nat) : Bool := match ρ[i]? with
  | some (.ow _) => false
  | _ => true
theorem noOw_env {C : Cn} {ρ : En} {env : List Ent} (R : EnR C ρ env) {i : Nat} (h : noOw ρ i = true) (l : Addr) (d : PyData) : env[i]? ≠ some (.ow l d) := fun e => by
  unfold noOw at h
  cases q : ρ[i]? with
  | none =>
    have : i < env.length := (List.getElem?_eq_some_iff.mp e).1
    rw [← R.1] at this
    rw [List.getElem?_eq_getElem this] at q
    cases q
  | some s =>
    rw [q] at h
    obtain ⟨e', h1, h2⟩ := R.2 i s q
    rw [e] at h1
    cases h1
    cases s with
    | un => rcases h2 with h2 | ⟨_, h2⟩ <;> cases h2
    | va v => cases h2
    | ow d => cases h
    | pl =>
      obtain ⟨_, _, h2⟩ := h2
      cases h2
theorem own_setEq : ∀ {env : List Ent} {i : Nat} {e : Ent}, (∀ l d, env[i]? ≠ some (.ow l d)) → (∀ l d, e ≠ .ow l d) → own (env.set i e) = own env
  | [], i, e, _, _ => rfl
  | x :: r, 0, e, h1, h2 => by
    have hx : ∀ l d, x ≠ .ow l d := fun l d z => h1 l d (by rw [z]; rfl)
    show own (e :: r) = own (x :: r)
    cases e with
    | ow l d => exact absurd rfl (h2 l d)
    | un => cases x with
      | ow l d => exact absurd rfl (hx l d)
      | un => rfl
      | it _ => rfl
    | it _ => cases x with
      | ow l d => exact absurd rfl (hx l d)
      | un => rfl
      | it _ => rfl
  | x :: r, i + 1, e, h1, h2 => by
    have ih := own_setEq (env := r) (i := i) (e := e) (fun l d => by simpa using h1 l d) h2
    show own (x :: r.set i e) = own (x :: r)
    cases x with
    | un => exact ih
    | it _ => exact ih
    | ow l d => exact congrArg (l :: ·) ih
def wipeR (ρ : En) : List Nat → En
  | [] => ρ
  | v :: vs => (wipeR ρ vs).set v .un
theorem EnR.wipe {C : Cn} {ρ : En} {env : List Ent} (h : EnR C ρ env) : ∀ vs : List Nat, EnR C (wipeR ρ vs) (wipeE env vs)
  | [] => h
  | v :: vs => (EnR.wipe h vs).set v (.inl rfl)
theorem wipeE_len {env : List Ent} : ∀ vs : List Nat, (wipeE env vs).length = env.length
  | [] => rfl
  | v :: vs => by
    show ((wipeE env vs).set v .un).length = _
    rw [List.length_set]
    exact wipeE_len vs
theorem own_wipeEq {C : Cn} {ρ : En} {env : List Ent} (R : EnR C ρ env) : ∀ vs : List Nat, (vs.all (noOw ρ) = true) → own (wipeE env vs) = own env ∧ ∀ (i : Nat) (l : Addr) (d : PyData), (wipeE env vs)[i]? = some (.ow l d) → env[i]? = some (.ow l d)
  | [], _ => ⟨rfl, fun _ _ _ h => h⟩
  | v :: vs, h => by
    rw [List.all_cons, Bool.and_eq_true] at h
    obtain ⟨ih, k⟩ := own_wipeEq R vs h.2
    refine ⟨(own_setEq (fun l d z => noOw_env R h.1 l d (k v l d z)) (fun l d z => by cases z)).trans ih, fun i l d z => ?_⟩
    have z' : ((wipeE env vs).set v .un)[i]? = some (.ow l d) := z
    rw [List.getElem?_set] at z'
    by_cases hv : v = i
    · rw [if_pos hv] at z'
      split at z' <;> cases z'
    · rw [if_neg hv] at z'
      exact k i l d z'
theorem slD {C : Cn} {d : PyData} : SlR C (.va (.d d)) (.it (dat C.K d)) := rfl
theorem setR_R {C : Cn} : ∀ (js : List Nat) (ds : List PyData) {ρ : En} {env : List Ent}, EnR C ρ env → EnR C (setR ρ js ds) (setE C.K env js ds)
  | [], [], _, _, R => R
  | [], _ :: _, _, _, R => R
  | _ :: _, [], _, _, R => R
  | j :: js, d :: ds, _, _, R => setR_R js ds (R.set j slD)
theorem own_setAll {K : PySem.W.Frag} : ∀ (js : List Nat) (ds : List PyData) {env : List Ent}, (∀ j ∈ js, ∀ l d, env[j]? ≠ some (.ow l d)) → own (setE K env js ds) = own env
  | [], [], _, _ => rfl
  | [], _ :: _, _, _ => rfl
  | _ :: _, [], _, _ => rfl
  | j :: js, d :: ds, env, h => by
    refine (own_setAll js ds (env := env.set j (.it (dat K d))) fun k hk l e z => ?_).trans (own_setEq (h j List.mem_cons_self) fun l d y => by cases y)
    rw [List.getElem?_set] at z
    split at z
    · split at z <;> cases z
    · exact h k (List.mem_cons_of_mem _ hk) l e z
theorem wTgt_snd {C : Cn} {n : Int} {env : List Ent} {g : Tgt} {d : PyData} {ρ : En} {k : En → Prop} (h : wTgt g d ρ k) (R : EnR C ρ env) : ∃ ρ' env', TgD C n env (g.g C.K) g.vs d env' ∧ EnR C ρ' env' ∧ k ρ' ∧ (g.vs.all (noOw ρ) = true → own env' = own env) := by
  unfold wTgt at h
  split at h
  · refine ⟨_, _, tg_name (by rw [← R.1]; exact h.1), R.set _ slD, h.2, fun z => own_setEq (fun l d y => noOw_env R ?_ l d y) fun l d y => by cases y⟩
    simpa [Tgt.vs] using z
  · rename_i js ds
    exact ⟨_, _, tg_tup h.1 (fun j hj => by rw [← R.1]; exact h.2.1 j hj), setR_R js ds R, h.2.2, fun z => own_setAll js ds fun j hj l d => noOw_env R (List.all_eq_true.mp z j hj) l d⟩
  · exact h.elim
end L2.EV

set_option Elab.async false
set_option maxRecDepth 100000
set_option maxHeartbeats 4000000
set_option linter.all false
/-! Terms of expressions, their readings, what they ask. -/
namespace L2.EV
open PySem PySem.Spec PyProof.Rows XC XK Evl TL DL
/-- a def's promise upon values: what it asks so that something holds of what comes -/
structure Con where
  cost : Int
  spec : List Vd → (Vd → Prop) → Prop
def Con.at_ (c : Con) (as : List Vd) (F : Vd → Prop) : Prop := ∃ G : Vd → Prop, c.spec as G ∧ ∀ x, G x → F x
/-- the pool is handed over first -/
def spC (K : PySem.W.Frag) (c : Con) : Sp := fun vs H Q _ => ∃ (as : List Vd) (p : Addr) (n : Int) (G : List Addr) (ws : List V), vs = .ref p :: ws ∧ p ∈ G ∧ (∀ b ∈ G, (H b).isSome = true) ∧ PoolAt H p n ∧ n + c.cost ≤ 1000000 ∧
  SAll (hid G H) ws (as.map (Vd.R K)) ∧
  c.at_ as fun x => ∀ v H', Bt [p] H H' → PoolAt H' p (n + c.cost) → (x.R K).r v (hid G H') → Q v H'
/-- without the pool -/
def spD (K : PySem.W.Frag) (c : Con) : Sp := fun vs H Q _ => ∃ (as : List Vd) (G : List Addr), (∀ b ∈ G, (H b).isSome = true) ∧ SAll (hid G H) vs (as.map (Vd.R K)) ∧
  c.at_ as fun x => ∀ v H', Ex H H' → (x.R K).r v (hid G H') → Q v H'
mutual
inductive Ex
  | var (i : Nat)
  | dat (d : PyData)
  | con (x : V) (d : PyData)
  | op (o : Op) (a b : Ex)
  | lst (a : Exs)
  | tup (a : Exs)
  | nt (a : Ex)
  | an (a b : Ex)
  | or (a b : Ex)
  | ite (t : Tx) (a b : Ex)
  | sl (k : Slk) (a : Ex) (lo hi : Exo)
  | mth (m : Mth) (a : Ex) (as : Exs)
  | blt (b : Blt) (as : Exs)
  | isi (T : String) (a : Ex)
  | lc (it : Itx) (g : Tgt) (c : Tx) (e : Ex)
  | draw (i : Nat) (e : Ex)
  | pick (i : Nat) (e : Ex)
  | callP (c : Con) (i : Nat) (as : Exs)
  | callF (c : Con) (as : Exs)
  | neg (a : Ex)
  | rp (a : Ex)
  | dict0
inductive Exs
  | nil
  | cons (a : Ex) (r : Exs)
inductive Exo
  | no
  | at (e : Ex)
inductive Tx
  | yes
  | val (e : Ex)
  | cmp (e : Ex)
  | nt (t : Tx)
  | an (a b : Tx)
  | or (a b : Tx)
inductive Itx
  | list (e : Ex)
  | tup (e : Ex)
  | str (e : Ex)
  | rng (e : Ex)
  | rng2 (a b : Ex)
end
def cV : PyData → V
  | .bool b => .bl b
  | .int i => .int i
  | .str s => .str s
  | _ => .non
mutual
def Ex.t (K : PySem.W.Frag) : Ex → TE
  | .var i => tVar i
  | .dat d => tC (cV d)
  | .con x _ => tC x
  | .op o a b => tOp (opR K o) (a.t K) (b.t K)
  | .lst a => tLst (a.t K)
  | .tup a => tTup (a.t K)
  | .nt a => tNotV (a.t K)
  | .an a b => tAndV (a.t K) (b.t K)
  | .or a b => tOrV (a.t K) (b.t K)
  | .ite t a b => tIf (t.t K) (a.t K) (b.t K)
  | .sl k a lo hi => tSl (slR K k) (a.t K) (lo.t K) (hi.t K)
  | .mth m a as => tBM K "str" (mthR K m) (a.t K) (as.t K)
  | .blt b as => tCB (bltR K b) (as.t K)
  | .isi T a => tCB (rIsi K) (tCons (a.t K) (tCons (tC (.ty T)) tNil))
  | .lc it g c e => tLc (it.t K) (g.g K) (c.t K) (e.t K) g.vs
  | .draw i e => tCall spDraw [] E0 (tCons (tVar i) (tCons (e.t K) tNil))
  | .pick i e => tCall spPick [] E0 (tCons (tVar i) (tCons (e.t K) tNil))
  | .callP c i as => tCall (spC K c) [] E0 (tCons (tVar i) (as.t K))
  | .callF c as => tCall (spD K c) [] E0 (as.t K)
  | .neg a => tUn (rU fun i => .int (-i)) (a.t K)
  | .rp a => tCB rRepr (tCons (a.t K) tNil)
  | .dict0 => tDNewK
def Exs.t (K : PySem.W.Frag) : Exs → TA
  | .nil => tNil
  | .cons a r => tCons (a.t K) (r.t K)
def Exo.t (K : PySem.W.Frag) : Exo → TO
  | .no => tNoPart
  | .at e => tPart (e.t K)
def Tx.t (K : PySem.W.Frag) : Tx → TT
  | .yes => tYes
  | .val e => tTest (e.t K)
  | .cmp e => tB (e.t K)
  | .nt t => tNot (t.t K)
  | .an a b => tAnd (a.t K) (b.t K)
  | .or a b => tOr (a.t K) (b.t K)
def Itx.t (K : PySem.W.Frag) : Itx → TI
  | .list e => iList K (e.t K)
  | .tup e => iTup K (e.t K)
  | .str e => iStr (e.t K)
  | .rng e => iRng1 (tCons (e.t K) tNil)
  | .rng2 a b => iRng2 (tCons (a.t K) (tCons (b.t K) tNil))
end
/-! what they ask -/
def onD (G : PyData → Int → Prop) : Vd → Int → Prop
  | .d d, m => G d m
  | _, _ => False
def asD (a : Ex) (ρ : En) (n : Int) (w : (Vd → Int → Prop) → Prop) (G : PyData → Int → Prop) : Prop :=
  match a with
  | .var i => (match ρ[i]? with
    | some (.ow d) => G d n
    | some (.va (.d d)) => G d n
    | _ => False)
  | _ => w (onD G)
def flat : PyData → Bool
  | .none => true
  | .bool _ => true
  | .int _ => true
  | .str s => decide (s.length ≤ 100000)
  | _ => false
def onB (T : Bool → Int → Prop) : PyData → Int → Prop
  | .bool b, m => T b m
  | _, _ => False
def onI (T : Int → Int → Prop) : PyData → Int → Prop
  | .int b, m => T b m
  | _, _ => False
def onS (T : Str → Int → Prop) : PyData → Int → Prop
  | .str b, m => T b m
  | _, _ => False
def onL (T : List PyData → Int → Prop) : PyData → Int → Prop
  | .list b, m => T b m
  | _, _ => False
def onT (T : List PyData → Int → Prop) : PyData → Int → Prop
  | .tuple b, m => T b m
  | _, _ => False
def wRep : PyData → (Str → Prop) → Prop
  | .int i, F => i.natAbs.log2 < 1920 ∧ ((toString i : String) : Str).length ≤ 100000 ∧ F (toString i)
  | .tuple l, F => (PyData.tuple l).showable = true ∧ (PyData.tuple l).shown.length ≤ 100000 ∧ (PyData.tuple l).depth ≤ 100 ∧ F (PyData.tuple l).shown
  | .list l, F => (PyData.list l).showable = true ∧ (PyData.list l).shown.length ≤ 100000 ∧ (PyData.list l).depth ≤ 100 ∧ F (PyData.list l).shown
  | _, _ => False
def pool? (ρ : En) (i : Nat) : Prop := ρ[i]? = some .pl
mutual
def Ex.w (K : PySem.W.Frag) : Ex → En → Int → (Vd → Int → Prop) → Prop
  | .var i, ρ, n, F => (match ρ[i]? with
    | some (.va v) => F v n
    | _ => False)
  | .dat d, ρ, n, F => flat d = true ∧ F (.d d) n
  | .con x d, ρ, n, F => (∀ H, Rp K H x d) ∧ F (.d d) n
  | .op o a b, ρ, n, F => asD a ρ n (a.w K ρ n) fun d m => asD b ρ m (b.w K ρ m) fun e k => wOp o d e fun f => F (.d f) k
  | .lst a, ρ, n, F => a.w K ρ n fun ds m => ds.length ≤ 100000 ∧ F (.d (.list ds)) m
  | .tup a, ρ, n, F => a.w K ρ n fun ds m => ds.length ≤ 100000 ∧ F (.d (.tuple ds)) m
  | .nt a, ρ, n, F => asD a ρ n (a.w K ρ n) (onB fun b m => F (.d (.bool (!b))) m)
  | .an a b, ρ, n, F => asD a ρ n (a.w K ρ n) (onB fun c m => if c = true then b.w K ρ m F else F (.d (.bool false)) m)
  | .or a b, ρ, n, F => asD a ρ n (a.w K ρ n) (onB fun c m => if c = true then F (.d (.bool true)) m else b.w K ρ m F)
  | .ite t a b, ρ, n, F => t.w K ρ n fun c m => if c = true then a.w K ρ m F else b.w K ρ m F
  | .sl k a lo hi, ρ, n, F => asD a ρ n (a.w K ρ n) fun d m => lo.w K ρ m fun l m1 => hi.w K ρ m1 fun u m2 => wSl k d l u fun f => F (.d f) m2
  | .mth m a as, ρ, n, F => asD a ρ n (a.w K ρ n) (onS fun s m1 => as.wr K ρ m1 fun ds m2 => wMth m s ds fun f => F (.d f) m2)
  | .blt b as, ρ, n, F => as.wr K ρ n fun ds m => wBlt b ds fun f => F (.d f) m
  | .isi T a, ρ, n, F => (T ∈ ["int", "bool", "str", "tuple"]) ∧ asD a ρ n (a.w K ρ n) fun d m => F (.d (.bool (isD T d))) m
  | .lc it g c e, ρ, n, F => g.vs.all (noOw ρ) = true ∧ it.w K ρ n fun ds m => ds.length ≤ 90000 ∧ ∃ Inv : Nat → List PyData → Int → Prop, Inv 0 [] m ∧ (∀ (i : Nat) x acc m1, ds[i]? = some x → Inv i acc m1 → wTgt g x (wipeR ρ g.vs) fun ρ' => c.w K ρ' m1 fun b m2 => if b = true then e.w K ρ' m2 (onD fun y m3 => Inv (i + 1) (acc ++ [y]) m3) else Inv (i + 1) acc m2) ∧ ∀ acc m1, Inv ds.length acc m1 → F (.d (.list acc)) m1
  | .draw i e, ρ, n, F => pool? ρ i ∧ asD e ρ n (e.w K ρ n) (onI fun m k => 1 ≤ m ∧ m < 1073741824 ∧ k ≤ 1000000 ∧ ∀ r, 0 ≤ r → r < m → F (.d (.int r)) (k + 1))
  | .pick i e, ρ, n, F => pool? ρ i ∧ asD e ρ n (e.w K ρ n) (onL fun ds k => ds ≠ [] ∧ ds.length ≤ 100000 ∧ k ≤ 1000000 ∧ ∀ c, c ∈ ds → F (.d c) (k + 1))
  | .callP c i as, ρ, n, F => pool? ρ i ∧ as.wv K ρ n fun vs m => m + c.cost ≤ 1000000 ∧ c.spec vs fun v => F v (m + c.cost)
  | .callF c as, ρ, n, F => as.wv K ρ n fun vs m => c.spec vs fun v => F v m
  | .neg a, ρ, n, F => asD a ρ n (a.w K ρ n) (onI fun i m => F (.d (.int (-i))) m)
  | .rp a, ρ, n, F => asD a ρ n (a.w K ρ n) fun d m => wRep d fun z => F (.d (.str z)) m
  | .dict0, ρ, n, F => F (.d (.dict [])) n
/-- values that stand, all of them data -/
def Exs.w (K : PySem.W.Frag) : Exs → En → Int → (List PyData → Int → Prop) → Prop
  | .nil, ρ, n, F => F [] n
  | .cons a r, ρ, n, F => a.w K ρ n (onD fun d m => r.w K ρ m fun ds k => F (d :: ds) k)
/-- values that stand -/
def Exs.wv (K : PySem.W.Frag) : Exs → En → Int → (List Vd → Int → Prop) → Prop
  | .nil, ρ, n, F => F [] n
  | .cons a r, ρ, n, F => a.w K ρ n fun v m => r.wv K ρ m fun vs k => F (v :: vs) k
/-- what is read now -/
def Exs.wr (K : PySem.W.Frag) : Exs → En → Int → (List PyData → Int → Prop) → Prop
  | .nil, ρ, n, F => F [] n
  | .cons a r, ρ, n, F => asD a ρ n (a.w K ρ n) fun d m => r.wr K ρ m fun ds k => F (d :: ds) k
def Exo.w (K : PySem.W.Frag) : Exo → En → Int → (Option Int → Int → Prop) → Prop
  | .no, ρ, n, F => F none n
  | .at e, ρ, n, F => asD e ρ n (e.w K ρ n) (onI fun i m => F (some i) m)
def Tx.w (K : PySem.W.Frag) : Tx → En → Int → (Bool → Int → Prop) → Prop
  | .yes, ρ, n, F => F true n
  | .val e, ρ, n, F => asD e ρ n (e.w K ρ n) (onB F)
  | .cmp e, ρ, n, F => asD e ρ n (e.w K ρ n) (onB F)
  | .nt t, ρ, n, F => t.w K ρ n fun b m => F (!b) m
  | .an a b, ρ, n, F => a.w K ρ n fun c m => if c = true then b.w K ρ m F else F false m
  | .or a b, ρ, n, F => a.w K ρ n fun c m => if c = true then F true m else b.w K ρ m F
def Itx.w (K : PySem.W.Frag) : Itx → En → Int → (List PyData → Int → Prop) → Prop
  | .list e, ρ, n, F => e.w K ρ n (onD (onL F))
  | .tup e, ρ, n, F => e.w K ρ n (onD (onT F))
  | .str e, ρ, n, F => asD e ρ n (e.w K ρ n) (onS fun s m => F (chars s) m)
  | .rng e, ρ, n, F => asD e ρ n (e.w K ρ n) (onI fun k m => k ≤ 1000000 ∧ -1000000 ≤ k ∧ F (iota k.toNat) m)
  | .rng2 a b, ρ, n, F => asD a ρ n (a.w K ρ n) (onI fun l m => asD b ρ m (b.w K ρ m) (onI fun k m1 => l ≤ 1000000 ∧ -1000000 ≤ l ∧ k ≤ 1000000 ∧ -1000000 ≤ k ∧ F ((List.range (k - l).toNat).map fun (i : Nat) => .int (l + (i : Int))) m1))
end
end L2.EV

set_option Elab.async false
set_option maxRecDepth 100000
set_option maxHeartbeats 4000000
set_option linter.all false
/-! What the terms ask is enough. -/
namespace L2.EV
open PySem PySem.Spec PyProof.Rows XC XK Evl TL DL
section
variable {C : Cn} {n : Int} {env : List Ent} {ρ : En} {te : TE} {tas : TA} {wi : TI} {g : TG} {tt : TT} {vs : List Nat} {F : SRel → Int → Prop}
theorem eft_mono {T T' : Bool → Int → Prop} (h : EfT C n env tt T) (k : ∀ b m, T b m → T' b m) : EfT C n env tt T' := fun σ H S Q q => h σ H S _ fun b H' m b1 S1 f => q b H' m b1 S1 (k b m f)
theorem efo_mono {to : TO} {T T' : Option Int → Int → Prop} (h : EfO C n env to T) (k : ∀ b m, T b m → T' b m) : EfO C n env to T' := fun σ H S Q q => h σ H S _ fun b H' m b1 S1 f => q b H' m b1 S1 (k b m f)
theorem efds_mono {T T' : List PyData → Int → Prop} (h : EfDs C n env tas T) (k : ∀ b m, T b m → T' b m) : EfDs C n env tas T' := fun σ H S Q q => h σ H S _ fun vs H' ds m b1 S1 t1 f => q vs H' ds m b1 S1 t1 (k ds m f)
theorem efa_mono {T T' : List SRel → Int → Prop} (h : EfA C n env tas T) (k : ∀ b m, T b m → T' b m) : EfA C n env tas T' := fun σ H S Q q => h σ H S _ fun vs H' ds m b1 S1 t1 f => q vs H' ds m b1 S1 t1 (k ds m f)
theorem ef_lcF {L : List PyData → Int → Prop} (hi : ItF C n env wi L) (k : ∀ q J ds m, L ds m → ItD (C.kept q) m env (fun _ H R => R J H) ds → EfE (C.kept q) m env (tLc (fun _ H R => R J H) g tt te vs) F) : EfE C n env (tLc wi g tt te vs) F := fun σ H S Q q =>
  itf_run hi S fun J H' kv kr ds m b S' it l => k (kv, kr) J ds m l it σ H' S' Q fun v H2 R m2 b2 S2 r2 f2 => q v H2 R m2 (b.trans b2) S2.unkeep r2 f2
theorem pool_env {i : Nat} (h : pool? ρ i) (R : EnR C ρ env) : ∃ p, C.pl = some p ∧ env[i]? = some (.it (val (.ref p))) := by
  obtain ⟨e, h1, p, h2, h3⟩ := R.2 i .pl h
  exact ⟨p, h2, by rw [h1, h3]⟩
theorem ef_callC {c : Con} {E : XK} {i : Nat} {p : Addr} (hpl : C.pl = some p) (hp : env[i]? = some (.it (val (.ref p))))
    (h : EfA C n env tas fun Rs m => ∃ as : List Vd, Rs = as.map (Vd.R C.K) ∧ m + c.cost ≤ 1000000 ∧ c.at_ as fun v => F (v.R C.K) (m + c.cost)) : EfE C n env (tCall (spC C.K c) [] E (tCons (tVar i) tas)) F := fun σ H S Q q => by
  obtain ⟨v, e, hv⟩ := S.ent i _ hp
  have hv' : v = .ref p := hv
  subst hv'
  refine ⟨_, e, h σ H S _ fun vs H1 Rs m b1 S1 r1 f1 => ?_⟩
  obtain ⟨as, rfl, hm, G0, hG0, k⟩ := f1
  refine ⟨as, p, m, C.G ++ own env, vs, by rw [List.append_nil], List.mem_append_left _ (S1.hG p hpl), fun b hb => ?_, S1.pool p hpl, hm, r1, ?_⟩
  · rcases List.mem_append.mp hb with hb | hb
    · exact S1.vis b hb
    · exact (S1.new b hb).2
  · exact ⟨G0, hG0, fun x f v H' b po r => q v H' _ _ (b1.trans (At.bt1 (σ := σ) hpl b)) (S1.drawn (At.bt1 (σ := σ) hpl b) (At.poolO hpl po)) r (k x f)⟩
theorem ef_callD1 {c : Con} {E : XK} (h : EfA C n env tas fun Rs m => ∃ as : List Vd, Rs = as.map (Vd.R C.K) ∧ c.at_ as fun v => F (v.R C.K) m) : EfE C n env (tCall (spD C.K c) [] E tas) F := fun σ H S Q q =>
  h σ H S _ fun vs H1 Rs m b1 S1 r1 ⟨as, e, G0, hG0, k⟩ => by
    subst e
    refine ⟨as, C.G ++ own env, fun b hb => ?_, by rw [List.append_nil]; exact r1, ?_⟩
    · rcases List.mem_append.mp hb with hb | hb
      · exact S1.vis b hb
      · exact (S1.new b hb).2
    · exact ⟨G0, hG0, fun x f v H' b r => q v H' _ m (b1.trans (Bt.of b)) (S1.ex b) r (k x f)⟩
theorem cV_rp {d : PyData} {K : PySem.W.Frag} {H : Hp} (h : flat d = true) : Rp K H (cV d) d := by
  cases d with
  | none => exact .non
  | bool b => exact .bl b
  | int i => exact .int i
  | str s => exact .str s (of_decide_eq_true h)
  | _ => cases h
theorem onD_d {G : PyData → Int → Prop} {v : Vd} {m : Int} (h : onD G v m) : ∃ d, v = .d d ∧ G d m := by
  cases v with
  | d x => exact ⟨x, rfl, h⟩
  | o R => exact h.elim
theorem onB_d {T : Bool → Int → Prop} {d : PyData} {m : Int} (h : onB T d m) : ∃ b, d = .bool b ∧ T b m := by
  cases d <;> first | exact ⟨_, rfl, h⟩ | exact h.elim
theorem onI_d {T : Int → Int → Prop} {d : PyData} {m : Int} (h : onI T d m) : ∃ b, d = .int b ∧ T b m := by
  cases d <;> first | exact ⟨_, rfl, h⟩ | exact h.elim
theorem onS_d {T : Str → Int → Prop} {d : PyData} {m : Int} (h : onS T d m) : ∃ b, d = .str b ∧ T b m := by
  cases d <;> first | exact ⟨_, rfl, h⟩ | exact h.elim
theorem onL_d {T : List PyData → Int → Prop} {d : PyData} {m : Int} (h : onL T d m) : ∃ b, d = .list b ∧ T b m := by
  cases d <;> first | exact ⟨_, rfl, h⟩ | exact h.elim
theorem onT_d {T : List PyData → Int → Prop} {d : PyData} {m : Int} (h : onT T d m) : ∃ b, d = .tuple b ∧ T b m := by
  cases d <;> first | exact ⟨_, rfl, h⟩ | exact h.elim
abbrev Up (K : PySem.W.Frag) (F : Vd → Int → Prop) : SRel → Int → Prop := fun R m => ∃ v : Vd, R = v.R K ∧ F v m
theorem asD_snd {a : Ex} {G : PyData → Int → Prop} (h : asD a ρ n (a.w C.K ρ n) G) (ih : ∀ F, a.w C.K ρ n F → EfE C n env (a.t C.K) (Up C.K F)) (R : EnR C ρ env) : EfD C n env (a.t C.K) G := by
  have aux : a.w C.K ρ n (onD G) → EfD C n env (a.t C.K) G := fun h => efd_of (ef_mono (ih _ h) fun R m ⟨v, e, f⟩ => by
    obtain ⟨d, rfl, f⟩ := onD_d f
    exact ⟨d, e, f⟩)
  cases a with
  | var i =>
    unfold asD at h
    dsimp only at h
    split at h
    · rename_i d hi
      obtain ⟨e, h1, l, rfl⟩ := R.2 i _ hi
      exact efd_own h1 h
    · rename_i d hi
      exact aux (by unfold Ex.w; rw [hi]; exact h)
    · exact h.elim
  | _ => exact aux h
theorem noOw_wipe {i : Nat} (h : noOw ρ i = true) : ∀ vs : List Nat, noOw (wipeR ρ vs) i = true
  | [] => h
  | v :: vs => by
    have ih := noOw_wipe h vs
    show noOw ((wipeR ρ vs).set v .un) i = true
    unfold noOw at ih ⊢
    rw [List.getElem?_set]
    by_cases hv : v = i
    · rw [if_pos hv]
      split <;> simp_all
    · rw [if_neg hv]
      exact ih
end
theorem spec_up {K : PySem.W.Frag} {c : Con} {vs : List Vd} {F : Vd → Int → Prop} {m : Int} (h : c.spec vs fun v => F v m) : c.at_ vs fun v => Up K F (v.R K) m := ⟨_, h, fun v f => ⟨v, rfl, f⟩⟩
theorem itf_list {L : List PyData → Int → Prop} (h : EfE C n env te fun R m => ∃ ds : List PyData, R = dat C.K (.list ds) ∧ L ds m) : ItF C n env (iList C.K te) L := fun σ H S R q =>
  h σ H S _ fun v H1 Rr m b1 S1 r1 ⟨ds, e, l⟩ => by
    subst e
    exact (it_list (C := C.kept (v, dat C.K (.list ds))) (n := m) (env := env) (te := fun _ H Q => Q v H) (fun σ2 H2 S2 Q2 q2 => q2 v H2 (Ex.refl _) (S2.kept (v, dat C.K (.list ds)) List.mem_cons_self))) σ H1 (S1.keep r1) R
      fun J H2 kv kr e2 k2 W => q J H2 kv kr ds m (b1.trans (Bt.of e2)) (S1.ex e2) k2 W l
theorem itf_tup {L : List PyData → Int → Prop} (h : EfE C n env te fun R m => ∃ ds : List PyData, R = dat C.K (.tuple ds) ∧ L ds m) : ItF C n env (iTup C.K te) L := fun σ H S R q =>
  h σ H S _ fun v H1 Rr m b1 S1 r1 ⟨ds, e, l⟩ => by
    subst e
    exact (it_tup (C := C.kept (v, dat C.K (.tuple ds))) (n := m) (env := env) (te := fun _ H Q => Q v H) (fun σ2 H2 S2 Q2 q2 => q2 v H2 (Ex.refl _) (S2.kept (v, dat C.K (.tuple ds)) List.mem_cons_self))) σ H1 (S1.keep r1) R
      fun J H2 kv kr e2 k2 W => q J H2 kv kr ds m (b1.trans (Bt.of e2)) (S1.ex e2) k2 W l
theorem cst_d {v : V} {d : PyData} {C : Cn} {n : Int} {env : List Ent} (h : ∀ h H, Tr C.K h H v d) : EvD C n env (fun _ H Q => Q v H) d := fun σ H S Q q => q v H (Ex.refl _) (h _ _)
theorem itf_str {L : List PyData → Int → Prop} (h : EfD C n env te fun d m => ∃ s, d = .str s ∧ L (chars s) m) : ItF C n env (iStr te) L := fun σ H S R q =>
  h σ H S _ fun v H1 d m b1 S1 t1 ⟨s, e, l⟩ => by
    subst e
    obtain ⟨rfl, hz⟩ := (tw_tr S1 t1).str
    exact (it_str (C := C) (n := m) (env := env) (te := fun _ H Q => Q (.str s) H) (cst_d fun _ _ => .st (.str s hz))) σ H1 S1 R
      fun J H2 kv kr e2 k2 W => q J H2 kv kr _ m (b1.trans (Bt.of e2)) (S1.ex e2) k2 W l
theorem itf_rng {L : List PyData → Int → Prop} (h : EfD C n env te fun d m => ∃ k, d = .int k ∧ k ≤ 1000000 ∧ -1000000 ≤ k ∧ L (iota k.toNat) m) : ItF C n env (iRng1 (tCons te tNil)) L := fun σ H S R q =>
  h σ H S _ fun v H1 d m b1 S1 t1 ⟨k, e, h1, h2, l⟩ => by
    subst e
    obtain rfl := (tw_tr S1 t1).int
    exact (it_rng (C := C) (n := m) (env := env) (tas := tCons (fun _ H Q => Q (.int k) H) tNil) (eds_cons (cst_d fun _ _ => .st (.int k)) eds_nil) h1 h2) σ H1 S1 R
      fun J H2 kv kr e2 k2 W => q J H2 kv kr _ m (b1.trans (Bt.of e2)) (S1.ex e2) k2 W l
theorem itf_rng2 {ta tb : TE} {L : List PyData → Int → Prop} (h : EfD C n env ta fun d m => ∃ a, d = .int a ∧ EfD C m env tb fun e m1 => ∃ k, e = .int k ∧ a ≤ 1000000 ∧ -1000000 ≤ a ∧ k ≤ 1000000 ∧ -1000000 ≤ k ∧ L ((List.range (k - a).toNat).map fun (i : Nat) => .int (a + (i : Int))) m1) :
    ItF C n env (iRng2 (tCons ta (tCons tb tNil))) L := fun σ H S R q =>
  h σ H S _ fun v H1 d m b1 S1 t1 ⟨a, e, f⟩ => f σ H1 S1 _ fun w H2 d2 m2 b2 S2 t2 ⟨k, e2, h1, h2, h3, h4, l⟩ => by
    subst e e2
    obtain rfl := (tw_tr S1 t1).int
    obtain rfl := (tw_tr S2 t2).int
    exact (it_rng2 (C := C) (n := m2) (env := env) (tas := tCons (fun _ H Q => Q (.int a) H) (tCons (fun _ H Q => Q (.int k) H) tNil)) (eds_cons (cst_d fun _ _ => .st (.int a)) (eds_cons (cst_d fun _ _ => .st (.int k)) eds_nil)) h1 h2 h3 h4) σ H2 S2 R
      fun J H3 kv kr e3 k3 W => q J H3 kv kr _ m2 ((b1.trans b2).trans (Bt.of e3)) (S2.ex e3) k3 W l
end L2.EV

set_option Elab.async false
set_option maxRecDepth 100000
set_option maxHeartbeats 4000000
set_option linter.all false
/-! What the terms ask is enough: every term. -/
namespace L2.EV
open PySem PySem.Spec PyProof.Rows XC XK Evl TL DL
mutual
theorem Rp.dx {K : PySem.W.Frag} {H : Hp} : ∀ {v : V} {d : PyData}, Rp K H v d → Dx H v d
  | _, _, .non => .non
  | _, _, .bl b => .bl b
  | _, _, .int i => .int i
  | _, _, .str x h => .str x
  | _, _, .lst h q => .lst h (RpA.dx q)
  | _, _, .tup h q => .tup h (RpA.dx q)
  | _, _, .dic h p q => .dic h (RpA.dx p) (RpA.dx q)
theorem RpA.dx {K : PySem.W.Frag} {H : Hp} : ∀ {vs : List V} {ds : List PyData}, RpA K H vs ds → DxAll H vs ds
  | _, _, .nil => .nil
  | _, _, .cons h t => .cons (Rp.dx h) (RpA.dx t)
end
theorem wRep_snd {K : PySem.W.Frag} {h H : Hp} {v : V} {d : PyData} {F : Str → Prop} (w : wRep d F) (t : Tr K h H v d) (e : ∀ a o, h a = some o → H a = some o) : ∃ z : Str, z.length ≤ 100000 ∧ RepV H v z ∧ F z := by
  unfold wRep at w
  split at w
  · rw [t.int]
    exact ⟨_, w.2.1, .int w.1, w.2.2⟩
  · obtain ⟨a, xs, rfl, _, hh, q⟩ := t.tuple e
    exact ⟨_, w.2.1, .ref (.tup (e _ _ hh) ((RpA.dx q).same e)) w.1 w.2.1 w.2.2.1, w.2.2.2⟩
  · obtain ⟨a, xs, rfl, hh, q⟩ := t.list e
    exact ⟨_, w.2.1, .ref (.lst hh ((RpA.dx q).same e)) w.1 w.2.1 w.2.2.1, w.2.2.2⟩
  · exact w.elim
theorem wRep_mono {d : PyData} {F G : Str → Prop} (h : wRep d F) (k : ∀ z, F z → G z) : wRep d G := by
  cases d <;> first | exact h.elim | exact ⟨h.1, h.2.1, k _ h.2.2⟩ | exact ⟨h.1, h.2.1, h.2.2.1, k _ h.2.2.2⟩
theorem ef_negD {C : Cn} {n : Int} {env : List Ent} {te : TE} {F : SRel → Int → Prop} (h : EfD C n env te fun d m => ∃ i, d = .int i ∧ F (dat C.K (.int (-i))) m) : EfE C n env (tUn (rU fun i => .int (-i)) te) F := fun σ H S Q q =>
  h σ H S _ fun v H1 d m b1 S1 t1 ⟨i, e, f1⟩ => by
    subst e
    exact ⟨i, (tw_tr S1 t1).int, q _ H1 _ m b1 S1 (Rp.int _) f1⟩
theorem ef_repD {C : Cn} {n : Int} {env : List Ent} {te : TE} {F : SRel → Int → Prop} (h : EfD C n env te fun d m => wRep d fun z => F (dat C.K (.str z)) m) : EfE C n env (tCB rRepr (tCons te tNil)) F := fun σ H S Q q =>
  h σ H S _ fun v H1 d m b1 S1 t1 f1 => by
    obtain ⟨z, hz, r, f⟩ := wRep_snd f1 (tw_tr S1 t1) hidEx
    exact ⟨v, z, rfl, r, q _ H1 _ m b1 S1 (Rp.str z hz) f⟩
theorem ef_dict0 {C : Cn} {n : Int} {env : List Ent} {F : SRel → Int → Prop} (h : F (dat C.K (.dict [])) n) : EfE C n env tDNewK F := fun σ H S Q q p hp =>
  q _ _ _ n (Bt.of (Ex.new hp)) (S.ex (Ex.new hp)) (Rp.dic (kvs := []) (hidNew (S.fresh hp)) .nil .nil) h
mutual
theorem Ex.snd : ∀ (a : Ex) {C : Cn} {n : Int} {env : List Ent} {ρ : En} {F : Vd → Int → Prop}, a.w C.K ρ n F → EnR C ρ env → EfE C n env (a.t C.K) (Up C.K F)
  | .var i, C, n, env, ρ, F, h, R => by
    unfold Ex.w at h
    unfold Ex.t
    split at h
    · rename_i v hi
      obtain ⟨e, h1, h2⟩ := R.2 i _ hi
      have h2' : e = .it (v.R C.K) := h2
      subst h2'
      exact ef_s (es_var h1) ⟨v, rfl, h⟩
    · exact h.elim
  | .dat d, C, n, env, ρ, F, h, R => by
    unfold Ex.w at h
    exact ef_s (es_c (R := dat C.K d) fun H => cV_rp h.1) ⟨.d d, rfl, h.2⟩
  | .con x d, C, n, env, ρ, F, h, R => by
    unfold Ex.w at h
    exact ef_s (es_c (R := dat C.K d) h.1) ⟨.d d, rfl, h.2⟩
  | .op o a b, C, n, env, ρ, F, h, R => by
    unfold Ex.w at h
    unfold Ex.t
    exact ef_opD (efd_mono (asD_snd h (fun F h => a.snd h R) R) fun d m h => efd_mono (asD_snd h (fun F h => b.snd h R) R) fun e k h => by
      obtain ⟨f, hr, hf⟩ := wOp_snd (K := C.K) h
      exact ⟨f, hr, .d f, rfl, hf⟩)
  | .lst a, C, n, env, ρ, F, h, R => by
    unfold Ex.w at h
    unfold Ex.t
    exact ef_lst (efa_mono (a.snd h R) fun Rs m ⟨ds, e, hl, hf⟩ => ⟨ds, e, hl, .d (.list ds), rfl, hf⟩)
  | .tup a, C, n, env, ρ, F, h, R => by
    unfold Ex.w at h
    unfold Ex.t
    exact ef_tup (efa_mono (a.snd h R) fun Rs m ⟨ds, e, hl, hf⟩ => ⟨ds, e, hl, .d (.tuple ds), rfl, hf⟩)
  | .nt a, C, n, env, ρ, F, h, R => by
    unfold Ex.w at h
    unfold Ex.t
    exact ef_notV (efd_mono (asD_snd h (fun F h => a.snd h R) R) fun d m h => by
      obtain ⟨b, rfl, f⟩ := onB_d h
      exact ⟨b, rfl, .d _, rfl, f⟩)
  | .an a b, C, n, env, ρ, F, h, R => by
    unfold Ex.w at h
    unfold Ex.t
    exact ef_andV (efd_mono (asD_snd h (fun F h => a.snd h R) R) fun d m h => by
      obtain ⟨c, rfl, f⟩ := onB_d h
      refine ⟨c, rfl, ?_⟩
      cases c with
      | true => exact b.snd f R
      | false => exact ⟨.d _, rfl, f⟩)
  | .or a b, C, n, env, ρ, F, h, R => by
    unfold Ex.w at h
    unfold Ex.t
    exact ef_orV (efd_mono (asD_snd h (fun F h => a.snd h R) R) fun d m h => by
      obtain ⟨c, rfl, f⟩ := onB_d h
      refine ⟨c, rfl, ?_⟩
      cases c with
      | true => exact ⟨.d _, rfl, f⟩
      | false => exact b.snd f R)
  | .ite t a b, C, n, env, ρ, F, h, R => by
    unfold Ex.w at h
    unfold Ex.t
    exact ef_ifT (eft_mono (t.snd h R) fun c m f => by
      cases c with
      | true => exact a.snd f R
      | false => exact b.snd f R)
  | .sl k a lo hi, C, n, env, ρ, F, h, R => by
    unfold Ex.w at h
    unfold Ex.t
    exact ef_slD (efd_mono (asD_snd h (fun F h => a.snd h R) R) fun d m h => efo_mono (lo.snd h R) fun l m1 h => efo_mono (hi.snd h R) fun u m2 h => by
      obtain ⟨f, hr, hf⟩ := wSl_snd (K := C.K) h
      exact ⟨f, hr, .d f, rfl, hf⟩)
  | .mth mm a as, C, n, env, ρ, F, h, R => by
    unfold Ex.w at h
    unfold Ex.t
    exact ef_methS (efd_mono (asD_snd h (fun F h => a.snd h R) R) fun d m h => by
      obtain ⟨s, rfl, f⟩ := onS_d h
      exact ⟨s, rfl, efds_mono (as.sndR f R) fun ds k h => by
        obtain ⟨f, hr, hf⟩ := wMth_snd (K := C.K) h
        exact ⟨f, hr, .d f, rfl, hf⟩⟩)
  | .blt b as, C, n, env, ρ, F, h, R => by
    unfold Ex.w at h
    unfold Ex.t
    exact ef_callD (efds_mono (as.sndR h R) fun ds m h => by
      obtain ⟨f, hr, hf⟩ := wBlt_snd (K := C.K) h
      exact ⟨f, hr, .d f, rfl, hf⟩)
  | .isi T a, C, n, env, ρ, F, h, R => by
    unfold Ex.w at h
    unfold Ex.t
    exact ef_isi h.1 (efd_mono (asD_snd h.2 (fun F h => a.snd h R) R) fun d m h => ⟨.d _, rfl, h⟩)
  | .lc it g c e, C, n, env, ρ, F, h, R => by
    unfold Ex.w at h
    unfold Ex.t
    obtain ⟨ho, h⟩ := h
    refine ef_lcF (it.snd h R) fun q J ds m hh it' => ?_
    have ow := own_wipeEq R g.vs ho
    obtain ⟨hz, Inv, h0, hs, hd⟩ := hh
    refine ef_lc it' ow.1 hz Inv h0 (fun p q2 i d acc m1 hdd hi => ?_) fun acc m1 hi => ?_
    · obtain ⟨ρ', env', tg, R', k, oe⟩ := wTgt_snd (C := (((C.kept q).add p).kept q2)) (n := m1) (hs i d acc m1 hdd hi) (R.wipe g.vs)
      refine ⟨env', tg, (oe ?_).trans ow.1, eft_mono (c.snd (C := (((C.kept q).add p).kept q2)) k R') fun b m2 f => ?_⟩
      · rw [List.all_eq_true] at ho ⊢
        exact fun i hi => noOw_wipe (ho i hi) _
      · cases b with
        | true =>
          exact ef_mono (e.snd (C := (((C.kept q).add p).kept q2)) f R') fun Rr m3 ⟨v, ev, f⟩ => by
            obtain ⟨y, rfl, f⟩ := onD_d f
            exact ⟨y, ev, f⟩
        | false => exact f
    · exact ⟨.d (.list acc), rfl, hd acc m1 hi⟩
  | .draw i e, C, n, env, ρ, F, h, R => by
    unfold Ex.w at h
    unfold Ex.t
    obtain ⟨p, hp, he⟩ := pool_env h.1 R
    exact ef_drawD hp he (efd_mono (asD_snd h.2 (fun F h => e.snd h R) R) fun d k h => by
      obtain ⟨m, rfl, h1, h2, h3, f⟩ := onI_d h
      exact ⟨m, rfl, h1, h2, h3, fun r r0 r1 => ⟨.d _, rfl, f r r0 r1⟩⟩)
  | .pick i e, C, n, env, ρ, F, h, R => by
    unfold Ex.w at h
    unfold Ex.t
    obtain ⟨p, hp, he⟩ := pool_env h.1 R
    exact ef_pickD hp he (efd_mono (asD_snd h.2 (fun F h => e.snd h R) R) fun d k h => by
      obtain ⟨ds, rfl, h1, h2, h3, f⟩ := onL_d h
      exact ⟨ds, rfl, h1, h2, h3, fun c hc => ⟨.d _, rfl, f c hc⟩⟩)
  | .callP c i as, C, n, env, ρ, F, h, R => by
    unfold Ex.w at h
    unfold Ex.t
    obtain ⟨p, hp, he⟩ := pool_env h.1 R
    exact ef_callC hp he (efa_mono (as.sndV h.2 R) fun Rs m ⟨vs, e, hm, k⟩ => ⟨vs, e, hm, spec_up k⟩)
  | .callF c as, C, n, env, ρ, F, h, R => by
    unfold Ex.w at h
    unfold Ex.t
    exact ef_callD1 (efa_mono (as.sndV h R) fun Rs m ⟨vs, e, k⟩ => ⟨vs, e, spec_up k⟩)
  | .neg a, C, n, env, ρ, F, h, R => by
    unfold Ex.w at h
    unfold Ex.t
    exact ef_negD (efd_mono (asD_snd h (fun F h => a.snd h R) R) fun d m h => by
      obtain ⟨i, rfl, f⟩ := onI_d h
      exact ⟨i, rfl, .d _, rfl, f⟩)
  | .rp a, C, n, env, ρ, F, h, R => by
    unfold Ex.w at h
    unfold Ex.t
    exact ef_repD (efd_mono (asD_snd h (fun F h => a.snd h R) R) fun d m h => wRep_mono h fun z f => ⟨.d _, rfl, f⟩)
  | .dict0, C, n, env, ρ, F, h, R => by
    unfold Ex.w at h
    exact ef_dict0 ⟨.d _, rfl, h⟩
theorem Exs.snd : ∀ (a : Exs) {C : Cn} {n : Int} {env : List Ent} {ρ : En} {F : List PyData → Int → Prop}, a.w C.K ρ n F → EnR C ρ env → EfA C n env (a.t C.K) fun Rs m => ∃ ds : List PyData, Rs = ds.map (dat C.K) ∧ F ds m
  | .nil, C, n, env, ρ, F, h, R => by
    unfold Exs.w at h
    exact ea_nil ⟨[], rfl, h⟩
  | .cons a r, C, n, env, ρ, F, h, R => by
    unfold Exs.w at h
    unfold Exs.t
    exact ea_cons (ef_mono (a.snd h R) fun Rr m ⟨v, e, f⟩ => by
      obtain ⟨d, rfl, f⟩ := onD_d f
      subst e
      exact efa_mono (r.snd f R) fun Rs k ⟨ds, e, f⟩ => ⟨d :: ds, by rw [e]; rfl, f⟩)
theorem Exs.sndV : ∀ (a : Exs) {C : Cn} {n : Int} {env : List Ent} {ρ : En} {F : List Vd → Int → Prop}, a.wv C.K ρ n F → EnR C ρ env → EfA C n env (a.t C.K) fun Rs m => ∃ vs : List Vd, Rs = vs.map (Vd.R C.K) ∧ F vs m
  | .nil, C, n, env, ρ, F, h, R => by
    unfold Exs.wv at h
    exact ea_nil ⟨[], rfl, h⟩
  | .cons a r, C, n, env, ρ, F, h, R => by
    unfold Exs.wv at h
    unfold Exs.t
    exact ea_cons (ef_mono (a.snd h R) fun Rr m ⟨v, e, f⟩ => by
      subst e
      exact efa_mono (r.sndV f R) fun Rs k ⟨ds, e, f⟩ => ⟨v :: ds, by rw [e]; rfl, f⟩)
theorem Exs.sndR : ∀ (a : Exs) {C : Cn} {n : Int} {env : List Ent} {ρ : En} {F : List PyData → Int → Prop}, a.wr C.K ρ n F → EnR C ρ env → EfDs C n env (a.t C.K) F
  | .nil, C, n, env, ρ, F, h, R => by
    unfold Exs.wr at h
    exact eds_nilF h
  | .cons a r, C, n, env, ρ, F, h, R => by
    unfold Exs.wr at h
    unfold Exs.t
    exact eds_consF (efd_mono (asD_snd h (fun F h => a.snd h R) R) fun d m h => r.sndR h R)
theorem Exo.snd : ∀ (a : Exo) {C : Cn} {n : Int} {env : List Ent} {ρ : En} {F : Option Int → Int → Prop}, a.w C.K ρ n F → EnR C ρ env → EfO C n env (a.t C.K) F
  | .no, C, n, env, ρ, F, h, R => by
    unfold Exo.w at h
    exact efo_none h
  | .at e, C, n, env, ρ, F, h, R => by
    unfold Exo.w at h
    unfold Exo.t
    exact efo_some (efd_mono (asD_snd h (fun F h => e.snd h R) R) fun d m h => onI_d h)
theorem Tx.snd : ∀ (a : Tx) {C : Cn} {n : Int} {env : List Ent} {ρ : En} {F : Bool → Int → Prop}, a.w C.K ρ n F → EnR C ρ env → EfT C n env (a.t C.K) F
  | .yes, C, n, env, ρ, F, h, R => by
    unfold Tx.w at h
    exact eft_t et_yes h
  | .val e, C, n, env, ρ, F, h, R => by
    unfold Tx.w at h
    unfold Tx.t
    exact eft_D (efd_mono (asD_snd h (fun F h => e.snd h R) R) fun d m h => onB_d h)
  | .cmp e, C, n, env, ρ, F, h, R => by
    unfold Tx.w at h
    unfold Tx.t
    exact eft_BD (efd_mono (asD_snd h (fun F h => e.snd h R) R) fun d m h => onB_d h)
  | .nt t, C, n, env, ρ, F, h, R => by
    unfold Tx.w at h
    unfold Tx.t
    exact eft_not (t.snd h R)
  | .an a b, C, n, env, ρ, F, h, R => by
    unfold Tx.w at h
    unfold Tx.t
    exact eft_and (eft_mono (a.snd h R) fun c m f => by
      cases c with
      | true => exact b.snd f R
      | false => exact f)
  | .or a b, C, n, env, ρ, F, h, R => by
    unfold Tx.w at h
    unfold Tx.t
    exact eft_or (eft_mono (a.snd h R) fun c m f => by
      cases c with
      | true => exact f
      | false => exact b.snd f R)
theorem Itx.snd : ∀ (a : Itx) {C : Cn} {n : Int} {env : List Ent} {ρ : En} {F : List PyData → Int → Prop}, a.w C.K ρ n F → EnR C ρ env → ItF C n env (a.t C.K) F
  | .list e, C, n, env, ρ, F, h, R => by
    unfold Itx.w at h
    unfold Itx.t
    exact itf_list (ef_mono (e.snd h R) fun Rr m ⟨v, ev, f⟩ => by
      obtain ⟨d, rfl, f⟩ := onD_d f
      obtain ⟨ds, rfl, f⟩ := onL_d f
      exact ⟨ds, ev, f⟩)
  | .tup e, C, n, env, ρ, F, h, R => by
    unfold Itx.w at h
    unfold Itx.t
    exact itf_tup (ef_mono (e.snd h R) fun Rr m ⟨v, ev, f⟩ => by
      obtain ⟨d, rfl, f⟩ := onD_d f
      obtain ⟨ds, rfl, f⟩ := onT_d f
      exact ⟨ds, ev, f⟩)
  | .str e, C, n, env, ρ, F, h, R => by
    unfold Itx.w at h
    unfold Itx.t
    exact itf_str (efd_mono (asD_snd h (fun F h => e.snd h R) R) fun d m h => onS_d h)
  | .rng e, C, n, env, ρ, F, h, R => by
    unfold Itx.w at h
    unfold Itx.t
    exact itf_rng (efd_mono (asD_snd h (fun F h => e.snd h R) R) fun d m h => onI_d h)
  | .rng2 a b, C, n, env, ρ, F, h, R => by
    unfold Itx.w at h
    unfold Itx.t
    exact itf_rng2 (efd_mono (asD_snd h (fun F h => a.snd h R) R) fun d m h => by
      obtain ⟨l, rfl, h⟩ := onI_d h
      exact ⟨l, rfl, efd_mono (asD_snd h (fun F h => b.snd h R) R) fun d m h => onI_d h⟩)
end
end L2.EV

set_option Elab.async false
set_option maxRecDepth 100000
set_option maxHeartbeats 4000000
set_option linter.all false
/-! Statements: terms, readings, what they ask; a def's body. -/
namespace L2.EV
open PySem PySem.Spec PyProof.Rows XC XK Evl TL DL
inductive St
  | skip
  | seq (a b : St)
  | asg (i : Nat) (e : Ex)
  | asgL (i : Nat) (a : Exs)
  | asgC (i : Nat) (a b : Ex)
  | asgT (js : List Nat) (e : Ex)
  | par (i j : Nat) (a b : Ex)
  | app (i : Nat) (e : Ex)
  | ifs (t : Tx) (a b : St)
  | for_ (it : Itx) (g : Tgt) (b : St)
  | ret (e : Ex)
  | drop (e : Ex)
  | frz (i : Nat) (s : St)
def St.t (K : PySem.W.Frag) : St → TS
  | .skip => tNext
  | .seq a b => tSeq (a.t K) (b.t K)
  | .asg i e => tAsg (e.t K) (gName i)
  | .asgL i a => tAsg (tLst (a.t K)) (gName i)
  | .asgC i a b => tAsg (tOp rCat (a.t K) (b.t K)) (gName i)
  | .asgT js e => tAsg (e.t K) (gTup K js.length (gs js))
  | .par i j a b => tPar i j (tCons (a.t K) (tCons (b.t K) tNil))
  | .app i e => tDrop (tBM K "list" rAppend (tVar i) (tCons (e.t K) tNil))
  | .ifs t a b => tIfS (t.t K) (a.t K) (b.t K)
  | .for_ it g b => tFor (it.t K) (g.g K) (b.t K)
  | .ret e => tRet (e.t K)
  | .drop e => tDrop (e.t K)
  | .frz _ s => s.t K
def St.w (K : PySem.W.Frag) : St → En → Int → (En → Int → Prop) → (Vd → Int → Prop) → Prop
  | .skip, ρ, n, N, T => N ρ n
  | .seq a b, ρ, n, N, T => a.w K ρ n (fun ρ' m => b.w K ρ' m N T) T
  | .asg i e, ρ, n, N, T => i < ρ.length ∧ e.w K ρ n fun v m => N (ρ.set i (.va v)) m
  | .asgL i a, ρ, n, N, T => i < ρ.length ∧ a.w K ρ n fun ds m => ds.length ≤ 100000 ∧ N (ρ.set i (.ow (.list ds))) m
  | .asgC i a b, ρ, n, N, T => i < ρ.length ∧ asD a ρ n (a.w K ρ n) (onL fun xs m => asD b ρ m (b.w K ρ m) (onL fun ys m1 => xs.length + ys.length ≤ 100000 ∧ N (ρ.set i (.ow (.list (xs ++ ys)))) m1))
  | .asgT js e, ρ, n, N, T => e.w K ρ n (onD fun d m => wTgt (.tup js) d ρ fun ρ' => N ρ' m)
  | .par i j a b, ρ, n, N, T => i < ρ.length ∧ j < ρ.length ∧ a.w K ρ n fun v m => b.w K ρ m fun u m1 => N ((ρ.set i (.va v)).set j (.va u)) m1
  | .app i e, ρ, n, N, T => (match ρ[i]? with
    | some (.ow (.list ds)) => e.w K ρ n (onD fun d m => ds.length < 100000 ∧ N (ρ.set i (.ow (.list (ds ++ [d])))) m)
    | _ => False)
  | .ifs t a b, ρ, n, N, T => t.w K ρ n fun c m => if c = true then a.w K ρ m N T else b.w K ρ m N T
  | .for_ it g b, ρ, n, N, T => it.w K ρ n fun ds m => ∃ Inv : Nat → En → Int → Prop, Inv 0 ρ m ∧ (∀ (i : Nat) x ρ1 m1, ds[i]? = some x → Inv i ρ1 m1 → wTgt g x ρ1 fun ρ' => b.w K ρ' m1 (Inv (i + 1)) T) ∧ ∀ ρ1 m1, Inv ds.length ρ1 m1 → N ρ1 m1
  | .ret e, ρ, n, N, T => e.w K ρ n T
  | .drop e, ρ, n, N, T => e.w K ρ n fun _ m => N ρ m
  | .frz i s, ρ, n, N, T => (match ρ[i]? with
    | some (.ow d) => s.w K (ρ.set i (.va (.d d))) n N T
    | _ => s.w K ρ n N T)
section
variable {C : Cn} {n : Int} {env : List Ent} {te : TE} {g : TG} {wi : TI} {t : TS} {Nx : Int → List Ent → Prop} {Rt : SRel → Int → Prop}
theorem ts_mono2 {Nx' : Int → List Ent → Prop} {Rt' : SRel → Int → Prop} (h : TSd C n env t Nx Rt) (k : ∀ m e, Nx m e → Nx' m e) (r : ∀ R m, Rt R m → Rt' R m) : TSd C n env t Nx' Rt' := fun D σ H S q qr =>
  h D σ H S (fun σ' H' m e S' x => q σ' H' m e S' (k m e x)) fun v H' R m b po rr f => qr v H' R m b po rr (r R m f)
theorem ts_asgG {vs : List Nat} (h : EfE C n env te fun R m => ∃ d e', R = dat C.K d ∧ TgD C m env g vs d e' ∧ Nx m e') : TSd C n env (tAsg te g) Nx Rt := fun D σ H S q _ =>
  h σ H S _ fun v H1 R m b1 S1 r1 ⟨d, e', e, tg, f⟩ => by
    subst e
    exact tg σ H1 v S1 r1 _ fun σ' S' _ => q _ _ m _ S' f
theorem ts_forF {L : List PyData → Int → Prop} (hi : ItF C n env wi L) (k : ∀ q J ds m, L ds m → ItD (C.kept q) m env (fun _ H R => R J H) ds → TSd (C.kept q) m env (tFor (fun _ H R => R J H) g t) Nx Rt) : TSd C n env (tFor wi g t) Nx Rt := fun D σ H S q r =>
  itf_run hi S fun J H' kv kr ds m b S' it l => k (kv, kr) J ds m l it D σ H' S' (fun σ2 H2 m2 e2 S2 f2 => q σ2 H2 m2 e2 S2.unkeep f2) r
end
theorem St.snd : ∀ (s : St) {C : Cn} {n : Int} {env : List Ent} {ρ : En} {N : En → Int → Prop} {T : Vd → Int → Prop}, s.w C.K ρ n N T → EnR C ρ env → TSd C n env (s.t C.K) (fun m e => ∃ ρ', EnR C ρ' e ∧ N ρ' m) (Up C.K T)
  | .skip, C, n, env, ρ, N, T, h, R => ts_next ⟨ρ, R, h⟩
  | .seq a b, C, n, env, ρ, N, T, h, R => ts_seq (ts_mono (a.snd (C := C) (N := fun ρ' m => b.w C.K ρ' m N T) h R) fun m e ⟨ρ', R', h'⟩ => b.snd h' R')
  | .asg i e, C, n, env, ρ, N, T, h, R => ts_asgE (by rw [← R.1]; exact h.1) (ef_mono (e.snd h.2 R) fun Rr m ⟨v, ev, f⟩ => ⟨_, by rw [ev]; exact R.set i (s := .va v) rfl, f⟩)
  | .asgL i a, C, n, env, ρ, N, T, h, R => ts_ownN (L := fun ds m => N (ρ.set i (.ow (.list ds))) m) (by rw [← R.1]; exact h.1) (efn_lst (efa_mono (a.snd h.2 R) fun Rs m ⟨ds, e, hl, f⟩ => ⟨ds, e, hl, f⟩)) fun ds m l f => ⟨_, R.set i (s := .ow (.list ds)) ⟨l, rfl⟩, f⟩
  | .asgC i a b, C, n, env, ρ, N, T, h, R => ts_ownN (L := fun ds m => N (ρ.set i (.ow (.list ds))) m) (by rw [← R.1]; exact h.1) (efn_cat (efd_mono (asD_snd h.2 (fun F h => a.snd h R) R) fun d m h => by
      obtain ⟨xs, rfl, h⟩ := onL_d h
      exact efd_mono (asD_snd h (fun F h => b.snd h R) R) fun e k h => by
        obtain ⟨ys, rfl, h⟩ := onL_d h
        exact ⟨xs, ys, rfl, rfl, h⟩)) fun ds m l f => ⟨_, R.set i (s := .ow (.list ds)) ⟨l, rfl⟩, f⟩
  | .asgT js e, C, n, env, ρ, N, T, h, R => ts_asgG (vs := js) (ef_mono (e.snd h R) fun Rr m ⟨v, ev, f⟩ => by
      obtain ⟨d, rfl, f⟩ := onD_d f
      obtain ⟨ρ', env', tg, R', k, _⟩ := wTgt_snd (C := C) (n := m) f R
      exact ⟨d, env', ev, tg, ρ', R', k⟩)
  | .par i j a b, C, n, env, ρ, N, T, h, R => ts_parE (by rw [← R.1]; exact h.1) (by rw [← R.1]; exact h.2.1) (ea_cons (ef_mono (a.snd h.2.2 R) fun R1 m ⟨v, ev, f⟩ => ea_cons (ef_mono (b.snd f R) fun R2 m1 ⟨u, eu, f⟩ =>
      ea_nil ⟨R1, R2, rfl, _, by rw [ev, eu]; exact (R.set i (s := .va v) rfl).set j (s := .va u) rfl, f⟩)))
  | .app i e, C, n, env, ρ, N, T, h, R => by
    unfold St.w at h
    split at h
    · rename_i ds hi
      obtain ⟨en, h1, l, rfl⟩ := R.2 i _ hi
      exact ts_append h1 (ef_mono (e.snd h R) fun Rr m ⟨v, ev, f⟩ => by
        obtain ⟨d, rfl, f⟩ := onD_d f
        exact ⟨d, ev, f.1, _, R.set i (s := .ow (.list (ds ++ [d]))) ⟨l, rfl⟩, f.2⟩)
    · exact h.elim
  | .ifs t a b, C, n, env, ρ, N, T, h, R => ts_ifE (eft_mono (t.snd h R) fun c m f => by
      cases c with
      | true => exact a.snd f R
      | false => exact b.snd f R)
  | .for_ it g b, C, n, env, ρ, N, T, h, R => by
    refine ts_forF (it.snd h R) fun q J ds m hh it' => ?_
    obtain ⟨Inv, h0, hs, hd⟩ := hh
    refine ts_for it' (fun i m1 e => ∃ ρ', EnR C ρ' e ∧ Inv i ρ' m1) ⟨ρ, R, h0⟩ (fun p i d m1 e hdd ⟨ρ', R', hi⟩ => ?_) fun m1 e ⟨ρ', R', hi⟩ => ⟨ρ', R', hd ρ' m1 hi⟩
    obtain ⟨ρ2, env2, tg, R2, k, _⟩ := wTgt_snd (C := ((C.kept q).kept p)) (n := m1) (hs i d ρ' m1 hdd hi) R'
    exact ⟨g.vs, env2, tg, ts_mono (b.snd (C := ((C.kept q).kept p)) k R2) fun m2 e2 ⟨ρ3, R3, h3⟩ => ⟨ρ3, R3, h3⟩⟩
  | .ret e, C, n, env, ρ, N, T, h, R => ts_ret (e.snd h R)
  | .drop e, C, n, env, ρ, N, T, h, R => ts_drop (ef_mono (e.snd h R) fun Rr m ⟨v, ev, f⟩ => ⟨ρ, R, f⟩)
  | .frz i s, C, n, env, ρ, N, T, h, R => by
    unfold St.w at h
    split at h
    · rename_i d hi
      obtain ⟨en, h1, l, rfl⟩ := R.2 i _ hi
      exact ts_freeze h1 (s.snd h (R.set i (s := .va (.d d)) rfl))
    · exact s.snd h R
end L2.EV

set_option Elab.async false
set_option maxRecDepth 100000
set_option maxHeartbeats 4000000
set_option linter.all false
/-! A def's body from its term. -/
namespace L2.EV
open PySem PySem.Spec PyProof.Rows XC XK Evl TL DL
def envV (as : List Vd) (k : Nat) : En := as.map .va ++ List.replicate k .un
theorem envV_R {C : Cn} : ∀ (as : List Vd) (k : Nat), EnR C (envV as k) (envS (as.map (Vd.R C.K)) k) := fun as k => by
  refine ⟨by simp [envV, envS], fun i s h => ?_⟩
  unfold envV at h
  unfold envS
  rw [List.getElem?_append] at h ⊢
  simp only [List.length_map] at h ⊢
  by_cases hi : i < as.length
  · rw [if_pos hi] at h ⊢
    rw [List.getElem?_map] at h
    rw [List.getElem?_map, List.getElem?_map]
    cases q : as[i]? with
    | none => rw [q] at h; cases h
    | some v =>
      rw [q] at h
      cases h
      exact ⟨_, rfl, rfl⟩
  · rw [if_neg hi] at h ⊢
    have e : s = .un := (List.mem_replicate.mp (List.mem_of_getElem? h)).2
    have hl : i - as.length < k := by
      have := (List.getElem?_eq_some_iff.mp h).1
      simpa using this
    subst e
    exact ⟨.un, by rw [List.getElem?_replicate, if_pos hl], .inl rfl⟩
theorem EnR.cons {C : Cn} {ρ : En} {env : List Ent} {s : Sl} {e : Ent} (h : EnR C ρ env) (r : SlR C s e) : EnR C (s :: ρ) (e :: env) := by
  refine ⟨by simp [h.1], fun i t ht => ?_⟩
  cases i with
  | zero =>
    cases ht
    exact ⟨e, rfl, r⟩
  | succ i => exact h.2 i t ht
theorem defP {c : Con} {s : St} {K : PySem.W.Frag} {N : List Str} {vs : List V} {H : Hp} {Q : VK} {E : XK} (h : spC K c vs H Q E)
    (T : ∀ as G (n : Int), c.spec as G → n + c.cost ≤ 1000000 → s.w K (.pl :: envV as (N.length - (as.length + 1))) n (fun _ m => m ≤ n + c.cost ∧ G (.d .none)) (fun v m => m ≤ n + c.cost ∧ G v)) :
    s.t K { nx := fun _ H' => Q .non H', rt := Q } (start N vs) H := by
  obtain ⟨as, p, n, G, ws, rfl, hp, hv, pa, hn, hs, G0, hG0, k⟩ := h
  have l := hs.len
  have R : EnR { K := K, pl := some p, G := G, H0 := H } (.pl :: envV as (N.length - (as.length + 1))) (envS (val (.ref p) :: as.map (Vd.R K)) (N.length - (as.length + 1))) :=
    (envV_R (C := { K := K, pl := some p, G := G, H0 := H }) as _).cons (s := .pl) ⟨p, rfl, rfl⟩
  have A := at_start (K := K) (pl := some p) (n := n) (N.length - (as.length + 1)) (SAll.cons (R := val (.ref p)) (v := .ref p) rfl hs) (fun q z => by cases z; exact pa) (fun q z => by cases z; exact hp) hv
  have e : start N (.ref p :: ws) = (.ref p :: ws).map some ++ List.replicate (N.length - (as.length + 1)) none := by
    unfold start
    rw [List.length_cons, l, List.length_map]
  rw [e]
  have key := s.snd (C := { K := K, pl := some p, G := G, H0 := H }) (T as G0 n hG0 hn) R
  refine key { nx := fun _ H' => Q .non H', rt := Q } _ H A (fun σ' H' m env' S' ⟨ρ', R', hm, g⟩ => ?_) fun v H' Rr m b po rr ⟨x, ex, hm, g⟩ => ?_
  · exact k _ g _ H' S'.base ((S'.pool p rfl).le hm) Rp.non
  · subst ex
    exact k _ g v H' b ((po p rfl).le hm) rr
theorem defF {c : Con} {s : St} {K : PySem.W.Frag} {N : List Str} {vs : List V} {H : Hp} {Q : VK} {E : XK} (h : spD K c vs H Q E)
    (T : ∀ as G, c.spec as G → s.w K (envV as (N.length - as.length)) 0 (fun _ _ => G (.d .none)) (fun v _ => G v)) :
    s.t K { nx := fun _ H' => Q .non H', rt := Q } (start N vs) H := by
  obtain ⟨as, G, hv, hs, G0, hG0, k⟩ := h
  have l := hs.len
  have R : EnR { K := K, pl := none, G := G, H0 := H } (envV as (N.length - as.length)) (envS (as.map (Vd.R K)) (N.length - as.length)) := envV_R (C := { K := K, pl := none, G := G, H0 := H }) as _
  have A := at_start (K := K) (pl := none) (n := 0) (N.length - as.length) hs (fun q z => by cases z) (fun q z => by cases z) hv
  have e : start N vs = vs.map some ++ List.replicate (N.length - as.length) none := by
    unfold start
    rw [l, List.length_map]
  rw [e]
  have key := s.snd (C := { K := K, pl := none, G := G, H0 := H }) (T as G0 hG0) R
  refine key { nx := fun _ H' => Q .non H', rt := Q } _ H A (fun σ' H' m env' S' ⟨ρ', R', g⟩ => ?_) fun v H' Rr m b po rr ⟨x, ex, g⟩ => ?_
  · exact k _ g _ H' (bt_nil S'.base) Rp.non
  · subst ex
    exact k _ g v H' (bt_nil b) rr
theorem lenC {c : Con} {K : PySem.W.Frag} {ps : List Str} {vs : List V} {H : Hp} {Q : VK} {E : XK} (hl : ∀ as G, c.spec as G → as.length + 1 = ps.length) (h : spC K c vs H Q E) : vs.length = ps.length := by
  obtain ⟨as, p, n, G, ws, rfl, _, _, _, _, hs, G0, hG0, _⟩ := h
  rw [List.length_cons, hs.len, List.length_map]
  exact hl as G0 hG0
theorem lenD {c : Con} {K : PySem.W.Frag} {ps : List Str} {vs : List V} {H : Hp} {Q : VK} {E : XK} (hl : ∀ as G, c.spec as G → as.length = ps.length) (h : spD K c vs H Q E) : vs.length = ps.length := by
  obtain ⟨as, G, _, hs, G0, hG0, _⟩ := h
  rw [hs.len, List.length_map]
  exact hl as G0 hG0
end L2.EV

set_option Elab.async false
set_option maxRecDepth 100000
set_option maxHeartbeats 4000000
set_option linter.all false
/-! Pure expressions: what they come to, as data. -/
namespace L2.EV
open PySem PySem.Spec PyProof.Rows XC XK Evl TL DL
abbrev SL (l : List Str) : PyData := .list (l.map .str)
section
variable (K : PySem.W.Frag)
/-- e comes to the data d and draws nothing -/
structure Pu (e : Ex) (ρ : En) (d : PyData) : Prop where run : ∀ (n : Int) (F : Vd → Int → Prop), F (.d d) n → e.w K ρ n F
/-- the same, read now -/
structure Pr (e : Ex) (ρ : En) (d : PyData) : Prop where run : ∀ (n : Int) (G : PyData → Int → Prop), G d n → asD e ρ n (e.w K ρ n) G
structure PT (t : Tx) (ρ : En) (b : Bool) : Prop where run : ∀ (n : Int) (F : Bool → Int → Prop), F b n → t.w K ρ n F
structure PI (t : Itx) (ρ : En) (ds : List PyData) : Prop where run : ∀ (n : Int) (F : List PyData → Int → Prop), F ds n → t.w K ρ n F
structure Pss (t : Exs) (ρ : En) (ds : List PyData) : Prop where run : ∀ (n : Int) (F : List PyData → Int → Prop), F ds n → t.w K ρ n F
structure Prs (t : Exs) (ρ : En) (ds : List PyData) : Prop where run : ∀ (n : Int) (F : List PyData → Int → Prop), F ds n → t.wr K ρ n F
structure Pvs (t : Exs) (ρ : En) (vs : List Vd) : Prop where run : ∀ (n : Int) (F : List Vd → Int → Prop), F vs n → t.wv K ρ n F
structure Po (t : Exo) (ρ : En) (o : Option Int) : Prop where run : ∀ (n : Int) (F : Option Int → Int → Prop), F o n → t.w K ρ n F
/-- a list of texts, written -/
structure PsS (t : Exs) (ρ : En) (l : List Str) : Prop where to : Pss K t ρ (l.map .str)
end
section
variable {K : PySem.W.Frag} {ρ ρ' : En} {e a b : Ex} {d x y z : PyData} {ds : List PyData} {i j : Nat} {t u : Tx} {as : Exs} {s s' : Str} {l l' : List Str} {c c' : Bool} {k m n : Int} {F : Vd → Int → Prop} {G : PyData → Int → Prop} {o : Option Int}
instance : CoeFun (Pu K e ρ d) fun _ => ∀ (n : Int) (F : Vd → Int → Prop), F (.d d) n → e.w K ρ n F := ⟨Pu.run⟩
instance : CoeFun (Pr K e ρ d) fun _ => ∀ (n : Int) (G : PyData → Int → Prop), G d n → asD e ρ n (e.w K ρ n) G := ⟨Pr.run⟩
instance : CoeFun (PT K t ρ c) fun _ => ∀ (n : Int) (F : Bool → Int → Prop), F c n → t.w K ρ n F := ⟨PT.run⟩
instance {t : Itx} : CoeFun (PI K t ρ ds) fun _ => ∀ (n : Int) (F : List PyData → Int → Prop), F ds n → t.w K ρ n F := ⟨PI.run⟩
instance : CoeFun (Pss K as ρ ds) fun _ => ∀ (n : Int) (F : List PyData → Int → Prop), F ds n → as.w K ρ n F := ⟨Pss.run⟩
instance : CoeFun (Prs K as ρ ds) fun _ => ∀ (n : Int) (F : List PyData → Int → Prop), F ds n → as.wr K ρ n F := ⟨Prs.run⟩
instance {vs : List Vd} : CoeFun (Pvs K as ρ vs) fun _ => ∀ (n : Int) (F : List Vd → Int → Prop), F vs n → as.wv K ρ n F := ⟨Pvs.run⟩
instance {t : Exo} {o : Option Int} : CoeFun (Po K t ρ o) fun _ => ∀ (n : Int) (F : Option Int → Int → Prop), F o n → t.w K ρ n F := ⟨Po.run⟩
theorem asD_of (h : e.w K ρ n (onD G)) : asD e ρ n (e.w K ρ n) G := by
  cases e with
  | var i =>
    unfold Ex.w at h
    unfold asD
    dsimp only
    split at h
    · rename_i v hv
      rw [hv]
      cases v with
      | d x => exact h
      | o R => exact h.elim
    · exact h.elim
  | _ => exact h
theorem Pu.r (h : Pu K e ρ d) : Pr K e ρ d := .mk fun n G g => asD_of (h n _ g)
theorem Pu.at_ (h : Pu K e ρ d) (e' : d = x) : Pu K e ρ x := e' ▸ h
theorem pu_var (h : ρ[i]? = some (.va (.d d))) : Pu K (.var i) ρ d := .mk fun n F f => by
  unfold Ex.w
  rw [h]
  exact f
theorem pr_own (h : ρ[i]? = some (.ow d)) : Pr K (.var i) ρ d := .mk fun n G g => by
  unfold asD
  dsimp only
  rw [h]
  exact g
theorem pu_dat (h : flat d = true) : Pu K (.dat d) ρ d := .mk fun n F f => by
  unfold Ex.w
  exact ⟨h, f⟩
theorem pu_op {o : Op} (ha : Pr K a ρ x) (hb : Pr K b ρ y) (h : ∀ F : PyData → Prop, F z → wOp o x y F) : Pu K (.op o a b) ρ z := .mk fun n F f => by
  unfold Ex.w
  exact ha n _ (hb n _ (h _ f))
theorem pss_nil : Pss K .nil ρ [] := .mk fun n F f => by
  unfold Exs.w
  exact f
theorem pss_cons (h : Pu K e ρ d) (t : Pss K as ρ ds) : Pss K (.cons e as) ρ (d :: ds) := .mk fun n F f => by
  unfold Exs.w
  exact h n _ (t n _ f)
theorem pns : PsS K .nil ρ [] := ⟨pss_nil⟩
theorem pcs (h : Pu K e ρ (.str s)) (t : PsS K as ρ l) : PsS K (.cons e as) ρ (s :: l) := ⟨pss_cons h t.to⟩
theorem prs_nil : Prs K .nil ρ [] := .mk fun n F f => by
  unfold Exs.wr
  exact f
theorem prs_cons (h : Pr K e ρ d) (t : Prs K as ρ ds) : Prs K (.cons e as) ρ (d :: ds) := .mk fun n F f => by
  unfold Exs.wr
  exact h n _ (t n _ f)
theorem pvs_nil : Pvs K .nil ρ [] := .mk fun n F f => by
  unfold Exs.wv
  exact f
theorem pvs_cons {vs : List Vd} (h : Pu K e ρ d) (t : Pvs K as ρ vs) : Pvs K (.cons e as) ρ (.d d :: vs) := .mk fun n F f => by
  unfold Exs.wv
  exact h n _ (t n _ f)
theorem po_no : Po K .no ρ none := .mk fun n F f => by
  unfold Exo.w
  exact f
theorem po_at (h : Pr K e ρ (.int k)) : Po K (.at e) ρ (some k) := .mk fun n F f => by
  unfold Exo.w
  exact h n _ f
theorem pu_lst (h : Pss K as ρ ds) (hl : ds.length ≤ 100000) : Pu K (.lst as) ρ (.list ds) := .mk fun n F f => by
  unfold Ex.w
  exact h n _ ⟨hl, f⟩
theorem pl_lst (h : PsS K as ρ l) (hl : l.length ≤ 100000) : Pu K (.lst as) ρ (SL l) := pu_lst h.to (by rw [List.length_map]; exact hl)
theorem pu_tup (h : Pss K as ρ ds) (hl : ds.length ≤ 100000) : Pu K (.tup as) ρ (.tuple ds) := .mk fun n F f => by
  unfold Ex.w
  exact h n _ ⟨hl, f⟩
theorem pu_nt (h : Pr K a ρ (.bool c)) : Pu K (.nt a) ρ (.bool (!c)) := .mk fun n F f => by
  unfold Ex.w
  exact h n _ f
theorem pu_an (ha : Pr K a ρ (.bool c)) (hb : c = true → Pu K b ρ (.bool c')) : Pu K (.an a b) ρ (.bool (c && c')) := .mk fun n F f => by
  unfold Ex.w
  refine ha n _ ?_
  show if c = true then _ else _
  cases c with
  | true => exact (if_pos rfl).mpr (hb rfl n F f)
  | false => exact (if_neg (by decide)).mpr f
theorem pu_or (ha : Pr K a ρ (.bool c)) (hb : c = false → Pu K b ρ (.bool c')) : Pu K (.or a b) ρ (.bool (c || c')) := .mk fun n F f => by
  unfold Ex.w
  refine ha n _ ?_
  show if c = true then _ else _
  cases c with
  | true => exact (if_pos rfl).mpr f
  | false => exact (if_neg (by decide)).mpr (hb rfl n F f)
theorem pu_ite (ht : PT K t ρ c) (ha : c = true → Pu K a ρ x) (hb : c = false → Pu K b ρ y) : Pu K (.ite t a b) ρ (if c then x else y) := .mk fun n F f => by
  unfold Ex.w
  refine ht n _ ?_
  cases c with
  | true => exact (if_pos rfl).mpr (ha rfl n F f)
  | false => exact (if_neg (by decide)).mpr (hb rfl n F f)
theorem pl_ite (ht : PT K t ρ c) (ha : c = true → Pu K a ρ (SL l)) (hb : c = false → Pu K b ρ (SL l')) : Pu K (.ite t a b) ρ (SL (if c then l else l')) := by
  have := pu_ite ht ha hb
  cases c <;> exact this
theorem ps_ite (ht : PT K t ρ c) (ha : c = true → Pu K a ρ (.str s)) (hb : c = false → Pu K b ρ (.str s')) : Pu K (.ite t a b) ρ (.str (if c then s else s')) := by
  have := pu_ite ht ha hb
  cases c <;> exact this
theorem pu_sl {kk : Slk} {lo hi : Exo} {o1 o2 : Option Int} (ha : Pr K a ρ x) (h1 : Po K lo ρ o1) (h2 : Po K hi ρ o2) (h : ∀ F : PyData → Prop, F z → wSl kk x o1 o2 F) : Pu K (.sl kk a lo hi) ρ z := .mk fun n F f => by
  unfold Ex.w
  exact ha n _ (h1 n _ (h2 n _ (h _ f)))
theorem pu_mth {mm : Mth} (ha : Pr K a ρ (.str s)) (hs : Prs K as ρ ds) (h : ∀ F : PyData → Prop, F z → wMth mm s ds F) : Pu K (.mth mm a as) ρ z := .mk fun n F f => by
  unfold Ex.w
  exact ha n _ (hs n _ (h _ f))
theorem pu_blt {bb : Blt} (hs : Prs K as ρ ds) (h : ∀ F : PyData → Prop, F z → wBlt bb ds F) : Pu K (.blt bb as) ρ z := .mk fun n F f => by
  unfold Ex.w
  exact hs n _ (h _ f)
theorem pu_isi {T : String} (hT : T ∈ ["int", "bool", "str", "tuple"]) (ha : Pr K a ρ x) : Pu K (.isi T a) ρ (.bool (isD T x)) := .mk fun n F f => by
  unfold Ex.w
  exact ⟨hT, ha n _ f⟩
theorem pu_neg (ha : Pr K a ρ (.int k)) : Pu K (.neg a) ρ (.int (-k)) := .mk fun n F f => by
  unfold Ex.w
  exact ha n _ f
theorem pu_rp (ha : Pr K a ρ x) (h : ∀ F : Str → Prop, F s → wRep x F) : Pu K (.rp a) ρ (.str s) := .mk fun n F f => by
  unfold Ex.w
  exact ha n _ (h _ f)
theorem pu_dict0 : Pu K .dict0 ρ (.dict []) := .mk fun n F f => by
  unfold Ex.w
  exact f
theorem pu_callF {cn : Con} {vs : List Vd} (hs : Pvs K as ρ vs) (h : ∀ F : Vd → Prop, F (.d z) → cn.spec vs F) : Pu K (.callF cn as) ρ z := .mk fun n F f => by
  unfold Ex.w
  exact hs n _ (h _ f)
theorem pi_list (h : Pu K e ρ (.list ds)) : PI K (.list e) ρ ds := .mk fun n F f => by
  unfold Itx.w
  exact h n _ f
theorem pi_rng (h : Pr K e ρ (.int k)) (h1 : k ≤ 1000000) (h2 : -1000000 ≤ k) : PI K (.rng e) ρ (iota k.toNat) := .mk fun n F f => by
  unfold Itx.w
  exact h n _ ⟨h1, h2, f⟩
theorem pt_yes : PT K .yes ρ true := .mk fun n F f => by
  unfold Tx.w
  exact f
theorem pt_val (h : Pr K e ρ (.bool c)) : PT K (.val e) ρ c := .mk fun n F f => by
  unfold Tx.w
  exact h n _ f
theorem pt_cmp (h : Pr K e ρ (.bool c)) : PT K (.cmp e) ρ c := .mk fun n F f => by
  unfold Tx.w
  exact h n _ f
theorem pt_nt (h : PT K t ρ c) : PT K (.nt t) ρ (!c) := .mk fun n F f => by
  unfold Tx.w
  exact h n _ f
theorem pt_an (ha : PT K t ρ c) (hb : c = true → PT K u ρ c') : PT K (.an t u) ρ (c && c') := .mk fun n F f => by
  unfold Tx.w
  refine ha n _ ?_
  cases c with
  | true => exact (if_pos rfl).mpr (hb rfl n F f)
  | false => exact (if_neg (by decide)).mpr f
theorem pt_or (ha : PT K t ρ c) (hb : c = false → PT K u ρ c') : PT K (.or t u) ρ (c || c') := .mk fun n F f => by
  unfold Tx.w
  refine ha n _ ?_
  cases c with
  | true => exact (if_pos rfl).mpr f
  | false => exact (if_neg (by decide)).mpr (hb rfl n F f)
theorem pu_lc {it : Itx} {g : Tgt} {f : PyData → PyData} {p : PyData → Bool} (h1 : g.vs.all (noOw ρ) = true) (hi : PI K it ρ ds) (hz : ds.length ≤ 90000)
    (hs : ∀ x ∈ ds, ∃ ρ', (∀ q : En → Prop, q ρ' → wTgt g x (wipeR ρ g.vs) q) ∧ PT K t ρ' (p x) ∧ (p x = true → Pu K e ρ' (f x))) : Pu K (.lc it g t e) ρ (.list ((ds.filter p).map f)) := .mk fun n F ff => by
  unfold Ex.w
  refine ⟨h1, hi n _ ⟨hz, fun i acc m => acc = (((ds.take i).filter p).map f) ∧ m = n, ⟨by simp, rfl⟩, fun i x acc m hx ⟨ha, hm⟩ => ?_, fun acc m ⟨ha, hm⟩ => ?_⟩⟩
  · obtain ⟨ρ', h2, h3, h4⟩ := hs x (List.mem_of_getElem? hx)
    refine h2 _ (h3 m _ ?_)
    have ek : ds.take (i + 1) = ds.take i ++ [x] := by
      rw [List.take_add_one, hx]
      rfl
    subst hm
    cases hp : p x with
    | true =>
      refine (if_pos rfl).mpr (h4 hp m _ ⟨?_, rfl⟩)
      rw [ek, List.filter_append, List.map_append, ha]
      simp [hp]
    | false =>
      refine (if_neg (by decide)).mpr ⟨?_, rfl⟩
      rw [ek, List.filter_append, List.map_append, ha]
      simp [hp]
  · subst hm
    rw [ha, List.take_length]
    exact ff
/-! texts and lists of texts -/
theorem ps (h : decide (s.length ≤ 100000) = true) : Pu K (.dat (.str s)) ρ (.str s) := pu_dat h
theorem pn : Pu K (.dat (.int k)) ρ (.int k) := pu_dat rfl
theorem pbb : Pu K (.dat (.bool c)) ρ (.bool c) := pu_dat rfl
theorem pl_cat (ha : Pr K a ρ (SL l)) (hb : Pr K b ρ (SL l')) (h : l.length + l'.length ≤ 100000) : Pu K (.op .cat a b) ρ (SL (l ++ l')) :=
  pu_op ha hb fun F f => by
    refine ⟨by rw [List.length_map, List.length_map]; exact h, ?_⟩
    rw [← List.map_append]
    exact f
theorem ps_add (ha : Pr K a ρ (.str s)) (hb : Pr K b ρ (.str s')) (h : s.length + s'.length ≤ 100000) : Pu K (.op .addS a b) ρ (.str (s ++ s')) := pu_op ha hb fun F f => ⟨h, f⟩
theorem pb_in (ha : Pr K a ρ (.str s)) (hb : Pr K b ρ (SL l)) : Pu K (.op .inn a b) ρ (.bool (decide (s ∈ l))) := pu_op ha hb fun F f => ⟨l, txts_map l, f⟩
theorem pb_nin (ha : Pr K a ρ (.str s)) (hb : Pr K b ρ (SL l)) : Pu K (.op .nin a b) ρ (.bool (!decide (s ∈ l))) := pu_op ha hb fun F f => ⟨l, txts_map l, f⟩
theorem pb_eqS (ha : Pr K a ρ (.str s)) (hb : Pr K b ρ (.str s')) : Pu K (.op .eqF a b) ρ (.bool (decide (s = s'))) := pu_op ha hb fun F f => f
theorem pb_neS (ha : Pr K a ρ (.str s)) (hb : Pr K b ρ (.str s')) : Pu K (.op .neF a b) ρ (.bool (!decide (s = s'))) := pu_op ha hb fun F f => f
theorem pb_eqI (ha : Pr K a ρ (.int k)) (hb : Pr K b ρ (.int m)) : Pu K (.op .eqF a b) ρ (.bool (decide (k = m))) := pu_op ha hb fun F f => f
theorem pb_neI (ha : Pr K a ρ (.int k)) (hb : Pr K b ρ (.int m)) : Pu K (.op .neF a b) ρ (.bool (!decide (k = m))) := pu_op ha hb fun F f => f
theorem pn_add (ha : Pr K a ρ (.int k)) (hb : Pr K b ρ (.int m)) : Pu K (.op .addI a b) ρ (.int (k + m)) := pu_op ha hb fun F f => f
theorem ps_ix {r : Int} (ha : Pr K a ρ (SL l)) (hb : Pr K b ρ (.int r)) (h : atI l r = some s) : Pu K (.op .ixL a b) ρ (.str s) := pu_op ha hb fun F f => ⟨.str s, by
  unfold atI at h ⊢
  rw [List.length_map]
  cases hi : ixN l.length r with
  | none =>
    rw [hi] at h
    cases h
  | some i =>
    rw [hi] at h
    have h' : l[i]? = some s := h
    show (l.map PyData.str)[i]? = _
    rw [List.getElem?_map, h']
    rfl, f⟩
theorem pn_len (ha : Pr K a ρ (SL l)) : Pu K (.blt .len (.cons a .nil)) ρ (.int l.length) := pu_blt (prs_cons ha prs_nil) fun F f => by
  show F (.int (l.map PyData.str).length)
  rw [List.length_map]
  exact f
theorem pn_lenS (ha : Pr K a ρ (.str s)) : Pu K (.blt .len (.cons a .nil)) ρ (.int s.length) := pu_blt (prs_cons ha prs_nil) fun F f => f
theorem ps_join (ha : Pr K a ρ (.str s)) (hb : Pr K b ρ (SL l)) (h : (l.map (·.length)).sum + l.length * s.length ≤ 100000) : Pu K (.mth .join a (.cons b .nil)) ρ (.str (Txt.join s l)) :=
  pu_mth ha (prs_cons hb prs_nil) fun F f => ⟨l, txts_map l, h, f⟩
theorem pl_split (ha : Pr K a ρ (.str s)) (hb : Pr K b ρ (.str s')) (h : Sep s') (hz : s.length ≤ 99000) : Pu K (.mth .split a (.cons b .nil)) ρ (SL (Txt.split s s')) :=
  pu_mth ha (prs_cons hb prs_nil) fun F f => ⟨h, hz, f⟩
theorem ps_cut {lo hi : Exo} {o1 o2 : Option Int} (ha : Pr K a ρ (.str s)) (h1 : Po K lo ρ o1) (h2 : Po K hi ρ o2) : Pu K (.sl .str a lo hi) ρ (.str (cutS s o1 o2)) := pu_sl ha h1 h2 fun F f => f
/-- f x for the texts x of a list of which p holds -/
theorem pl_lc {it : Itx} {f : Str → Str} {p : Str → Bool} (h1 : noOw ρ j = true) (hj : j < ρ.length) (hi : PI K it ρ (l.map .str)) (hz : l.length ≤ 90000)
    (hs : ∀ x ∈ l, PT K t ((ρ.set j .un).set j (.va (.d (.str x)))) (p x) ∧ (p x = true → Pu K e ((ρ.set j .un).set j (.va (.d (.str x)))) (.str (f x)))) : Pu K (.lc it (.name j) t e) ρ (SL ((l.filter p).map f)) := by
  have key := pu_lc (K := K) (ρ := ρ) (it := it) (g := .name j) (t := t) (e := e) (ds := l.map .str)
    (f := fun d => match d with | .str s => .str (f s) | d => d) (p := fun d => match d with | .str s => p s | _ => true) (by simp [Tgt.vs, h1]) hi (by rw [List.length_map]; exact hz) fun x hx => by
      obtain ⟨s, hs', rfl⟩ := List.mem_map.mp hx
      obtain ⟨h3, h4⟩ := hs s hs'
      refine ⟨(ρ.set j .un).set j (.va (.d (.str s))), fun q hq => ⟨?_, hq⟩, h3, h4⟩
      show j < (ρ.set j .un).length
      rw [List.length_set]
      exact hj
  refine key.at_ ?_
  rw [List.filter_map, List.map_map, SL, List.map_map]
  rfl
theorem pl_map {it : Itx} {f : Str → Str} (h1 : noOw ρ j = true) (hj : j < ρ.length) (hi : PI K it ρ (l.map .str)) (hz : l.length ≤ 90000)
    (hs : ∀ x ∈ l, Pu K e ((ρ.set j .un).set j (.va (.d (.str x)))) (.str (f x))) : Pu K (.lc it (.name j) .yes e) ρ (SL (l.map f)) := by
  have := pl_lc (K := K) (f := f) (p := fun _ => true) h1 hj hi hz (t := .yes) fun x hx => ⟨pt_yes, fun _ => hs x hx⟩
  rwa [List.filter_eq_self.mpr (fun _ _ => rfl)] at this
theorem pl_filter {it : Itx} {p : Str → Bool} (h1 : noOw ρ j = true) (hj : j < ρ.length) (hi : PI K it ρ (l.map .str)) (hz : l.length ≤ 90000)
    (hs : ∀ x ∈ l, PT K t ((ρ.set j .un).set j (.va (.d (.str x)))) (p x)) : Pu K (.lc it (.name j) t (.var j)) ρ (SL (l.filter p)) := by
  have := pl_lc (K := K) (f := id) (p := p) h1 hj hi hz (t := t) (e := .var j) fun x hx => ⟨hs x hx, fun _ => pu_var (by rw [List.getElem?_set_self (by rw [List.length_set]; exact hj)]; rfl)⟩
  rwa [List.map_id] at this
/-! draws -/
theorem w_draw (hp : ρ[i]? = some .pl) (h : Pr K e ρ (.int m)) (h1 : 1 ≤ m) (h2 : m < 1073741824) (h3 : n ≤ 1000000) (k : ∀ r, 0 ≤ r → r < m → F (.d (.int r)) (n + 1)) : (Ex.draw i e).w K ρ n F := by
  unfold Ex.w
  exact ⟨hp, h n _ ⟨h1, h2, h3, k⟩⟩
theorem w_pick (hp : ρ[i]? = some .pl) (h : Pr K e ρ (SL l)) (h1 : l ≠ []) (h2 : l.length ≤ 100000) (h3 : n ≤ 1000000) (k : ∀ s ∈ l, F (.d (.str s)) (n + 1)) : (Ex.pick i e).w K ρ n F := by
  unfold Ex.w
  refine ⟨hp, h n _ ⟨fun z => h1 (List.map_eq_nil_iff.mp z), by rw [List.length_map]; exact h2, h3, fun c hc => ?_⟩⟩
  obtain ⟨s, hs, rfl⟩ := List.mem_map.mp hc
  exact k s hs
theorem w_op {o : Op} (h : asD a ρ n (a.w K ρ n) fun d m => asD b ρ m (b.w K ρ m) fun e k => wOp o d e fun f => F (.d f) k) : (Ex.op o a b).w K ρ n F := by
  unfold Ex.w
  exact h
theorem w_callP {cn : Con} (hp : ρ[i]? = some .pl) (h : as.wv K ρ n fun vs m => m + cn.cost ≤ 1000000 ∧ cn.spec vs fun v => F v (m + cn.cost)) : (Ex.callP cn i as).w K ρ n F := by
  unfold Ex.w
  exact ⟨hp, h⟩
theorem wv_cons {vs : List Vd → Int → Prop} (h : e.w K ρ n fun v m => as.wv K ρ m fun r k => vs (v :: r) k) : (Exs.cons e as).wv K ρ n vs := by
  unfold Exs.wv
  exact h
theorem wv_nil {vs : List Vd → Int → Prop} (h : vs [] n) : Exs.nil.wv K ρ n vs := by
  unfold Exs.wv
  exact h
theorem ws_cons {vs : List PyData → Int → Prop} (h : e.w K ρ n (onD fun d m => as.w K ρ m fun r k => vs (d :: r) k)) : (Exs.cons e as).w K ρ n vs := by
  unfold Exs.w
  exact h
theorem ws_nil {vs : List PyData → Int → Prop} (h : vs [] n) : Exs.nil.w K ρ n vs := by
  unfold Exs.w
  exact h
theorem w_lst (h : as.w K ρ n fun ds m => ds.length ≤ 100000 ∧ F (.d (.list ds)) m) : (Ex.lst as).w K ρ n F := by
  unfold Ex.w
  exact h
theorem w_tup (h : as.w K ρ n fun ds m => ds.length ≤ 100000 ∧ F (.d (.tuple ds)) m) : (Ex.tup as).w K ρ n F := by
  unfold Ex.w
  exact h
theorem wr_cons {vs : List PyData → Int → Prop} (h : asD e ρ n (e.w K ρ n) fun d m => as.wr K ρ m fun r k => vs (d :: r) k) : (Exs.cons e as).wr K ρ n vs := by
  unfold Exs.wr
  exact h
theorem wr_nil {vs : List PyData → Int → Prop} (h : vs [] n) : Exs.nil.wr K ρ n vs := by
  unfold Exs.wr
  exact h
theorem w_mth {mm : Mth} (ha : Pr K a ρ (.str s)) (h : as.wr K ρ n fun ds m => wMth mm s ds fun f => F (.d f) m) : (Ex.mth mm a as).w K ρ n F := by
  unfold Ex.w
  exact ha n _ h
/-- l and one more -/
def Ap (l : List Str) (P : List Str → Int → Prop) : PyData → Int → Prop := fun y m => ∃ l', l.map PyData.str ++ [y] = l'.map PyData.str ∧ P l' m
theorem ap_str {P : List Str → Int → Prop} (h : P (l ++ [s]) m) : Ap l P (.str s) m := ⟨l ++ [s], by rw [List.map_append]; rfl, h⟩
/-- a comprehension of texts with draws -/
theorem w_lcS {it : Itx} (Inv : Nat → List Str → Int → Prop) (h1 : noOw ρ j = true) (hj : j < ρ.length) (hi : PI K it ρ ds) (hz : ds.length ≤ 90000) (h0 : Inv 0 [] n)
    (hs : ∀ (i : Nat) x l m, ds[i]? = some x → Inv i l m → e.w K ((ρ.set j .un).set j (.va (.d x))) m (onD (Ap l (Inv (i + 1))))) (hk : ∀ l m, Inv ds.length l m → F (.d (SL l)) m) : (Ex.lc it (.name j) .yes e).w K ρ n F := by
  unfold Ex.w
  refine ⟨by simp [Tgt.vs, h1], hi n _ ⟨hz, fun i acc m => ∃ l : List Str, acc = l.map .str ∧ Inv i l m, ⟨[], rfl, h0⟩, fun i x acc m hx ⟨l, hl, iv⟩ => ⟨?_, ?_⟩, fun acc m ⟨l, hl, iv⟩ => ?_⟩⟩
  · show j < (ρ.set j .un).length
    rw [List.length_set]
    exact hj
  · show Tx.yes.w K _ _ _
    unfold Tx.w
    refine (if_pos rfl).mpr ?_
    subst hl
    exact hs i x l m hx iv
  · rw [hl]
    exact hk l m iv
/-! statements -/
variable {N : En → Int → Prop} {T : Vd → Int → Prop} {p q : St}
theorem sw_seq (h : p.w K ρ n (fun ρ' m => q.w K ρ' m N T) T) : (St.seq p q).w K ρ n N T := h
theorem sw_asg (hi : i < ρ.length) (h : e.w K ρ n fun v m => N (ρ.set i (.va v)) m) : (St.asg i e).w K ρ n N T := ⟨hi, h⟩
theorem sw_asgP (hi : i < ρ.length) (h : Pu K e ρ d) (k : N (ρ.set i (.va (.d d))) n) : (St.asg i e).w K ρ n N T := ⟨hi, h n _ k⟩
theorem sw_if (h : t.w K ρ n fun c m => if c = true then p.w K ρ m N T else q.w K ρ m N T) : (St.ifs t p q).w K ρ n N T := h
theorem sw_ifP (h : PT K t ρ c) (h1 : c = true → p.w K ρ n N T) (h2 : c = false → q.w K ρ n N T) : (St.ifs t p q).w K ρ n N T := h n _ (by
  cases c with
  | true => exact (if_pos rfl).mpr (h1 rfl)
  | false => exact (if_neg (by decide)).mpr (h2 rfl))
theorem sw_ret (h : e.w K ρ n T) : (St.ret e).w K ρ n N T := h
theorem sw_retP (h : Pu K e ρ d) (k : T (.d d) n) : (St.ret e).w K ρ n N T := h n _ k
theorem sw_skip (h : N ρ n) : St.skip.w K ρ n N T := h
end
end L2.EV

set_option Elab.async false
set_option maxRecDepth 100000
set_option maxHeartbeats 4000000
set_option linter.all false
/-! Texts and their signs. -/
namespace L2.K06
open PySem PySem.Spec PyProof.Rows XK Evl XC TL
/-- a word's letters -/
def lowS (z : Str) : Prop := ∀ c ∈ z.cps.toList, 97 ≤ c ∧ c ≤ 122
/-- signs that a drawn word may have -/
def signS (z : Str) : Prop := ∀ c ∈ z.cps.toList, 32 ≤ c ∧ c < 127
theorem low_sign {z : Str} (h : lowS z) : signS z := fun c hc => by
  have := h c hc
  omega
theorem join_signs : ∀ zs : List Nat, joinL [] ((zs.map fun c => (⟨#[c]⟩ : Str)).map tl) = zs
  | [] => rfl
  | [c] => rfl
  | c :: d :: zs => by
    have ih := join_signs (d :: zs)
    simp only [List.map_cons, joinL, List.nil_append] at ih ⊢
    rw [ih]
    rfl
theorem tl_signs (zs : List Nat) : tl (Txt.join Str.empty (zs.map fun c => (⟨#[c]⟩ : Str))) = zs := by
  rw [join_eq, tl_join]
  exact join_signs zs
theorem sum_one : ∀ zs : List Nat, ((zs.map fun c => (⟨#[c]⟩ : Str)).map (·.length)).sum = zs.length
  | [] => rfl
  | c :: zs => by
    rw [List.map_cons, List.map_cons, List.sum_cons, sum_one zs, List.length_cons]
    show 1 + zs.length = _
    omega
theorem sign_app {x y : Str} (hx : signS x) (hy : signS y) : signS (x ++ y) := fun c hc => by
  have hc' : c ∈ tl (x ++ y) := hc
  rw [tl_append, List.mem_append] at hc'
  rcases hc' with h | h
  · exact hx c h
  · exact hy c h
theorem low_app {x y : Str} (hx : lowS x) (hy : lowS y) : lowS (x ++ y) := fun c hc => by
  have hc' : c ∈ tl (x ++ y) := hc
  rw [tl_append, List.mem_append] at hc'
  rcases hc' with h | h
  · exact hx c h
  · exact hy c h
theorem mem_cut {z : Str} {lo hi : Option Int} {c : Nat} (h : c ∈ tl (cutS z lo hi)) : c ∈ tl z := List.mem_of_mem_drop (List.mem_of_mem_take h)
theorem app_len (x y : Str) : (x ++ y).length = x.length + y.length := by
  rw [len_tl, tl_append, List.length_append, ← len_tl, ← len_tl]

end L2.K06

set_option Elab.async false
set_option maxRecDepth 100000
set_option maxHeartbeats 4000000
set_option linter.all false
/-! The law's own defs. -/
namespace L2.K06
open PySem PySem.Spec PyProof.Rows XK Evl XC TL
abbrev sLawWord : Stmt := topS 74
abbrev NLawWord : List Str := ["_law_pool_here", "_law_barred", "_law_odd", "_law_word_here", "_law_spare", "_law_size", "_law_each", "_law_k"]
theorem scLawWord : FnScope NLawWord ["_law_pool_here", "_law_barred"] (defScope sLawWord) := ⟨rfl, rfl, rfl, by decide +kernel, rfl, by decide +kernel, by decide +kernel⟩
abbrev sLawNames : Stmt := topS 75
abbrev NLawNames : List Str := ["_law_pool_here", "_law_many", "_law_found", "_law_k"]
theorem scLawNames : FnScope NLawNames ["_law_pool_here", "_law_many"] (defScope sLawNames) := ⟨rfl, rfl, rfl, by decide +kernel, rfl, by decide +kernel, by decide +kernel⟩
abbrev sLawIsRow : Stmt := topS 81
abbrev NLawIsRow : List Str := ["_law_wording", "_law_names_here", "_law_tags", "_law_halves", "_law_front", "_law_by_phone", "_law_menu", "_law_conditions", "_law_deeds", "_law_done", "_law_wrong", "_law_name", "_law_each", "_law_key"]
theorem scLawIsRow : FnScope NLawIsRow ["_law_wording", "_law_names_here", "_law_tags"] (defScope sLawIsRow) := ⟨rfl, rfl, rfl, by decide +kernel, rfl, by decide +kernel, by decide +kernel⟩
abbrev sLawLooseRow : Stmt := topS 82
abbrev NLawLooseRow : List Str := ["_law_pool_here", "_law_names_here", "_law_tags", "_law_occasions", "_law_occasion", "_law_by_phone", "_law_conditions", "_law_deeds", "_law_signs", "_law_pieces", "_law_head", "_law_mode", "_law_labels", "_law_many", "_law_more", "_law_k", "_law_sign", "_law_each"]
theorem scLawLooseRow : FnScope NLawLooseRow ["_law_pool_here", "_law_names_here", "_law_tags"] (defScope sLawLooseRow) := ⟨rfl, rfl, rfl, by decide +kernel, rfl, by decide +kernel, by decide +kernel⟩
abbrev sLawBent : Stmt := topS 83
abbrev NLawBent : List Str := ["_law_pool_here", "_law_wording", "_law_sign", "_law_words", "_law_way", "_law_at", "_law_one", "_law_two", "_law_k"]
theorem scLawBent : FnScope NLawBent ["_law_pool_here", "_law_wording"] (defScope sLawBent) := ⟨rfl, rfl, rfl, by decide +kernel, rfl, by decide +kernel, by decide +kernel⟩
abbrev sLawRight : Stmt := topS 84
abbrev NLawRight : List Str := ["_law_pool_here", "_law_entry", "_law_entries", "_law_due", "_law_told", "_law_names_here", "_law_tags", "_law_posts", "_law_bent_here", "_law_odd", "_law_at", "_law_last", "_law_k", "_law_name"]
theorem scLawRight : FnScope NLawRight ["_law_pool_here"] (defScope sLawRight) := ⟨rfl, rfl, rfl, by decide +kernel, rfl, by decide +kernel, by decide +kernel⟩
abbrev sLaw : Stmt := topS 85
abbrev NLaw : List Str := ["_law_cells", "_law_k", "_law_pool_here", "_law_turn"]
theorem scLaw : FnScope NLaw ["_law_cells"] (defScope sLaw) := ⟨rfl, rfl, rfl, by decide +kernel, rfl, by decide +kernel, by decide +kernel⟩
/-- where the law's remaining defs stand -/
structure AdrQ where
  LawCaught : Addr
  fdLawCaught : FuncData
  LawWord : Addr
  fdLawWord : FuncData
  LawNames : Addr
  fdLawNames : FuncData
  LawIsRow : Addr
  fdLawIsRow : FuncData
  LawLooseRow : Addr
  fdLawLooseRow : FuncData
  LawBent : Addr
  fdLawBent : FuncData
  LawRight : Addr
  fdLawRight : FuncData
  Law : Addr
  fdLaw : FuncData
  c1 : Addr
/-- what the top has written of them -/
structure TxtQ (K : PySem.W.Frag) (mg : Str → Option Value) (a : Adr) (q : AdrQ) : Prop extends Txt K mg a where
  gLawCaught : mg "_law_caught" = some (.ref q.LawCaught)
  kLawCaught : PySem.W.keepIn K (.ref q.LawCaught) = true
  fLawCaught : Fun K "_law_caught" "_law_caught" sLawCaught q.LawCaught q.fdLawCaught
  bLawCaught : Binds K q.fdLawCaught ["_law_act"] []
  gLawWord : mg "_law_word" = some (.ref q.LawWord)
  kLawWord : PySem.W.keepIn K (.ref q.LawWord) = true
  fLawWord : Fun K "_law_word" "_law_word" sLawWord q.LawWord q.fdLawWord
  bLawWord : Binds K q.fdLawWord ["_law_pool_here", "_law_barred"] []
  gLawNames : mg "_law_names" = some (.ref q.LawNames)
  kLawNames : PySem.W.keepIn K (.ref q.LawNames) = true
  fLawNames : Fun K "_law_names" "_law_names" sLawNames q.LawNames q.fdLawNames
  bLawNames : Binds K q.fdLawNames ["_law_pool_here", "_law_many"] []
  gLawIsRow : mg "_law_is_row" = some (.ref q.LawIsRow)
  kLawIsRow : PySem.W.keepIn K (.ref q.LawIsRow) = true
  fLawIsRow : Fun K "_law_is_row" "_law_is_row" sLawIsRow q.LawIsRow q.fdLawIsRow
  bLawIsRow : Binds K q.fdLawIsRow ["_law_wording", "_law_names_here", "_law_tags"] []
  gLawLooseRow : mg "_law_loose_row" = some (.ref q.LawLooseRow)
  kLawLooseRow : PySem.W.keepIn K (.ref q.LawLooseRow) = true
  fLawLooseRow : Fun K "_law_loose_row" "_law_loose_row" sLawLooseRow q.LawLooseRow q.fdLawLooseRow
  bLawLooseRow : Binds K q.fdLawLooseRow ["_law_pool_here", "_law_names_here", "_law_tags"] []
  gLawBent : mg "_law_bent" = some (.ref q.LawBent)
  kLawBent : PySem.W.keepIn K (.ref q.LawBent) = true
  fLawBent : Fun K "_law_bent" "_law_bent" sLawBent q.LawBent q.fdLawBent
  bLawBent : Binds K q.fdLawBent ["_law_pool_here", "_law_wording"] []
  gLawRight : mg "_law_right" = some (.ref q.LawRight)
  kLawRight : PySem.W.keepIn K (.ref q.LawRight) = true
  fLawRight : Fun K "_law_right" "_law_right" sLawRight q.LawRight q.fdLawRight
  bLawRight : Binds K q.fdLawRight ["_law_pool_here"] []
  gLaw : mg "law" = some (.ref q.Law)
  kLaw : PySem.W.keepIn K (.ref q.Law) = true
  fLaw : Fun K "law" "law" sLaw q.Law q.fdLaw
  bLaw : Binds K q.fdLaw ["_law_cells"] []
  brange : mg "range" = none
  brepr : mg "repr" = none
  bstr : mg "str" = none
  btuple : mg "tuple" = none
  cLawRight : q.fdLawRight.code = .ref q.c1
end L2.K06

set_option Elab.async false
set_option maxRecDepth 100000
set_option maxHeartbeats 4000000
set_option linter.all false
/-! A row made of words is cut back as it was made. -/
namespace L2.XK
open PySem PySem.Spec PyProof.Rows XC Evl TL
theorem same_head {c : Nat} : ∀ {u w r z : List Nat}, u ++ c :: r = w ++ z → c ∉ u → c ∉ w → (z = [] ∨ ∃ y, z = c :: y) → u = w
  | [], [], _, _, _, _, _, _ => rfl
  | [], b :: w, r, z, h, _, hw, _ => by
    injection h with h1 h2
    exact absurd (by rw [h1]; exact List.mem_cons_self) hw
  | a :: u, [], r, z, h, hu, _, hz => by
    rcases hz with rfl | ⟨y, rfl⟩
    · cases h
    · injection h with h1 h2
      exact absurd (by rw [h1]; exact List.mem_cons_self) hu
  | a :: u, b :: w, r, z, h, hu, hw, hz => by
    injection h with h1 h2
    rw [h1, same_head h2 (fun k => hu (List.mem_cons_of_mem _ k)) (fun k => hw (List.mem_cons_of_mem _ k)) hz]
theorem pre_is {S l : List Nat} (h : pre S l = true) : ∃ r, l = S ++ r := by
  unfold pre at h
  have h' : l.take S.length = S := by simpa using h
  refine ⟨l.drop S.length, ?_⟩
  have e := List.take_append_drop S.length l
  rw [h'] at e
  exact e.symm
/-- words without blanks, none behind the first one is u -/
def Words (u : List Nat) (ws : List (List Nat)) : Prop := (∀ w ∈ ws, 32 ∉ w) ∧ ∀ w ∈ ws.tail, w ≠ u
theorem head_blank {u : List Nat} : ∀ {ws : List (List Nat)} {w : List Nat} {q : List Nat}, (q = [] ∨ ∃ z, q = 32 :: z) →
    ∃ z, joinL [32] (w :: ws) ++ q = w ++ z ∧ (z = [] ∨ ∃ y, z = 32 :: y)
  | [], w, q, hq => ⟨q, rfl, hq⟩
  | r :: t, w, q, _ => ⟨32 :: (joinL [32] (r :: t) ++ q), by simp [joinL], .inr ⟨_, rfl⟩⟩
theorem words_free {u : List Nat} (h32 : 32 ∉ u) : ∀ {ws : List (List Nat)} {q : List Nat}, Words u ws → (q = [] ∨ ∃ z, q = 32 :: z) →
    ∀ i, i < (joinL [32] ws).length → pre (32 :: (u ++ [32])) ((joinL [32] ws ++ q).drop i) = false
  | [], q, _, _, i, hi => absurd hi (Nat.not_lt_zero _)
  | [w], q, hw, _, i, hi => free_of (hw.1 w List.mem_cons_self) i hi
  | w :: r :: t, q, hw, hq, i, hi => by
    have e : joinL [32] (w :: r :: t) ++ q = w ++ (32 :: (joinL [32] (r :: t) ++ q)) := by simp [joinL]
    have hl : (joinL [32] (w :: r :: t)).length = w.length + (1 + (joinL [32] (r :: t)).length) := by simp [joinL]; omega
    rw [e]
    by_cases h1 : i < w.length
    · exact free_of (hw.1 w List.mem_cons_self) i h1
    · by_cases h2 : i = w.length
      · subst h2
        rw [List.drop_left]
        cases hp : pre (32 :: (u ++ [32])) (32 :: (joinL [32] (r :: t) ++ q)) with
        | false => rfl
        | true =>
          obtain ⟨y, hy⟩ := pre_is hp
          injection hy with _ hy
          obtain ⟨z, hz, hz2⟩ := head_blank (u := u) (ws := t) (w := r) hq
          have h3 : u ++ 32 :: y = r ++ z := by
            rw [← hz, hy]
            simp
          exact absurd (same_head h3 h32 (hw.1 r (by simp)) hz2).symm (hw.2 r (by simp))
      · have h3 : i = w.length + (1 + (i - w.length - 1)) := by omega
        have e2 : (w ++ (32 :: (joinL [32] (r :: t) ++ q))).drop i = (joinL [32] (r :: t) ++ q).drop (i - w.length - 1) := by
          rw [h3, ← List.drop_drop, List.drop_left, Nat.add_comm 1, List.drop_succ_cons]
          congr 1
          omega
        rw [e2]
        refine words_free h32 ⟨fun x hx => hw.1 x (List.mem_cons_of_mem _ hx), fun x hx => hw.2 x ?_⟩ hq _ (by omega)
        exact List.mem_cons_of_mem _ hx
/-- texts made of words -/
def WordsS (u : Str) (p : Str) : Prop := ∃ ws : List (List Nat), tl p = joinL [32] ws ∧ Words (tl u) ws
theorem splW {u : List Nat} (h32 : 32 ∉ u) : ∀ {parts : List (List Nat)}, parts ≠ [] → (∀ p ∈ parts, ∃ ws, p = joinL [32] ws ∧ Words u ws) →
    spl (32 :: (u ++ [32])) 0 [] (joinL (32 :: (u ++ [32])) parts) = parts
  | [], h, _ => absurd rfl h
  | [p], _, hp => by
    obtain ⟨ws, rfl, hw⟩ := hp p List.mem_cons_self
    show spl _ 0 [] (joinL [32] ws) = _
    rw [spl_last fun i hi => by
      have z := words_free h32 (q := []) hw (.inl rfl) i hi
      rw [List.append_nil] at z
      exact z, List.nil_append]
  | p :: r :: t, _, hp => by
    obtain ⟨ws, rfl, hw⟩ := hp p List.mem_cons_self
    show spl _ 0 [] (joinL [32] ws ++ ((32 :: (u ++ [32])) ++ joinL (32 :: (u ++ [32])) (r :: t))) = _
    rw [spl_part (by simp) fun i hi => words_free h32 hw (.inr ⟨_, rfl⟩) i hi, List.nil_append, splW h32 (by simp) fun z hz => hp z (List.mem_cons_of_mem _ hz)]
/-- a separator of blanks around a word -/
structure SepW (y u : Str) : Prop where
  eq : tl y = 32 :: (tl u ++ [32])
  fr : 32 ∉ tl u
  plain : y.cps.all (· < 256) = true
theorem split_words {y u : Str} (s : SepW y u) {parts : List Str} (hne : parts ≠ []) (hp : ∀ p ∈ parts, WordsS u p) : Txt.split (Txt.join y parts) y = parts := by
  refine map_tl_inj ?_
  rw [split_spl _ y (by rw [s.eq]; simp) (kind_ok s.plain), join_eq, tl_join, s.eq]
  refine splW s.fr (fun e => hne (List.map_eq_nil_iff.mp e)) fun p h => ?_
  obtain ⟨z, hz, rfl⟩ := List.mem_map.mp h
  exact hp z hz
theorem partition_words {y u : Str} (s : SepW y u) {a b : Str} (h : WordsS u a) : Txt.partition (a ++ y ++ b) y = (a, y, b) := by
  obtain ⟨ws, e, hw⟩ := h
  rw [partition_par _ y (by rw [s.eq]; simp), tl_append, tl_append, List.append_assoc, s.eq, par_part (by simp) fun i hi => by
    rw [e] at hi ⊢
    exact words_free s.fr hw (.inr ⟨_, rfl⟩) i hi]
  show ((⟨([] ++ tl a).toArray⟩ : Str), y, (⟨(tl b).toArray⟩ : Str)) = _
  rw [List.nil_append, mk_tl, mk_tl]
theorem partition_noword {y u : Str} (s : SepW y u) {a : Str} (h : WordsS u a) : Txt.partition a y = (a, Str.empty, Str.empty) := by
  obtain ⟨ws, e, hw⟩ := h
  rw [partition_par _ y (by rw [s.eq]; simp), s.eq, par_none fun i hi => by
    rw [e] at hi ⊢
    have z := words_free s.fr (q := []) hw (.inl rfl) i hi
    rw [List.append_nil] at z
    exact z]
end L2.XK
namespace L2.KC
open PySem PySem.Spec PyProof.Rows XK Evl TL
theorem sepIf : SepW (" if " : Str) ("if" : Str) := ⟨by decide +kernel, by decide +kernel, by decide +kernel⟩
theorem sepAnd : SepW (" and " : Str) ("and" : Str) := ⟨by decide +kernel, by decide +kernel, by decide +kernel⟩
/-- the text of a row with this occasion, these conditions and deeds -/
def headT (occ : Str) (conds : List Str) : Str := if conds = [] then occ else occ ++ (" if " : Str) ++ Txt.join " and " conds
def rowT (occ : Str) (conds deeds : List Str) : Str := headT occ conds ++ (": " : Str) ++ Txt.join ", " deeds
structure RowOk (occ : Str) (conds deeds : List Str) : Prop where
  hd : 58 ∉ tl (headT occ conds)
  oc : WordsS "if" occ
  co : ∀ p ∈ conds, WordsS "and" p
  de : ∀ p ∈ deeds, 44 ∉ tl p
  ne : deeds ≠ []
theorem cut_row {occ : Str} {conds deeds : List Str} (h : RowOk occ conds deeds) : occS (rowT occ conds deeds) = occ ∧ condsS (rowT occ conds deeds) = conds ∧ deedsS (rowT occ conds deeds) = deeds := by
  have e1 : Txt.partition (rowT occ conds deeds) ": " = (headT occ conds, (": " : Str), Txt.join ", " deeds) :=
    partition_app (s := 58) (S := [32]) (by decide +kernel) h.hd
  have e2 : headS (rowT occ conds deeds) = headT occ conds := congrArg (·.1) e1
  have e3 : tailS (rowT occ conds deeds) = Txt.join ", " deeds := congrArg (·.2.2) e1
  have e4 : deedsS (rowT occ conds deeds) = deeds := by
    unfold deedsS
    rw [e3]
    exact split_join (s := 44) (S := [32]) (by decide +kernel) (by decide +kernel) h.ne h.de
  refine ⟨?_, ?_, e4⟩
  · unfold occS
    rw [e2]
    unfold headT
    split
    · rw [partition_noword sepIf h.oc]
    · rw [partition_words sepIf h.oc]
  · unfold condsS jointS restS
    rw [e2]
    unfold headT
    split
    · rename_i hc
      rw [partition_noword sepIf h.oc, hc]
      rfl
    · rename_i hc
      rw [partition_words sepIf h.oc]
      have e5 : (((" if " : Str).length : Int) != 0) = true := by decide +kernel
      show (if (((" if " : Str).length : Int) != 0) = true then _ else _) = _
      rw [if_pos e5]
      exact split_words sepAnd hc h.co
theorem row_made {occ : Str} {conds deeds words keys : List Str} (h : RowOk occ conds deeds) (h1 : conds.length ≤ 4) (h2 : deeds.length ≤ 4) (ho : occOk occ keys = true)
    (hc : ∀ c ∈ conds, condOk c occ words = true) (hd : ∀ c ∈ deeds, deedOk c occ words = true) : rowS (rowT occ conds deeds) words keys = true := by
  obtain ⟨e1, e2, e3⟩ := cut_row h
  unfold rowS
  rw [e1, e2, e3, ho]
  have a1 : decide ((conds.length : Int) > 4) = false := decide_eq_false (by omega)
  have a2 : decide ((deeds.length : Int) > 4) = false := decide_eq_false (by omega)
  rw [a1, a2, List.all_eq_true.mpr hc, List.all_eq_true.mpr hd]
  rfl
end L2.KC

set_option Elab.async false
set_option maxRecDepth 100000
set_option maxHeartbeats 4000000
set_option linter.all false
/-! Words in rows: what is taken. -/
namespace L2.KC
open PySem PySem.Spec PyProof.Rows XK Evl TL
theorem inS_iff {w : Str} {ws : List Str} : inS w ws = true ↔ w ∈ ws := by
  unfold inS inV
  rw [List.any_map, List.any_eq_true]
  constructor
  · rintro ⟨x, hx, e⟩
    have e' : (x == w) = true := e
    have := eq_of_beq e'
    rw [← this]
    exact hx
  · intro h
    exact ⟨w, h, by show (w == w) = true; exact beq_self_eq_true w⟩
theorem starts_app (x y : Str) : Txt.startswith (x ++ y) x = true := by
  by_cases hx : tl x = []
  · have hl : x.length = 0 := by rw [len_tl, hx]; rfl
    unfold Txt.startswith
    rw [hl]
    have hc : x.cps = #[] := Array.toList_eq_nil_iff.mp hx
    simp [PySem.Builtin.Str.subAt, hl, hc]
  · have h : PySem.StrLaws.At (x ++ y) x (x ++ y).length 0 := (at_iff hx 0).mpr (by rw [List.drop_zero, tl_append]; exact pre_self _ _)
    unfold Txt.startswith
    simp only [Bool.and_eq_true, decide_eq_true_eq]
    exact h
theorem cut_app (x y : Str) : cutS (x ++ y) (some (x.length : Int)) none = y := by
  refine ext_tl ?_
  unfold cutS
  have e0 : HT.sIx (x ++ y).length 0 (some (x.length : Int)) = x.length := by
    unfold HT.sIx
    have hl : (x ++ y).length = x.length + y.length := by
      rw [len_tl, tl_append, List.length_append, ← len_tl, ← len_tl]
    rw [hl]
    simp <;> omega
  have e1 : HT.sIx (x ++ y).length (x ++ y).length none = (x ++ y).length := rfl
  rw [e0, e1, tl_mk]
  show ((tl (x ++ y)).drop x.length).take ((x ++ y).length - x.length) = tl y
  rw [tl_append, len_tl x, List.drop_left, len_tl (x ++ y), tl_append, List.length_append, Nat.add_sub_cancel_left, List.take_length]
theorem name_ok {o w : Str} {ws : List Str} (h : w ∈ ws) : nameOne (o ++ w) o ws = true := by
  unfold nameOne
  rw [starts_app, cut_app, inS_iff.mpr h]
  rfl
end L2.KC

set_option Elab.async false
set_option maxRecDepth 100000
set_option maxHeartbeats 4000000
set_option linter.all false
/-! Law k06's rows are taken. -/
namespace L2.KC
open PySem PySem.Spec PyProof.Rows XK Evl TL
theorem word_letters {w : Str} (h : wordS w = true) : ∀ c ∈ tl w, 97 ≤ c ∧ c ≤ 122 := by
  unfold wordS at h
  simp only [Bool.and_eq_true] at h
  intro c hc
  have := List.all_eq_true.mp h.2.1 c hc
  rw [letterC_eq] at this
  simpa using this
theorem word_free {w : Str} (h : wordS w = true) {c : Nat} (hc : c < 97) : c ∉ tl w := fun hm => by
  have := word_letters h c hm
  omega
theorem word_parting {w : Str} (h : wordS w = true) : w ∉ wPartingWords := fun hm => by
  unfold wordS at h
  simp only [Bool.and_eq_true, Bool.not_eq_true'] at h
  rw [inS_iff.mpr hm] at h
  exact absurd h.2.2 (by decide)
theorem inS_not {w : Str} {ws : List Str} (h : w ∉ ws) : inS w ws = false := by
  cases e : inS w ws with
  | false => rfl
  | true => exact absurd (inS_iff.mp e) h
theorem heads_ne {x y : Str} (h : (tl x).head? ≠ (tl y).head?) : x ≠ y := fun e => h (by rw [e])
theorem starts_ne {x y : Str} {a b : Nat} {r s : List Nat} (hx : tl x = a :: r) (hy : tl y = b :: s) (h : a ≠ b) : Txt.startswith x y = false := by
  cases e : Txt.startswith x y with
  | false => rfl
  | true =>
    unfold Txt.startswith at e
    simp only [Bool.and_eq_true, decide_eq_true_eq] at e
    have h1 : PySem.StrLaws.At x y x.length 0 := e
    have h2 := (at_iff (by rw [hy]; simp) 0).mp h1
    rw [List.drop_zero, hx, hy, pre_of_head _ _ h] at h2
    cases h2
theorem head_app {x y : Str} {a : Nat} {r : List Nat} (h : tl x = a :: r) : (tl (x ++ y)).head? = some a := by
  rw [tl_append, h]
  rfl
def rowA (w : Str) : Str := ((("late if in " : Str) ++ w) ++ (": stand " : Str)) ++ w
def rowB (w : Str) : Str := (("key " : Str) ++ w) ++ (": a me, hear" : Str)
theorem rowA_eq (w : Str) : rowA w = rowT "late" [("in " : Str) ++ w] [("stand " : Str) ++ w] := by
  refine ext_tl ?_
  unfold rowA rowT headT
  rw [if_neg (by simp), join_eq, join_eq]
  simp only [tl_append, tl_join, List.map, joinL]
  have e1 : tl ("late if in " : Str) = tl ("late" : Str) ++ (tl (" if " : Str) ++ tl ("in " : Str)) := by decide +kernel
  have e2 : tl (": stand " : Str) = tl (": " : Str) ++ tl ("stand " : Str) := by decide +kernel
  rw [e1, e2]
  simp only [List.append_assoc]
theorem rowB_eq (w : Str) : rowB w = rowT (("key " : Str) ++ w) [] ["a me", "hear"] := by
  refine ext_tl ?_
  unfold rowB rowT headT
  rw [if_pos rfl, join_eq]
  simp only [tl_append, tl_join, List.map, joinL]
  have e1 : tl (": a me, hear" : Str) = tl (": " : Str) ++ (tl ("a me" : Str) ++ (tl (", " : Str) ++ tl ("hear" : Str))) := by decide +kernel
  rw [e1]
  simp only [List.append_assoc]
theorem two_words {u a w : Str} (ha : 32 ∉ tl a) (hw : 32 ∉ tl w) (hu : w ≠ u) {x : Str} (e : tl x = tl a ++ (32 :: tl w)) : WordsS u x :=
  ⟨[tl a, tl w], by rw [e]; rfl, fun y hy => by
    rcases List.mem_cons.mp hy with rfl | hy
    · exact ha
    · rw [List.mem_singleton.mp hy]
      exact hw, fun y hy => by
    rw [List.mem_singleton.mp hy]
    exact fun z => hu (ext_tl z)⟩
theorem one_word {u x : Str} (h : 32 ∉ tl x) : WordsS u x := ⟨[tl x], rfl, fun y hy => by
  rw [List.mem_singleton.mp hy]
  exact h, fun y hy => by cases hy⟩
theorem rowA_ok {w : Str} {words keys : List Str} (h : wordS w = true) (hm : w ∈ words) : rowS (rowA w) words keys = true := by
  have f32 := word_free h (c := 32) (by decide)
  have f58 := word_free h (c := 58) (by decide)
  have f44 := word_free h (c := 44) (by decide)
  have np := word_parting h
  have nAnd : w ≠ ("and" : Str) := fun z => np (by rw [z]; exact List.mem_cons_self)
  rw [rowA_eq]
  refine row_made ⟨?_, one_word (by decide +kernel), fun p hp => ?_, fun p hp => ?_, by simp⟩ (by simp) (by simp) ?_ (fun c hc => ?_) fun c hc => ?_
  · unfold headT
    rw [if_neg (by simp), join_eq]
    simp only [tl_append, tl_join, List.map, joinL, List.mem_append, not_or]
    refine ⟨⟨by decide +kernel, by decide +kernel⟩, by decide +kernel, f58⟩
  · rw [List.mem_singleton.mp hp]
    refine two_words (a := "in") (by decide +kernel) f32 nAnd ?_
    rw [tl_append]
    have e1 : tl ("in " : Str) = tl ("in" : Str) ++ [32] := by decide +kernel
    rw [e1]
    simp
  · rw [List.mem_singleton.mp hp, tl_append, List.mem_append, not_or]
    exact ⟨by decide +kernel, f44⟩
  · unfold occOk
    have : inS ("late" : Str) wPlainOccasions = true := by decide +kernel
    rw [this]
    rfl
  · rw [List.mem_singleton.mp hc]
    have hd : (tl (("in " : Str) ++ w)).head? = some 105 := head_app (r := [110, 32]) (by decide +kernel)
    have e1 : plainS (("in " : Str) ++ w) = ("in " : Str) ++ w := by
      unfold plainS
      rw [if_neg]
      rw [starts_ne (a := 105) (b := 110) (r := [110, 32] ++ tl w) (s := [111, 116, 32]) (by rw [tl_append, show tl ("in " : Str) = [105, 110, 32] by decide +kernel]; rfl) (by decide +kernel) (by decide)]
      decide
    unfold condOk
    rw [e1, if_neg, name_ok hm, Bool.or_true]
    rw [inS_not]
    · decide
    · intro z
      simp only [wPhoneConditions, List.mem_cons, List.not_mem_nil, or_false] at z
      rcases z with z | z | z <;> (rw [z] at hd; revert hd; decide +kernel)
  · rw [List.mem_singleton.mp hc]
    have hd : (tl (("stand " : Str) ++ w)).head? = some 115 := head_app (r := [116, 97, 110, 100, 32]) (by decide +kernel)
    unfold deedOk
    rw [if_neg, if_neg, name_ok hm, Bool.or_true]
    · rw [inS_not]
      · decide
      · intro z
        simp only [wKeyDeeds, List.mem_cons, List.not_mem_nil, or_false] at z
        rcases z with z | z <;> (rw [z] at hd; revert hd; decide +kernel)
    · rw [inS_not]
      · decide
      · intro z
        simp only [wPhoneDeeds, List.mem_cons, List.not_mem_nil, or_false] at z
        rcases z with z | z <;> (rw [z] at hd; revert hd; decide +kernel)
theorem rowB_ok {w : Str} {words keys : List Str} (h : wordS w = true) (hm : w ∈ keys) : rowS (rowB w) words keys = true := by
  have f32 := word_free h (c := 32) (by decide)
  have f58 := word_free h (c := 58) (by decide)
  have np := word_parting h
  have nIf : w ≠ ("if" : Str) := fun z => np (by rw [z]; exact List.mem_cons_of_mem _ List.mem_cons_self)
  have kk : keyS (("key " : Str) ++ w) = true := starts_app _ _
  rw [rowB_eq]
  refine row_made ⟨?_, ?_, fun p hp => (by cases hp), fun p hp => ?_, by simp⟩ (by simp) (by simp) ?_ (fun c hc => (by cases hc)) fun c hc => ?_
  · unfold headT
    rw [if_pos rfl, tl_append, List.mem_append, not_or]
    exact ⟨by decide +kernel, f58⟩
  · refine two_words (a := "key") (by decide +kernel) f32 nIf ?_
    rw [tl_append]
    have e1 : tl ("key " : Str) = tl ("key" : Str) ++ [32] := by decide +kernel
    rw [e1]
    simp
  · simp only [List.mem_cons, List.not_mem_nil, or_false] at hp
    rcases hp with rfl | rfl <;> decide +kernel
  · unfold occOk
    rw [name_ok hm, Bool.or_true]
  · simp only [List.mem_cons, List.not_mem_nil, or_false] at hc
    rcases hc with rfl | rfl
    · unfold deedOk
      rw [if_pos (by decide +kernel)]
      unfold phoneS
      rw [kk, Bool.or_true]
    · unfold deedOk
      rw [if_neg (by decide +kernel), if_pos (by decide +kernel)]
      exact kk
end L2.KC

set_option Elab.async false
set_option maxRecDepth 100000
set_option maxHeartbeats 4000000
set_option linter.all false
/-! A text cut at a separator: by partition and by split. -/
namespace L2.XK
open PySem PySem.Spec PyProof.Rows TL
theorem first_or (S : List Nat) : ∀ l : List Nat, (∀ i, i < l.length → pre S (l.drop i) = false) ∨ ∃ p r, l = p ++ (S ++ r) ∧ ∀ i, i < p.length → pre S ((p ++ (S ++ r)).drop i) = false
  | [] => .inl fun i h => by simp at h
  | c :: l => by
    cases h : pre S (c :: l) with
    | true =>
      obtain ⟨r, e⟩ := pre_is h
      exact .inr ⟨[], r, e, fun i hi => by simp at hi⟩
    | false =>
      rcases first_or S l with k | ⟨p, r, e, k⟩
      · refine .inl fun i hi => ?_
        cases i with
        | zero => exact h
        | succ i => exact k i (by simpa using hi)
      · refine .inr ⟨c :: p, r, by rw [e]; rfl, fun i hi => ?_⟩
        cases i with
        | zero =>
          rw [e] at h
          exact h
        | succ i => exact k i (by simpa using hi)
theorem cut_or {y : Str} (s : Sep y) (x : Str) : (Txt.partition x y = (x, Str.empty, Str.empty) ∧ Txt.split x y = [x]) ∨ ∃ a b, x = a ++ y ++ b ∧ Txt.partition x y = (a, y, b) ∧ Txt.split x y = a :: Txt.split b y := by
  have hs : ∀ x, (Txt.split x y).map tl = spl (tl y) 0 [] (tl x) := fun x => split_spl x y s.ne (kind_ok s.plain)
  rcases first_or (tl y) (tl x) with k | ⟨p, r, e, k⟩
  · refine .inl ⟨?_, map_tl_inj ?_⟩
    · rw [partition_par _ y s.ne, par_none k]
    · rw [hs, spl_last k, List.nil_append]
      rfl
  · refine .inr ⟨⟨p.toArray⟩, ⟨r.toArray⟩, ext_tl ?_, ?_, map_tl_inj ?_⟩
    · refine e.trans ?_
      rw [tl_append, tl_append, List.append_assoc]
    · rw [partition_par _ y s.ne, e, par_part s.ne k, List.nil_append]
    · rw [hs, e, spl_part s.ne k, List.nil_append, List.map_cons, hs, tl_mk, tl_mk]
theorem split_ne {y : Str} (s : Sep y) (x : Str) : Txt.split x y ≠ [] := by
  rcases cut_or s x with ⟨_, h⟩ | ⟨a, b, _, _, h⟩ <;> rw [h] <;> simp
theorem join_split {y : Str} (s : Sep y) : ∀ (n : Nat) (x : Str), x.length ≤ n → Txt.join y (Txt.split x y) = x := fun n => by
  induction n with
  | zero =>
    intro x hx
    rcases cut_or s x with ⟨_, h⟩ | ⟨a, b, e, _, h⟩
    · rw [h, join_eq]
      exact ext_tl (by rw [tl_join]; rfl)
    · exfalso
      have := s.len
      rw [beq_eq_false_iff_ne] at this
      rw [e, len_tl, tl_append, tl_append, List.length_append, List.length_append, ← len_tl y] at hx
      omega
  | succ n ih =>
    intro x hx
    rcases cut_or s x with ⟨_, h⟩ | ⟨a, b, e, _, h⟩
    · rw [h, join_eq]
      exact ext_tl (by rw [tl_join]; rfl)
    · have hl := s.len
      rw [beq_eq_false_iff_ne] at hl
      have hx' := hx
      rw [e, len_tl, tl_append, tl_append, List.length_append, List.length_append, ← len_tl y, ← len_tl b] at hx'
      have ihb := ih b (by omega)
      rw [h]
      refine ext_tl ?_
      have ihb' := congrArg tl ihb
      rw [join_eq, tl_join] at ihb' ⊢
      cases q : Txt.split b y with
      | nil => exact absurd q (split_ne s b)
      | cons z zs =>
        rw [q] at ihb'
        have e2 : joinL (tl y) (List.map tl (a :: z :: zs)) = tl a ++ (tl y ++ joinL (tl y) (List.map tl (z :: zs))) := rfl
        rw [e2, ihb', e, tl_append, tl_append, List.append_assoc]
theorem join_split' {y : Str} (s : Sep y) (x : Str) : Txt.join y (Txt.split x y) = x := join_split s x.length x (Nat.le_refl _)
/-- a sign that stands in no part and not in the separator stands nowhere -/
theorem joinL_free {c : Nat} {S : List Nat} (hS : c ∉ S) : ∀ {l : List (List Nat)}, (∀ p ∈ l, c ∉ p) → c ∉ joinL S l
  | [], _ => by simp [joinL]
  | [p], h => h p List.mem_cons_self
  | p :: r :: t, h => by
    show c ∉ p ++ (S ++ joinL S (r :: t))
    rw [List.mem_append, List.mem_append]
    rintro (z | z | z)
    · exact h p List.mem_cons_self z
    · exact hS z
    · exact joinL_free hS (fun q hq => h q (List.mem_cons_of_mem _ hq)) z
theorem starts_is {x y : Str} (h : Txt.startswith x y = true) (hy : tl y ≠ []) : ∃ z, x = y ++ z := by
  unfold Txt.startswith at h
  simp only [Bool.and_eq_true, decide_eq_true_eq] at h
  have h1 : PySem.StrLaws.At x y x.length 0 := h
  have h2 := (at_iff hy 0).mp h1
  rw [List.drop_zero] at h2
  obtain ⟨r, e⟩ := pre_is h2
  exact ⟨⟨r.toArray⟩, ext_tl (e.trans (by rw [tl_append]))⟩
/-- words, none of which is u -/
def WordsA (u : Str) (p : Str) : Prop := ∃ ws : List (List Nat), tl p = joinL [32] ws ∧ ws ≠ [] ∧ ∀ w ∈ ws, 32 ∉ w ∧ w ≠ tl u
theorem WordsA.s {u p : Str} (h : WordsA u p) : WordsS u p := by
  obtain ⟨ws, e, _, k⟩ := h
  exact ⟨ws, e, fun w hw => (k w hw).1, fun w hw => (k w (List.mem_of_mem_tail hw)).2⟩
theorem joinL_two {S : List Nat} {A : List (List Nat)} (hA : A ≠ []) : ∀ {l : List (List Nat)}, l ≠ [] → joinL S l ++ (S ++ joinL S A) = joinL S (l ++ A)
  | [], h => absurd rfl h
  | [p], _ => by
    cases A with
    | nil => exact absurd rfl hA
    | cons a A => rfl
  | p :: r :: t, _ => by
    show (p ++ (S ++ joinL S (r :: t))) ++ _ = p ++ (S ++ joinL S (r :: t ++ A))
    rw [← joinL_two hA (l := r :: t) (by simp)]
    simp only [List.append_assoc]
theorem wordsA_join {y u v : Str} (s : SepW y v) (hv : tl v ≠ tl u) : ∀ {l : List Str}, l ≠ [] → (∀ p ∈ l, WordsA u p) → WordsA u (Txt.join y l)
  | [], h, _ => absurd rfl h
  | [p], _, h => by
    obtain ⟨ws, e, k⟩ := h p List.mem_cons_self
    exact ⟨ws, by rw [join_eq, tl_join]; exact e, k⟩
  | p :: r :: t, _, h => by
    obtain ⟨ws, e, ne, k⟩ := h p List.mem_cons_self
    obtain ⟨ws', e', ne', k'⟩ := wordsA_join s hv (l := r :: t) (by simp) fun q hq => h q (List.mem_cons_of_mem _ hq)
    refine ⟨ws ++ (tl v :: ws'), ?_, by simp, fun w hw => ?_⟩
    · rw [join_eq, tl_join] at e' ⊢
      show tl p ++ (tl y ++ joinL (tl y) (List.map tl (r :: t))) = _
      rw [e', e, s.eq]
      have e1 : ∀ z : List Nat, 32 :: (tl v ++ [32]) ++ z = [32] ++ (tl v ++ ([32] ++ z)) := fun z => by simp
      rw [e1]
      have e2 : tl v ++ ([32] ++ joinL [32] ws') = joinL [32] (tl v :: ws') := by
        cases ws' with
        | nil => exact absurd rfl ne'
        | cons a A => rfl
      rw [e2]
      exact joinL_two (by simp) ne
    · rcases List.mem_append.mp hw with hw | hw
      · exact k w hw
      · rcases List.mem_cons.mp hw with rfl | hw
        · exact ⟨s.fr, hv⟩
        · exact k' w hw
end L2.XK
namespace L2.KC
open PySem PySem.Spec PyProof.Rows XK Evl TL
theorem nameOne_iff {t o : Str} {ws : List Str} (ho : tl o ≠ []) : nameOne t o ws = true ↔ t ∈ ws.map (o ++ ·) := by
  constructor
  · intro h
    unfold nameOne at h
    rw [Bool.and_eq_true] at h
    obtain ⟨z, rfl⟩ := starts_is h.1 ho
    rw [cut_app] at h
    exact List.mem_map.mpr ⟨z, inS_iff.mp h.2, rfl⟩
  · intro h
    obtain ⟨w, hw, rfl⟩ := List.mem_map.mp h
    exact name_ok hw
end L2.KC

set_option Elab.async false
set_option maxRecDepth 100000
set_option maxHeartbeats 4000000
set_option linter.all false
/-! The law's own look at a row is the program's. -/
namespace L2.KC
open PySem PySem.Spec PyProof.Rows XK Evl TL
def byPh (occ : Str) (tags : List Str) : Bool := decide (occ = "lay") || decide (occ ∈ tags.map (("key " : Str) ++ ·))
def baseC : List Str := ["caller", "joined", "a", "b", "ear a", "ear b"]
def phC : List Str := ["me a", "me b", "busy"]
def menuC0 (names : List Str) (ph : Bool) : List Str := (baseC ++ names.map (("in " : Str) ++ ·)) ++ (if ph then phC else [])
def menuC (names : List Str) (ph : Bool) : List Str := menuC0 names ph ++ (menuC0 names ph).map (("not " : Str) ++ ·)
def baseD : List Str := ["a none", "a some", "b none", "b some", "swap", "deaf", "part"]
def menuD (names : List Str) (ph key : Bool) : List Str := ((baseD ++ names.map (("stand " : Str) ++ ·)) ++ (if ph then (["a me", "b me"] : List Str) else [])) ++ (if ph && key then (["hear", "join"] : List Str) else [])
def plainOcc : List Str := ["call", "gone", "late"]
/-- what the law looks at, behind the halves -/
def lawIn (occ : Str) (front : Nat) (conds deeds : List Str) (names tags : List Str) : Bool :=
  !(decide (2 < front) || (!byPh occ tags && !decide (occ ∈ plainOcc))) &&
  (!(decide (4 < conds.length) || decide (4 < deeds.length)) &&
    decide (conds.filter (fun c => !decide (c ∈ menuC names (byPh occ tags))) ++ deeds.filter (fun c => !decide (c ∈ menuD names (byPh occ tags) (!decide (occ = "lay")))) = []))
def lawRow (s : Str) (names tags : List Str) : Bool := match Txt.split s ": " with
  | [h, t] => match Txt.split h " if " with
    | [] => false
    | o :: r => lawIn o (r.length + 1) (match r with
      | [c] => Txt.split c " and "
      | _ => []) (Txt.split t ", ") names tags
  | _ => false
theorem occ_iff (occ : Str) (tags : List Str) : occOk occ tags = (byPh occ tags || decide (occ ∈ plainOcc)) := by
  have h : occOk occ tags = true ↔ (byPh occ tags || decide (occ ∈ plainOcc)) = true := by
    unfold occOk byPh
    rw [Bool.or_eq_true, inS_iff, nameOne_iff (by decide +kernel), Bool.or_eq_true, Bool.or_eq_true, decide_eq_true_eq, decide_eq_true_eq, decide_eq_true_eq]
    unfold wPlainOccasions plainOcc
    simp only [List.mem_cons, List.not_mem_nil, or_false]
    constructor
    · rintro ((h | h | h | h) | h)
      · exact .inr (.inl h)
      · exact .inr (.inr (.inl h))
      · exact .inr (.inr (.inr h))
      · exact .inl (.inl h)
      · exact .inl (.inr h)
    · rintro ((h | h) | (h | h | h))
      · exact .inl (.inr (.inr (.inr h)))
      · exact .inr h
      · exact .inl (.inl h)
      · exact .inl (.inr (.inl h))
      · exact .inl (.inr (.inr (.inl h)))
  exact Bool.eq_iff_iff.mpr h
theorem key_app (w : Str) : keyS (("key " : Str) ++ w) = true := starts_app _ _
theorem phone_iff {occ : Str} {tags : List Str} (h : occOk occ tags = true) : phoneS occ = byPh occ tags ∧ keyS occ = (byPh occ tags && !decide (occ = "lay")) := by
  rw [occ_iff, Bool.or_eq_true, decide_eq_true_eq] at h
  have kl : keyS "lay" = false := by decide +kernel
  have el : decide (V.str occ = V.str "lay") = decide (occ = "lay") := decide_eq_decide.mpr ⟨fun e => by cases e; rfl, fun e => by rw [e]⟩
  unfold phoneS
  rw [el]
  by_cases hl : occ = "lay"
  · subst hl
    have : byPh "lay" tags = true := by unfold byPh; rfl
    rw [this, kl]
    exact ⟨rfl, rfl⟩
  · rw [decide_eq_false hl, Bool.false_or]
    have e : byPh occ tags = decide (occ ∈ tags.map (("key " : Str) ++ ·)) := by
      unfold byPh
      rw [decide_eq_false hl, Bool.false_or]
    rw [e]
    by_cases hk : occ ∈ tags.map (("key " : Str) ++ ·)
    · rw [decide_eq_true hk]
      obtain ⟨w, _, rfl⟩ := List.mem_map.mp hk
      rw [key_app]
      exact ⟨rfl, rfl⟩
    · rw [decide_eq_false hk]
      rcases h with h | h
      · rw [e, decide_eq_false hk] at h
        cases h
      · unfold plainOcc at h
        simp only [List.mem_cons, List.not_mem_nil, or_false] at h
        rcases h with rfl | rfl | rfl
        · exact ⟨by decide +kernel, by decide +kernel⟩
        · exact ⟨by decide +kernel, by decide +kernel⟩
        · exact ⟨by decide +kernel, by decide +kernel⟩
theorem no_not : ∀ z ∈ baseC ++ phC, Txt.startswith z "not " = false := by decide +kernel
theorem in_not (w : Str) : Txt.startswith (("in " : Str) ++ w) "not " = false :=
  starts_ne (a := 105) (b := 110) (r := [110, 32] ++ tl w) (s := [111, 116, 32]) (by rw [tl_append, show tl ("in " : Str) = [105, 110, 32] by decide +kernel]; rfl) (by decide +kernel) (by decide)
theorem menu0_not {names : List Str} {ph : Bool} {z : Str} (h : z ∈ menuC0 names ph) : Txt.startswith z "not " = false := by
  unfold menuC0 at h
  rcases List.mem_append.mp h with h | h
  · rcases List.mem_append.mp h with h | h
    · exact no_not z (List.mem_append_left _ h)
    · obtain ⟨w, _, rfl⟩ := List.mem_map.mp h
      exact in_not w
  · cases ph with
    | true => exact no_not z (List.mem_append_right _ h)
    | false => cases h
theorem plain_menu {names : List Str} {occ : Str} {ph : Bool} {z : Str} (hp : phoneS occ = ph) : (if inS z wPhoneConditions then phoneS occ else inS z wLineConditions || nameOne z "in " names) = decide (z ∈ menuC0 names ph) := by
  have e1 : inS z wPhoneConditions = decide (z ∈ phC) := Bool.eq_iff_iff.mpr (by rw [inS_iff, decide_eq_true_eq]; exact Iff.rfl)
  have e2 : inS z wLineConditions = decide (z ∈ baseC) := Bool.eq_iff_iff.mpr (by rw [inS_iff, decide_eq_true_eq]; exact Iff.rfl)
  have e3 : nameOne z "in " names = decide (z ∈ names.map (("in " : Str) ++ ·)) := Bool.eq_iff_iff.mpr (by rw [nameOne_iff (by decide +kernel), decide_eq_true_eq])
  rw [e1, e2, e3, hp]
  have dis : z ∈ phC → z ∉ baseC ∧ z ∉ names.map (("in " : Str) ++ ·) := by
    intro h
    have hd : ∀ z ∈ phC, z ∉ baseC ∧ (tl z).head? ≠ some 105 := by decide +kernel
    refine ⟨(hd z h).1, fun hm => ?_⟩
    obtain ⟨w, _, rfl⟩ := List.mem_map.mp hm
    exact (hd _ h).2 (head_app (r := [110, 32]) (by decide +kernel))
  unfold menuC0
  by_cases h : z ∈ phC
  · obtain ⟨d1, d2⟩ := dis h
    rw [decide_eq_true h, if_pos rfl]
    cases ph with
    | true => exact (decide_eq_true (List.mem_append_right _ h)).symm
    | false =>
      refine (decide_eq_false ?_).symm
      rw [List.mem_append, List.mem_append]
      rintro ((k | k) | k)
      · exact d1 k
      · exact d2 k
      · cases k
  · rw [decide_eq_false h, if_neg (by decide)]
    refine Bool.eq_iff_iff.mpr ?_
    rw [Bool.or_eq_true, decide_eq_true_eq, decide_eq_true_eq, decide_eq_true_eq, List.mem_append, List.mem_append]
    constructor
    · exact fun k => .inl k
    · rintro (k | k)
      · exact k
      · cases ph with
        | true => exact absurd k h
        | false => cases k
theorem cond_iff {names : List Str} {occ : Str} {ph : Bool} {c : Str} (hp : phoneS occ = ph) : condOk c occ names = decide (c ∈ menuC names ph) := by
  unfold condOk
  rw [plain_menu hp]
  unfold plainS menuC
  by_cases h : Txt.startswith c "not " = true
  · rw [if_pos h]
    obtain ⟨z, rfl⟩ := starts_is h (by decide +kernel)
    rw [cut_app]
    refine decide_eq_decide.mpr ⟨fun k => List.mem_append_right _ (List.mem_map.mpr ⟨z, k, rfl⟩), fun k => ?_⟩
    rcases List.mem_append.mp k with k | k
    · rw [menu0_not k] at h
      cases h
    · obtain ⟨w, hw, e⟩ := List.mem_map.mp k
      have e' : tl (("not " : Str) ++ w) = tl (("not " : Str) ++ z) := congrArg tl e
      rw [tl_append, tl_append] at e'
      rw [← ext_tl (List.append_cancel_left e')]
      exact hw
  · rw [if_neg h]
    refine decide_eq_decide.mpr ⟨fun k => List.mem_append_left _ k, fun k => ?_⟩
    rcases List.mem_append.mp k with k | k
    · exact k
    · obtain ⟨w, hw, rfl⟩ := List.mem_map.mp k
      exact absurd (starts_app _ _) h
theorem deed_iff {names : List Str} {occ : Str} {ph key : Bool} {c : Str} (hp : phoneS occ = ph) (hk : keyS occ = (ph && key)) : deedOk c occ names = decide (c ∈ menuD names ph key) := by
  have e1 : inS c wPhoneDeeds = decide (c ∈ (["a me", "b me"] : List Str)) := Bool.eq_iff_iff.mpr (by rw [inS_iff, decide_eq_true_eq]; exact Iff.rfl)
  have e2 : inS c wKeyDeeds = decide (c ∈ (["hear", "join"] : List Str)) := Bool.eq_iff_iff.mpr (by rw [inS_iff, decide_eq_true_eq]; exact Iff.rfl)
  have e3 : inS c wLineDeeds = decide (c ∈ baseD) := Bool.eq_iff_iff.mpr (by rw [inS_iff, decide_eq_true_eq]; exact Iff.rfl)
  have e4 : nameOne c "stand " names = decide (c ∈ names.map (("stand " : Str) ++ ·)) := Bool.eq_iff_iff.mpr (by rw [nameOne_iff (by decide +kernel), decide_eq_true_eq])
  unfold deedOk
  rw [e1, e2, e3, e4, hp, hk]
  have hd : ∀ z ∈ (["a me", "b me", "hear", "join"] : List Str), z ∉ baseD ∧ (tl z).head? ≠ some 115 := by decide +kernel
  have dis : c ∈ (["a me", "b me", "hear", "join"] : List Str) → c ∉ baseD ∧ c ∉ names.map (("stand " : Str) ++ ·) := by
    intro h
    refine ⟨(hd c h).1, fun hm => ?_⟩
    obtain ⟨w, _, rfl⟩ := List.mem_map.mp hm
    exact (hd _ h).2 (head_app (r := [116, 97, 110, 100, 32]) (by decide +kernel))
  have two : ∀ z ∈ (["a me", "b me"] : List Str), z ∉ (["hear", "join"] : List Str) := by decide +kernel
  unfold menuD
  by_cases h : c ∈ (["a me", "b me"] : List Str)
  · obtain ⟨d1, d2⟩ := dis (by
      simp only [List.mem_cons, List.not_mem_nil, or_false] at h ⊢
      rcases h with h | h
      · exact .inl h
      · exact .inr (.inl h))
    rw [decide_eq_true h, if_pos rfl]
    cases ph with
    | true => exact (decide_eq_true (List.mem_append_left _ (List.mem_append_right _ h))).symm
    | false =>
      refine (decide_eq_false ?_).symm
      rw [List.mem_append, List.mem_append, List.mem_append]
      rintro (((k | k) | k) | k)
      · exact d1 k
      · exact d2 k
      · cases k
      · cases k
  · rw [decide_eq_false h, if_neg (by decide)]
    by_cases h2 : c ∈ (["hear", "join"] : List Str)
    · obtain ⟨d1, d2⟩ := dis (by
        simp only [List.mem_cons, List.not_mem_nil, or_false] at h2 ⊢
        rcases h2 with h | h
        · exact .inr (.inr (.inl h))
        · exact .inr (.inr (.inr h)))
      rw [decide_eq_true h2, if_pos rfl]
      cases q : (ph && key) with
      | true => exact (decide_eq_true (List.mem_append_right _ h2)).symm
      | false =>
        refine (decide_eq_false ?_).symm
        rw [List.mem_append, List.mem_append, List.mem_append]
        rintro (((k | k) | k) | k)
        · exact d1 k
        · exact d2 k
        · cases ph with
          | true => exact h k
          | false => cases k
        · cases k
    · rw [decide_eq_false h2, if_neg (by decide)]
      refine Bool.eq_iff_iff.mpr ?_
      rw [Bool.or_eq_true, decide_eq_true_eq, decide_eq_true_eq, decide_eq_true_eq, List.mem_append, List.mem_append, List.mem_append]
      constructor
      · exact fun k => .inl (.inl k)
      · rintro ((k | k) | k)
        · exact k
        · cases ph with
          | true => exact absurd k h
          | false => cases k
        · cases q : (ph && key) with
          | true =>
            rw [q] at k
            exact absurd k h2
          | false =>
            rw [q] at k
            cases k
/-! what the menus hold -/
theorem wordsA_lit : ∀ z ∈ baseC ++ phC, WordsA "if" z := by
  have h : ∀ z ∈ baseC ++ phC, ∃ ws : List (List Nat), ws ∈ ([[tl "caller"], [tl "joined"], [tl "a"], [tl "b"], [tl "ear", tl "a"], [tl "ear", tl "b"], [tl "me", tl "a"], [tl "me", tl "b"], [tl "busy"]] : List (List (List Nat))) ∧ tl z = joinL [32] ws ∧ ws ≠ [] ∧ ∀ w ∈ ws, 32 ∉ w ∧ w ≠ tl ("if" : Str) := by decide +kernel
  intro z hz
  obtain ⟨ws, _, h1, h2, h3⟩ := h z hz
  exact ⟨ws, h1, h2, h3⟩
theorem word_if {w : Str} (h : wordS w = true) : 32 ∉ tl w ∧ tl w ≠ tl ("if" : Str) := by
  refine ⟨word_free h (by decide), fun e => word_parting h ?_⟩
  rw [ext_tl e]
  decide +kernel
theorem menu0_words {names : List Str} {ph : Bool} (hn : ∀ n ∈ names, wordS n = true) {z : Str} (h : z ∈ menuC0 names ph) : WordsA "if" z := by
  unfold menuC0 at h
  rcases List.mem_append.mp h with h | h
  · rcases List.mem_append.mp h with h | h
    · exact wordsA_lit z (List.mem_append_left _ h)
    · obtain ⟨w, hw, rfl⟩ := List.mem_map.mp h
      refine ⟨[tl ("in" : Str), tl w], ?_, by simp, fun x hx => ?_⟩
      · show tl (("in " : Str) ++ w) = tl ("in" : Str) ++ ([32] ++ tl w)
        rw [tl_append, show tl ("in " : Str) = tl ("in" : Str) ++ [32] by decide +kernel, List.append_assoc]
      · simp only [List.mem_cons, List.not_mem_nil, or_false] at hx
        rcases hx with rfl | rfl
        · decide +kernel
        · exact word_if (hn w hw)
  · cases ph with
    | true => exact wordsA_lit z (List.mem_append_right _ h)
    | false => cases h
theorem menu_words {names : List Str} {ph : Bool} (hn : ∀ n ∈ names, wordS n = true) {z : Str} (h : z ∈ menuC names ph) : WordsA "if" z := by
  unfold menuC at h
  rcases List.mem_append.mp h with h | h
  · exact menu0_words hn h
  · obtain ⟨w, hw, rfl⟩ := List.mem_map.mp h
    obtain ⟨ws, e, ne, k⟩ := menu0_words hn hw
    refine ⟨tl ("not" : Str) :: ws, ?_, by simp, fun x hx => ?_⟩
    · rw [tl_append, e, show tl ("not " : Str) = tl ("not" : Str) ++ [32] by decide +kernel, List.append_assoc]
      cases ws with
      | nil => exact absurd rfl ne
      | cons a A => rfl
    · rcases List.mem_cons.mp hx with rfl | hx
      · decide +kernel
      · exact k x hx
theorem menuD_free {names : List Str} {ph key : Bool} (hn : ∀ n ∈ names, wordS n = true) {z : Str} (h : z ∈ menuD names ph key) : 58 ∉ tl z := by
  have lit : ∀ z ∈ baseD ++ (["a me", "b me", "hear", "join"] : List Str), 58 ∉ tl z := by decide +kernel
  unfold menuD at h
  rcases List.mem_append.mp h with h | h
  · rcases List.mem_append.mp h with h | h
    · rcases List.mem_append.mp h with h | h
      · exact lit z (List.mem_append_left _ h)
      · obtain ⟨w, hw, rfl⟩ := List.mem_map.mp h
        rw [tl_append, List.mem_append]
        rintro (k | k)
        · exact absurd k (by decide +kernel)
        · exact word_free (hn w hw) (by decide) k
    · cases ph with
      | true =>
        refine lit z (List.mem_append_right _ ?_)
        simp only [List.mem_cons, List.not_mem_nil, or_false, if_true] at h ⊢
        rcases h with h | h
        · exact .inl h
        · exact .inr (.inl h)
      | false => cases h
  · cases q : (ph && key) with
    | true =>
      rw [q] at h
      refine lit z (List.mem_append_right _ ?_)
      simp only [List.mem_cons, List.not_mem_nil, or_false, if_true] at h ⊢
      rcases h with h | h
      · exact .inr (.inr (.inl h))
      · exact .inr (.inr (.inr h))
    | false =>
      rw [q] at h
      cases h
end L2.KC

set_option Elab.async false
set_option maxRecDepth 100000
set_option maxHeartbeats 4000000
set_option linter.all false
/-! The law's own look at a row is the program's: the whole row. -/
namespace L2.KC
open PySem PySem.Spec PyProof.Rows XK Evl TL
theorem filter_all (l : List Str) (m : List Str) : (l.filter fun c => !decide (c ∈ m)) = [] ↔ ∀ c ∈ l, c ∈ m := by
  rw [List.filter_eq_nil_iff]
  exact ⟨fun h c hc => by simpa using h c hc, fun h c hc => by simpa using h c hc⟩
/-- behind the cuts both are the same -/
theorem in_eq {occ : Str} {conds deeds names tags : List Str} {front : Nat} (hf : front ≤ 2) :
    lawIn occ front conds deeds names tags = (!(decide ((conds.length : Int) > 4) || (decide ((deeds.length : Int) > 4) || !occOk occ tags)) && (conds.all (fun c => condOk c occ names) && deeds.all fun c => deedOk c occ names)) := by
  unfold lawIn
  have e0 : decide (2 < front) = false := decide_eq_false (by omega)
  have e1 : decide ((conds.length : Int) > 4) = decide (4 < conds.length) := decide_eq_decide.mpr (by omega)
  have e2 : decide ((deeds.length : Int) > 4) = decide (4 < deeds.length) := decide_eq_decide.mpr (by omega)
  rw [e0, e1, e2, Bool.false_or]
  cases ho : occOk occ tags with
  | false =>
    have h := ho
    rw [occ_iff, Bool.or_eq_false_iff] at h
    rw [h.1, h.2]
    simp
  | true =>
    have h := ho
    rw [occ_iff] at h
    have e3 : (!byPh occ tags && !decide (occ ∈ plainOcc)) = false := by
      rw [← Bool.not_or, h]
      rfl
    rw [e3]
    obtain ⟨p1, p2⟩ := phone_iff ho
    have e4 : decide (conds.filter (fun c => !decide (c ∈ menuC names (byPh occ tags))) ++ deeds.filter (fun c => !decide (c ∈ menuD names (byPh occ tags) (!decide (occ = "lay")))) = []) =
        (conds.all (fun c => condOk c occ names) && deeds.all fun c => deedOk c occ names) := by
      refine Bool.eq_iff_iff.mpr ?_
      rw [decide_eq_true_eq, List.append_eq_nil_iff, filter_all, filter_all, Bool.and_eq_true, List.all_eq_true, List.all_eq_true]
      refine and_congr (forall_congr' fun c => imp_congr_right fun _ => ?_) (forall_congr' fun c => imp_congr_right fun _ => ?_)
      · rw [cond_iff p1, decide_eq_true_eq]
      · rw [deed_iff p1 p2, decide_eq_true_eq]
    rw [e4]
    simp [Bool.and_assoc]
/-- what a good row's parts are -/
theorem good_parts {occ : Str} {conds deeds names tags : List Str} (h : (!(decide ((conds.length : Int) > 4) || (decide ((deeds.length : Int) > 4) || !occOk occ tags)) && (conds.all (fun c => condOk c occ names) && deeds.all fun c => deedOk c occ names)) = true) :
    (∀ c ∈ conds, c ∈ menuC names (byPh occ tags)) ∧ ∀ c ∈ deeds, c ∈ menuD names (byPh occ tags) (!decide (occ = "lay")) := by
  rw [Bool.and_eq_true, Bool.and_eq_true] at h
  obtain ⟨h1, h2, h3⟩ := h
  have ho : occOk occ tags = true := by
    cases q : occOk occ tags with
    | true => rfl
    | false =>
      rw [q] at h1
      simp at h1
  obtain ⟨p1, p2⟩ := phone_iff ho
  refine ⟨fun c hc => ?_, fun c hc => ?_⟩
  · have := List.all_eq_true.mp h2 c hc
    rw [cond_iff p1, decide_eq_true_eq] at this
    exact this
  · have := List.all_eq_true.mp h3 c hc
    rw [deed_iff p1 p2, decide_eq_true_eq] at this
    exact this
theorem free_last {y x : Str} (s : Sep y) {c : Nat} {S : List Nat} (hy : tl y = c :: S) (h : c ∉ tl x) : Txt.split x y = [x] := by
  rcases cut_or s x with ⟨_, e⟩ | ⟨a, b, e, _, _⟩
  · exact e
  · exfalso
    rw [e, tl_append, tl_append, hy] at h
    exact h (by simp)
theorem words_last {x : Str} (h : WordsA "if" x) : Txt.split x " if " = [x] := by
  rcases cut_or sep2 x with ⟨_, e⟩ | ⟨a, b, e, k, _⟩
  · exact e
  · exfalso
    rw [partition_noword sepIf h.s] at k
    have : Str.empty = (" if " : Str) := congrArg (fun p => p.2.1) k
    exact absurd this (by decide +kernel)
theorem rowS_parts (s : Str) (names tags : List Str) : rowS s names tags = (!(decide (((condsS s).length : Int) > 4) || (decide (((deedsS s).length : Int) > 4) || !occOk (occS s) tags)) && ((condsS s).all (fun c => condOk c (occS s) names) && (deedsS s).all fun c => deedOk c (occS s) names)) := rfl
theorem lawRow_eq {s : Str} {names tags : List Str} (hn : ∀ n ∈ names, wordS n = true) : lawRow s names tags = rowS s names tags := by
  have j1 : (((Str.empty).length : Int) != 0) = false := by decide +kernel
  have j2 : (((" if " : Str).length : Int) != 0) = true := by decide +kernel
  rcases cut_or sep1 s with ⟨p1, e1⟩ | ⟨h, t, es, p1, e1⟩
  · have eL : lawRow s names tags = false := by
      unfold lawRow
      rw [e1]
    rw [eL]
    have ht : tailS s = Str.empty := by unfold tailS; rw [p1]
    have hd : deedsS s = [Str.empty] := by
      unfold deedsS
      rw [ht]
      decide +kernel
    cases q : rowS s names tags with
    | false => rfl
    | true =>
      rw [rowS_parts] at q
      have k := (good_parts q).2 Str.empty (by rw [hd]; exact List.mem_singleton_self _)
      exfalso
      have lit : ∀ z ∈ baseD ++ (["a me", "b me", "hear", "join"] : List Str), z ≠ Str.empty := by decide +kernel
      unfold menuD at k
      rcases List.mem_append.mp k with k | k
      · rcases List.mem_append.mp k with k | k
        · rcases List.mem_append.mp k with k | k
          · exact lit _ (List.mem_append_left _ k) rfl
          · obtain ⟨w, _, e⟩ := List.mem_map.mp k
            have e' := congrArg tl e
            rw [tl_append] at e'
            exact absurd (List.append_eq_nil_iff.mp e').1 (by decide +kernel)
        · split at k
          · exact lit _ (List.mem_append_right _ (by revert k; decide +kernel)) rfl
          · cases k
      · split at k
        · exact lit _ (List.mem_append_right _ (by revert k; decide +kernel)) rfl
        · cases k
  · have hh : headS s = h := by unfold headS; rw [p1]
    have ht : tailS s = t := by unfold tailS; rw [p1]
    have hdd : deedsS s = Txt.split t ", " := by unfold deedsS; rw [ht]
    -- the parts of the head
    have key : ∃ (o : Str) (r : List Str) (conds : List Str), occS s = o ∧ condsS s = conds ∧ Txt.split h " if " = o :: r ∧ ((r = [] ∧ conds = []) ∨ ∃ c, conds = Txt.split c " and " ∧ r = Txt.split c " if ") := by
      rcases cut_or sep2 h with ⟨p2, e2⟩ | ⟨o, c, _, p2, e2⟩
      · refine ⟨h, [], [], ?_, ?_, e2, .inl ⟨rfl, rfl⟩⟩
        · unfold occS; rw [hh, p2]
        · unfold condsS jointS; rw [hh, p2]; rfl
      · refine ⟨o, _, _, ?_, ?_, e2, .inr ⟨c, rfl, rfl⟩⟩
        · unfold occS; rw [hh, p2]
        · unfold condsS jointS restS
          rw [hh, p2]
          show (if (((" if " : Str).length : Int) != 0) = true then _ else _) = _
          rw [if_pos j2]
    obtain ⟨o, r, conds, ho, hc, hf, hr⟩ := key
    rw [rowS_parts, ho, hc, hdd]
    -- when the program's look finds it right, the cuts are the law's
    have clean : (!(decide ((conds.length : Int) > 4) || (decide (((Txt.split t ", ").length : Int) > 4) || !occOk o tags)) && (conds.all (fun c => condOk c o names) && (Txt.split t ", ").all fun c => deedOk c o names)) = true →
        Txt.split t ": " = [t] ∧ r.length ≤ 1 := by
      intro q
      obtain ⟨g1, g2⟩ := good_parts q
      constructor
      · refine free_last sep1 (c := 58) (S := [32]) (by decide +kernel) ?_
        have := join_split' sep4 t
        rw [← this, join_eq, tl_join]
        refine joinL_free (by decide +kernel) fun p hp => ?_
        obtain ⟨z, hz, rfl⟩ := List.mem_map.mp hp
        exact menuD_free hn (g2 z hz)
      · rcases hr with ⟨rfl, _⟩ | ⟨c, hcs, rfl⟩
        · exact Nat.zero_le _
        · have w : WordsA "if" c := by
            rw [← join_split' sep3 c]
            exact wordsA_join sepAnd (by decide +kernel) (split_ne sep3 c) fun p hp => menu_words hn (g1 p (by rw [hcs]; exact hp))
          rw [words_last w]
          exact Nat.le_refl _
    have law : lawRow s names tags = true → Txt.split t ": " = [t] ∧ r.length ≤ 1 := by
      intro q
      unfold lawRow at q
      rw [e1] at q
      cases q2 : Txt.split t ": " with
      | nil => exact absurd q2 (split_ne sep1 t)
      | cons a l =>
        cases l with
        | cons b l =>
          rw [q2] at q
          cases q
        | nil =>
          have ea : a = t := by
            have := join_split' sep1 t
            rw [q2, join_eq] at this
            refine Eq.trans (ext_tl ?_) this
            rw [tl_join]
            rfl
          subst ea
          refine ⟨rfl, ?_⟩
          rw [q2] at q
          dsimp only at q
          rw [hf] at q
          dsimp only at q
          unfold lawIn at q
          rw [Bool.and_eq_true] at q
          have q1 := q.1
          simp only [Bool.not_eq_true', Bool.or_eq_false_iff, decide_eq_false_iff_not] at q1
          omega
    by_cases good : Txt.split t ": " = [t] ∧ r.length ≤ 1
    · obtain ⟨g1, g2⟩ := good
      have e : lawRow s names tags = lawIn o (r.length + 1) conds (Txt.split t ", ") names tags := by
        unfold lawRow
        rw [e1, g1]
        dsimp only
        rw [hf]
        dsimp only
        congr 1
        rcases hr with ⟨rfl, rfl⟩ | ⟨c, rfl, rfl⟩
        · rfl
        · cases q : Txt.split c " if " with
          | nil => exact absurd q (split_ne sep2 c)
          | cons a l =>
            rw [q] at g2
            have : l = [] := List.length_eq_zero_iff.mp (by simpa using g2)
            subst this
            dsimp only
            have := join_split' sep2 c
            rw [q, join_eq] at this
            have ea : a = c := Eq.trans (ext_tl (by rw [tl_join]; rfl)) this
            rw [ea]
      rw [e]
      exact in_eq (by omega)
    · have x1 : lawRow s names tags = false := by
        cases q : lawRow s names tags with
        | false => rfl
        | true => exact absurd (law q) good
      rw [x1]
      cases q : (!(decide ((conds.length : Int) > 4) || (decide (((Txt.split t ", ").length : Int) > 4) || !occOk o tags)) && (conds.all (fun c => condOk c o names) && (Txt.split t ", ").all fun c => deedOk c o names)) with
      | false => rfl
      | true => exact absurd (clean q) good
end L2.KC

set_option Elab.async false
set_option maxRecDepth 100000
set_option maxHeartbeats 4000000
set_option linter.all false
/-! More combinators: tests with draws, loops, appends, calls. -/
namespace L2.EV
open PySem PySem.Spec PyProof.Rows XC XK Evl TL DL
section
variable {K : PySem.W.Frag} {ρ ρ' : En} {e a b : Ex} {d x y z : PyData} {ds : List PyData} {i j : Nat} {t u : Tx} {as : Exs} {s s' : Str} {l l' : List Str} {c c' : Bool} {k m n : Int} {F : Vd → Int → Prop} {G : PyData → Int → Prop} {o : Op}
  {N : En → Int → Prop} {T : Vd → Int → Prop} {p q : St}
theorem tt_cmp (h : Pr K e ρ (.bool c)) : PT K (.cmp e) ρ c := EV.pt_cmp h
theorem tt_val (h : Pr K e ρ (.bool c)) : PT K (.val e) ρ c := EV.pt_val h
theorem tt_nt (h : PT K t ρ c) : PT K (.nt t) ρ (!c) := EV.pt_nt h
theorem tt_an (ha : PT K t ρ c) (hb : c = true → PT K u ρ c') : PT K (.an t u) ρ (c && c') := EV.pt_an ha hb
theorem tt_or (ha : PT K t ρ c) (hb : c = false → PT K u ρ c') : PT K (.or t u) ρ (c || c') := EV.pt_or ha hb
theorem ti_list (h : Pu K e ρ (.list ds)) : PI K (.list e) ρ ds := EV.pi_list h
theorem ti_rng (h : Pr K e ρ (.int k)) (h1 : k ≤ 1000000) (h2 : -1000000 ≤ k) : PI K (.rng e) ρ (iota k.toNat) := EV.pi_rng h h1 h2
theorem tss_nil : Pss K .nil ρ [] := EV.pss_nil
theorem tss_cons (h : Pu K e ρ d) (t : Pss K as ρ ds) : Pss K (.cons e as) ρ (d :: ds) := EV.pss_cons h t
theorem ltS {l : En} (h : Nat.blt i l.length = true) : i < l.length := by
  unfold Nat.blt at h
  exact Nat.le_of_ble_eq_true h
theorem tw_cmp {B : Bool → Int → Prop} (h : e.w K ρ n (onD (onB B))) : (Tx.cmp e).w K ρ n B := by
  unfold Tx.w
  exact asD_of h
theorem tw_val {B : Bool → Int → Prop} (h : e.w K ρ n (onD (onB B))) : (Tx.val e).w K ρ n B := by
  unfold Tx.w
  exact asD_of h
/-- a draw ahead of an operator, behind it -/
theorem w_opDL (hp : ρ[i]? = some .pl) (h : Pr K e ρ (.int m)) (h1 : 1 ≤ m) (h2 : m < 1073741824) (h3 : n ≤ 1000000) (hb : Pr K b ρ x) (k : ∀ r, 0 ≤ r → r < m → wOp o (.int r) x fun f => F (.d f) (n + 1)) : (Ex.op o (.draw i e) b).w K ρ n F :=
  w_op (asD_of (w_draw hp h h1 h2 h3 fun r r0 r1 => hb (n + 1) (fun e k => wOp o (.int r) e fun f => F (.d f) k) (k r r0 r1)))
theorem w_opDR (hp : ρ[i]? = some .pl) (ha : Pr K a ρ x) (h : Pr K e ρ (.int m)) (h1 : 1 ≤ m) (h2 : m < 1073741824) (h3 : n ≤ 1000000) (k : ∀ r, 0 ≤ r → r < m → wOp o x (.int r) fun f => F (.d f) (n + 1)) : (Ex.op o a (.draw i e)).w K ρ n F :=
  w_op (ha n _ (asD_of (w_draw hp h h1 h2 h3 fun r r0 r1 => k r r0 r1)))
theorem w_opPR (hp : ρ[i]? = some .pl) (ha : Pr K a ρ x) (h : Pr K e ρ (SL l)) (h1 : l ≠ []) (h2 : l.length ≤ 100000) (h3 : n ≤ 1000000) (k : ∀ s ∈ l, wOp o x (.str s) fun f => F (.d f) (n + 1)) : (Ex.op o a (.pick i e)).w K ρ n F :=
  w_op (ha n _ (asD_of (w_pick hp h h1 h2 h3 fun s hs => k s hs)))
theorem w_opR (ha : Pr K a ρ x) (h : b.w K ρ n (onD fun d m => wOp o x d fun f => F (.d f) m)) : (Ex.op o a b).w K ρ n F := w_op (ha n _ (asD_of h))
theorem w_callPP {cn : Con} {vs : List Vd} (hp : ρ[i]? = some .pl) (hs : Pvs K as ρ vs) (hm : n + cn.cost ≤ 1000000) (h : cn.spec vs fun v => F v (n + cn.cost)) : (Ex.callP cn i as).w K ρ n F :=
  w_callP hp (hs n _ ⟨hm, h⟩)
/-- ''.join([.. for ..]) with draws -/
theorem w_joinLc {it : Itx} (Inv : Nat → List Str → Int → Prop) (ha : Pr K a ρ (.str s)) (h1 : noOw ρ j = true) (hj : j < ρ.length) (hi : PI K it ρ ds) (hz : ds.length ≤ 90000) (h0 : Inv 0 [] n)
    (hs : ∀ (i : Nat) x l m, ds[i]? = some x → Inv i l m → e.w K ((ρ.set j .un).set j (.va (.d x))) m (onD (Ap l (Inv (i + 1))))) (hk : ∀ l m, Inv ds.length l m → (l.map (·.length)).sum + l.length * s.length ≤ 100000 ∧ F (.d (.str (Txt.join s l))) m) :
    (Ex.mth .join a (.cons (.lc it (.name j) .yes e) .nil)).w K ρ n F :=
  w_mth ha (wr_cons (asD_of (w_lcS Inv h1 hj hi hz h0 hs fun l m iv => (wr_nil (vs := fun r k => wMth .join s (SL l :: r) fun f => F (.d f) k) ⟨l, txts_map l, (hk l m iv).1, (hk l m iv).2⟩ : Exs.nil.wr K ρ m fun r k => wMth .join s (SL l :: r) fun f => F (.d f) k))))
theorem ws_draw {vs : List PyData → Int → Prop} (hp : ρ[i]? = some .pl) (h : Pr K e ρ (.int m)) (h1 : 1 ≤ m) (h2 : m < 1073741824) (h3 : n ≤ 1000000) (k : ∀ r, 0 ≤ r → r < m → as.w K ρ (n + 1) fun ds k => vs (.int r :: ds) k) : (Exs.cons (.draw i e) as).w K ρ n vs :=
  ws_cons (w_draw hp h h1 h2 h3 fun r r0 r1 => k r r0 r1)
theorem ws_pu {vs : List PyData → Int → Prop} (h : Pu K e ρ d) (k : as.w K ρ n fun ds k => vs (d :: ds) k) : (Exs.cons e as).w K ρ n vs := ws_cons (h n _ k)
theorem ws_callP {vs : List PyData → Int → Prop} {cn : Con} {bs : Exs} {us : List Vd} (hp : ρ[i]? = some .pl) (hs : Pvs K bs ρ us) (hm : n + cn.cost ≤ 1000000) (h : cn.spec us fun v => onD (fun d m => as.w K ρ m fun r k => vs (d :: r) k) v (n + cn.cost)) : (Exs.cons (.callP cn i bs) as).w K ρ n vs :=
  ws_cons (w_callPP hp hs hm h)
/-! statements -/
theorem sw_for {it : Itx} {g : Tgt} (Inv : Nat → En → Int → Prop) (hi : PI K it ρ ds) (h0 : Inv 0 ρ n) (hs : ∀ (i : Nat) x ρ1 m1, ds[i]? = some x → Inv i ρ1 m1 → wTgt g x ρ1 fun ρ' => p.w K ρ' m1 (Inv (i + 1)) T) (hd : ∀ ρ1 m1, Inv ds.length ρ1 m1 → N ρ1 m1) :
    (St.for_ it g p).w K ρ n N T := hi n _ ⟨Inv, h0, hs, hd⟩
theorem sw_forR (Inv : Nat → En → Int → Prop) (h : Pr K e ρ (.int k)) (h1 : k ≤ 1000000) (h2 : -1000000 ≤ k) (h0 : Inv 0 ρ n) (hl : ∀ i ρ1 m1, Inv i ρ1 m1 → j < ρ1.length) (hs : ∀ (i : Nat) ρ1 m1, i < k.toNat → Inv i ρ1 m1 → p.w K (ρ1.set j (.va (.d (.int i)))) m1 (Inv (i + 1)) T)
    (hd : ∀ ρ1 m1, Inv k.toNat ρ1 m1 → N ρ1 m1) : (St.for_ (.rng e) (.name j) p).w K ρ n N T :=
  sw_for Inv (pi_rng h h1 h2) h0 (fun i x ρ1 m1 hx iv => by
    obtain ⟨rfl, hi⟩ := iota_at hx
    exact ⟨hl i ρ1 m1 iv, hs i ρ1 m1 hi iv⟩) fun ρ1 m1 iv => hd ρ1 m1 (by rw [iota_len] at iv; exact iv)
theorem sw_app (h : ρ[i]? = some (.ow (.list ds))) (k : e.w K ρ n (onD fun d m => ds.length < 100000 ∧ N (ρ.set i (.ow (.list (ds ++ [d])))) m)) : (St.app i e).w K ρ n N T := by
  unfold St.w
  rw [h]
  exact k
theorem sl_app : l.map PyData.str ++ [PyData.str s] = (l ++ [s]).map PyData.str := by rw [List.map_append]; rfl
theorem sw_frz (h : ρ[i]? = some (.ow d)) (k : p.w K (ρ.set i (.va (.d d))) n N T) : (St.frz i p).w K ρ n N T := by
  unfold St.w
  rw [h]
  exact k
theorem sw_par (hi : i < ρ.length) (hj : j < ρ.length) (h : a.w K ρ n fun v m => b.w K ρ m fun u m1 => N ((ρ.set i (.va v)).set j (.va u)) m1) : (St.par i j a b).w K ρ n N T := ⟨hi, hj, h⟩
theorem sw_asgL (hi : i < ρ.length) (h : as.w K ρ n fun ds m => ds.length ≤ 100000 ∧ N (ρ.set i (.ow (.list ds))) m) : (St.asgL i as).w K ρ n N T := ⟨hi, h⟩
theorem sw_asgT {js : List Nat} (h : e.w K ρ n (onD fun d m => wTgt (.tup js) d ρ fun ρ' => N ρ' m)) : (St.asgT js e).w K ρ n N T := h
theorem pb_gtI (ha : Pr K a ρ (.int k)) (hb : Pr K b ρ (.int m)) : Pu K (.op .gtI a b) ρ (.bool (decide (m < k))) := pu_op ha hb fun F f => f
theorem pb_ltI (ha : Pr K a ρ (.int k)) (hb : Pr K b ρ (.int m)) : Pu K (.op .ltI a b) ρ (.bool (decide (k < m))) := pu_op ha hb fun F f => f
theorem pu_of (h : Pu K e ρ d) (hF : F (.d d) n) : e.w K ρ n F := h n F hF
end
end L2.EV

set_option Elab.async false
set_option maxRecDepth 100000
set_option maxHeartbeats 4000000
set_option linter.all false
/-! What the law's drawing defs promise. -/
namespace L2.K06
open PySem PySem.Spec PyProof.Rows XK Evl XC TL EV
/-- a word of one to eight letters -/
def LowW (w : Str) : Prop := lowS w ∧ 1 ≤ w.length ∧ w.length ≤ 8
/-- signs, at most so many -/
def Sg (L : Nat) (w : Str) : Prop := signS w ∧ w.length ≤ L
def conLawWord : EV.Con := ⟨11, fun as F => ∃ bs : List Str, as = [.d (SL bs)] ∧ bs.length ≤ 10 ∧ ∀ s, LowW s → s ∉ bs → F (.d (.str s))⟩
def conLawNames : EV.Con := ⟨70, fun as F => ∃ m : Int, as = [.d (.int m)] ∧ 0 ≤ m ∧ m ≤ 6 ∧ ∀ l : List Str, (l.length : Int) = m → l.Nodup → (∀ s ∈ l, KC.wordS s = true) → F (.d (SL l))⟩
def lawRowD (d : PyData) (names tags : List Str) : Bool := match d with
  | .str s => KC.lawRow s names tags
  | _ => false
def okD (n : Nat) : PyData → Prop
  | .str s => Sg n s
  | _ => True
def conLawIsRow : EV.Con := ⟨0, fun as F => ∃ (d : PyData) (names tags : List Str), as = [.d d, .d (SL names), .d (SL tags)] ∧ okD 99000 d ∧ names.length ≤ 100 ∧ tags.length ≤ 100 ∧ (∀ x ∈ names, x.length ≤ 8) ∧ (∀ x ∈ tags, x.length ≤ 8) ∧
  F (.d (.bool (lawRowD d names tags)))⟩
def conLawLooseRow : EV.Con := ⟨20, fun as F => ∃ (names tags : List Str), as = [.d (SL names), .d (SL tags)] ∧ names.length ≤ 6 ∧ tags.length ≤ 6 ∧ (∀ x ∈ names, Sg 8 x) ∧ (∀ x ∈ tags, Sg 8 x) ∧ ∀ s, Sg 400 s → 1 ≤ s.length → F (.d (.str s))⟩
def conLawBent : EV.Con := ⟨5, fun as F => ∃ s : Str, as = [.d (.str s)] ∧ Sg 400 s ∧ 1 ≤ s.length ∧ ∀ t, Sg 1500 t → F (.d (.str t))⟩
theorem word_low {w : Str} (h : KC.wordS w = true) : LowW w := by
  unfold KC.wordS KC.lenB at h
  simp only [Bool.and_eq_true, decide_eq_true_eq, List.all_eq_true] at h
  refine ⟨fun c hc => ?_, by omega, by omega⟩
  have := h.2.1 c hc
  rw [KC.letterC_eq, Bool.and_eq_true, decide_eq_true_eq, decide_eq_true_eq] at this
  exact this
theorem low_word {w : Str} (h : LowW w) (hb : w ∉ KC.wPartingWords) : KC.wordS w = true := by
  unfold KC.wordS KC.lenB
  simp only [Bool.and_eq_true, decide_eq_true_eq, List.all_eq_true]
  refine ⟨⟨by have := h.2.1; omega, by have := h.2.2; omega⟩, fun c hc => ?_, ?_⟩
  · have := h.1 c hc
    rw [KC.letterC_eq, Bool.and_eq_true, decide_eq_true_eq, decide_eq_true_eq]
    exact this
  · cases q : KC.inS w KC.wPartingWords with
    | false => rfl
    | true => exact absurd (KC.inS_iff.mp q) hb
theorem low_sg {w : Str} (h : LowW w) : Sg 8 w := ⟨low_sign h.1, h.2.2⟩
end L2.K06

set_option Elab.async false
set_option maxRecDepth 100000
set_option maxHeartbeats 4000000
set_option linter.all false
/-! The law's defs as data. -/
namespace L2.K06
open PySem PySem.Spec PyProof.Rows XK Evl XC TL EV
abbrev dLawWord5 : EV.St :=
  (.ret (.op .ixL (.lc (.list (.var 4)) (.name 6) (.cmp (.op .nin (.var 6) (.var 1))) (.var 6)) (.dat (.int 0))))
abbrev dLawWord4 : EV.St :=
  .seq (.asg 4 (.lst (.cons (.dat (.str "porch")) (.cons (.dat (.str "attic")) (.cons (.dat (.str "cellar")) (.cons (.dat (.str "garden")) (.cons (.dat (.str "kitchen")) (.cons (.dat (.str "hall")) (.cons (.dat (.str "stairs")) (.cons (.dat (.str "roof")) (.cons (.dat (.str "gate")) (.cons (.dat (.str "yard")) (.cons (.dat (.str "barn")) .nil)))))))))))))
  dLawWord5
abbrev dLawWord3 : EV.St :=
  .seq (.ifs (.cmp (.op .nin (.var 3) (.var 1)))
    (.ret (.var 3))
    .skip)
  dLawWord4
abbrev dLawWord2 : EV.St :=
  .seq (.ifs (.cmp (.op .gtI (.draw 0 (.dat (.int 4))) (.dat (.int 0))))
    (.seq (.asg 5 (.op .addI (.dat (.int 1)) (.draw 0 (.dat (.int 8)))))
  (.asg 3 (.mth .join (.dat (.str "")) (.cons (.lc (.rng (.var 5)) (.name 7) .yes (.op .ixS (.dat (.str "abcdefghijklmnopqrstuvwxyz")) (.draw 0 (.dat (.int 26))))) .nil))))
    .skip)
  dLawWord3
abbrev dLawWord1 : EV.St :=
  .seq (.asg 3 (.pick 0 (.op .cat (.var 2) (.lst (.cons (.dat (.str "stand")) (.cons (.dat (.str "swap")) (.cons (.dat (.str "hear")) (.cons (.dat (.str "free")) (.cons (.dat (.str "lines")) (.cons (.dat (.str "keys")) .nil))))))))))
  dLawWord2
abbrev dLawWord0 : EV.St :=
  .seq (.asg 2 (.lst (.cons (.dat (.str "a")) (.cons (.dat (.str "b")) (.cons (.dat (.str "none")) (.cons (.dat (.str "some")) (.cons (.dat (.str "me")) (.cons (.dat (.str "in")) (.cons (.dat (.str "caller")) (.cons (.dat (.str "joined")) (.cons (.dat (.str "ear")) (.cons (.dat (.str "busy")) (.cons (.dat (.str "key")) (.cons (.dat (.str "lay")) (.cons (.dat (.str "call")) (.cons (.dat (.str "late")) .nil))))))))))))))))
  dLawWord1
abbrev dLawWord : EV.St := dLawWord0
abbrev dLawNames2 : EV.St :=
  (.frz 2 (.ret (.var 2)))
abbrev dLawNames1 : EV.St :=
  .seq (.for_ (.rng (.var 1)) (.name 3)
    (.app 2 (.callP conLawWord 0 (.cons (.op .cat (.var 2) (.lst (.cons (.dat (.str "and")) (.cons (.dat (.str "if")) (.cons (.dat (.str "not")) .nil))))) .nil))))
  dLawNames2
abbrev dLawNames0 : EV.St :=
  .seq (.asgL 2 .nil)
  dLawNames1
abbrev dLawNames : EV.St := dLawNames0
abbrev dLawIsRow15 : EV.St :=
  (.ret (.op .eqD (.var 10) (.lst .nil)))
abbrev dLawIsRow14 : EV.St :=
  .seq (.asg 10 (.op .cat (.lc (.list (.var 7)) (.name 12) (.cmp (.op .nin (.var 12) (.var 6))) (.var 12)) (.lc (.list (.var 9)) (.name 12) (.cmp (.op .nin (.var 12) (.var 8))) (.var 12))))
  dLawIsRow15
abbrev dLawIsRow13 : EV.St :=
  .seq (.ifs (.or (.cmp (.op .gtI (.blt .len (.cons (.var 7) .nil)) (.dat (.int 4)))) (.cmp (.op .gtI (.blt .len (.cons (.var 9) .nil)) (.dat (.int 4)))))
    (.ret (.dat (.bool false)))
    .skip)
  dLawIsRow14
abbrev dLawIsRow12 : EV.St :=
  .seq (.asg 9 (.mth .split (.op .ixL (.var 3) (.dat (.int 1))) (.cons (.dat (.str ", ")) .nil)))
  dLawIsRow13
abbrev dLawIsRow11 : EV.St :=
  .seq (.asg 8 (.op .cat (.var 8) (.ite (.an (.val (.var 5)) (.cmp (.op .neF (.op .ixL (.var 4) (.dat (.int 0))) (.dat (.str "lay"))))) (.lst (.cons (.dat (.str "hear")) (.cons (.dat (.str "join")) .nil))) (.lst .nil))))
  dLawIsRow12
abbrev dLawIsRow10 : EV.St :=
  .seq (.asg 8 (.op .cat (.var 8) (.ite (.val (.var 5)) (.lst (.cons (.dat (.str "a me")) (.cons (.dat (.str "b me")) .nil))) (.lst .nil))))
  dLawIsRow11
abbrev dLawIsRow9 : EV.St :=
  .seq (.asg 8 (.op .cat (.lst (.cons (.dat (.str "a none")) (.cons (.dat (.str "a some")) (.cons (.dat (.str "b none")) (.cons (.dat (.str "b some")) (.cons (.dat (.str "swap")) (.cons (.dat (.str "deaf")) (.cons (.dat (.str "part")) .nil)))))))) (.lc (.list (.var 1)) (.name 11) .yes (.op .addS (.dat (.str "stand ")) (.var 11)))))
  dLawIsRow10
abbrev dLawIsRow8 : EV.St :=
  .seq (.asg 7 (.ite (.cmp (.op .eqF (.blt .len (.cons (.var 4) .nil)) (.dat (.int 2)))) (.mth .split (.op .ixL (.var 4) (.dat (.int 1))) (.cons (.dat (.str " and ")) .nil)) (.lst .nil)))
  dLawIsRow9
abbrev dLawIsRow7 : EV.St :=
  .seq (.asg 6 (.op .cat (.var 6) (.lc (.list (.var 6)) (.name 12) .yes (.op .addS (.dat (.str "not ")) (.var 12)))))
  dLawIsRow8
abbrev dLawIsRow6 : EV.St :=
  .seq (.asg 6 (.op .cat (.var 6) (.ite (.val (.var 5)) (.lst (.cons (.dat (.str "me a")) (.cons (.dat (.str "me b")) (.cons (.dat (.str "busy")) .nil)))) (.lst .nil))))
  dLawIsRow7
abbrev dLawIsRow5 : EV.St :=
  .seq (.asg 6 (.op .cat (.lst (.cons (.dat (.str "caller")) (.cons (.dat (.str "joined")) (.cons (.dat (.str "a")) (.cons (.dat (.str "b")) (.cons (.dat (.str "ear a")) (.cons (.dat (.str "ear b")) .nil))))))) (.lc (.list (.var 1)) (.name 11) .yes (.op .addS (.dat (.str "in ")) (.var 11)))))
  dLawIsRow6
abbrev dLawIsRow4 : EV.St :=
  .seq (.ifs (.or (.cmp (.op .gtI (.blt .len (.cons (.var 4) .nil)) (.dat (.int 2)))) (.an (.nt (.val (.var 5))) (.cmp (.op .nin (.op .ixL (.var 4) (.dat (.int 0))) (.lst (.cons (.dat (.str "call")) (.cons (.dat (.str "gone")) (.cons (.dat (.str "late")) .nil))))))))
    (.ret (.dat (.bool false)))
    .skip)
  dLawIsRow5
abbrev dLawIsRow3 : EV.St :=
  .seq (.asg 5 (.or (.op .eqF (.op .ixL (.var 4) (.dat (.int 0))) (.dat (.str "lay"))) (.op .inn (.op .ixL (.var 4) (.dat (.int 0))) (.lc (.list (.var 2)) (.name 13) .yes (.op .addS (.dat (.str "key ")) (.var 13))))))
  dLawIsRow4
abbrev dLawIsRow2 : EV.St :=
  .seq (.asg 4 (.mth .split (.op .ixL (.var 3) (.dat (.int 0))) (.cons (.dat (.str " if ")) .nil)))
  dLawIsRow3
abbrev dLawIsRow1 : EV.St :=
  .seq (.ifs (.cmp (.op .neF (.blt .len (.cons (.var 3) .nil)) (.dat (.int 2))))
    (.ret (.dat (.bool false)))
    .skip)
  dLawIsRow2
abbrev dLawIsRow0 : EV.St :=
  .seq (.asg 3 (.ite (.val (.isi "str" (.var 0))) (.mth .split (.var 0) (.cons (.dat (.str ": ")) .nil)) (.lst .nil)))
  dLawIsRow1
abbrev dLawIsRow : EV.St := dLawIsRow0
abbrev dLawLooseRow15 : EV.St :=
  (.ret (.op .addS (.op .addS (.var 10) (.dat (.str ": "))) (.mth .join (.dat (.str ", ")) (.cons (.lc (.rng (.var 14)) (.name 15) .yes (.pick 0 (.var 7))) .nil))))
abbrev dLawLooseRow14 : EV.St :=
  .seq (.asg 10 (.op .addS (.var 4) (.ite (.cmp (.op .neD (.var 9) (.lst .nil))) (.op .addS (.dat (.str " if ")) (.mth .join (.dat (.str " and ")) (.cons (.var 9) .nil))) (.dat (.str "")))))
  dLawLooseRow15
abbrev dLawLooseRow13 : EV.St :=
  .seq (.asg 9 (.lc (.list (.var 8)) (.name 16) .yes (.op .addS (.var 16) (.pick 0 (.var 6)))))
  dLawLooseRow14
abbrev dLawLooseRow12 : EV.St :=
  .seq (.asg 8 (.lc (.rng (.var 13)) (.name 15) .yes (.op .ixL (.lst (.cons (.dat (.str "")) (.cons (.dat (.str "")) (.cons (.dat (.str "")) (.cons (.dat (.str "")) (.cons (.dat (.str "not ")) (.cons (.dat (.str "not ")) (.cons (.dat (.str "not ")) (.cons (.dat (.str "not not ")) .nil))))))))) (.draw 0 (.dat (.int 8))))))
  dLawLooseRow13
abbrev dLawLooseRow11 : EV.St :=
  .seq (.par 13 14 (.op .ixL (.lst (.cons (.dat (.int 0)) (.cons (.dat (.int 0)) (.cons (.dat (.int 1)) (.cons (.dat (.int 2)) (.cons (.dat (.int 3)) (.cons (.dat (.int 4)) (.cons (.dat (.int 4)) (.cons (.dat (.int 5)) .nil))))))))) (.draw 0 (.dat (.int 8)))) (.op .ixL (.lst (.cons (.dat (.int 1)) (.cons (.dat (.int 1)) (.cons (.dat (.int 1)) (.cons (.dat (.int 2)) (.cons (.dat (.int 3)) (.cons (.dat (.int 4)) (.cons (.dat (.int 4)) (.cons (.dat (.int 5)) .nil))))))))) (.draw 0 (.dat (.int 8)))))
  dLawLooseRow12
abbrev dLawLooseRow10 : EV.St :=
  .seq (.ifs (.cmp (.op .eqF (.var 11) (.dat (.int 0))))
    (.seq (.asg 6 (.op .cat (.op .cat (.var 6) (.lst (.cons (.dat (.str "ear")) (.cons (.dat (.str "in")) (.cons (.dat (.str "voice")) (.cons (.dat (.str "stranger")) (.cons (.dat (.str "busy")) .nil))))))) (.lc (.list (.var 12)) (.name 17) .yes (.op .addS (.dat (.str "in ")) (.var 17)))))
  (.asg 7 (.op .cat (.op .cat (.var 7) (.lst (.cons (.dat (.str "hear")) (.cons (.dat (.str "a me")) (.cons (.dat (.str "a")) (.cons (.dat (.str "stand")) (.cons (.dat (.str "")) .nil))))))) (.lc (.list (.var 12)) (.name 17) .yes (.op .addS (.dat (.str "stand ")) (.var 17))))))
    .skip)
  dLawLooseRow11
abbrev dLawLooseRow9 : EV.St :=
  .seq (.asg 7 (.op .cat (.var 7) (.ite (.an (.val (.var 5)) (.or (.cmp (.op .eqF (.var 11) (.dat (.int 2)))) (.cmp (.op .neF (.var 4) (.dat (.str "lay")))))) (.lst (.cons (.dat (.str "hear")) (.cons (.dat (.str "join")) .nil))) (.lst .nil))))
  dLawLooseRow10
abbrev dLawLooseRow8 : EV.St :=
  .seq (.asg 7 (.op .cat (.var 7) (.ite (.val (.var 5)) (.lst (.cons (.dat (.str "a me")) (.cons (.dat (.str "b me")) .nil))) (.lst .nil))))
  dLawLooseRow9
abbrev dLawLooseRow7 : EV.St :=
  .seq (.asg 7 (.op .cat (.lst (.cons (.dat (.str "a none")) (.cons (.dat (.str "a some")) (.cons (.dat (.str "b none")) (.cons (.dat (.str "b some")) (.cons (.dat (.str "swap")) (.cons (.dat (.str "deaf")) (.cons (.dat (.str "part")) .nil)))))))) (.lc (.list (.var 1)) (.name 17) .yes (.op .addS (.dat (.str "stand ")) (.var 17)))))
  dLawLooseRow8
abbrev dLawLooseRow6 : EV.St :=
  .seq (.asg 6 (.op .cat (.var 6) (.ite (.val (.var 5)) (.lst (.cons (.dat (.str "me a")) (.cons (.dat (.str "me b")) (.cons (.dat (.str "busy")) .nil)))) (.lst .nil))))
  dLawLooseRow7
abbrev dLawLooseRow5 : EV.St :=
  .seq (.asg 6 (.op .cat (.lst (.cons (.dat (.str "caller")) (.cons (.dat (.str "joined")) (.cons (.dat (.str "a")) (.cons (.dat (.str "b")) (.cons (.dat (.str "ear a")) (.cons (.dat (.str "ear b")) .nil))))))) (.lc (.list (.var 1)) (.name 17) .yes (.op .addS (.dat (.str "in ")) (.var 17)))))
  dLawLooseRow6
abbrev dLawLooseRow4 : EV.St :=
  .seq (.asg 5 (.or (.op .eqF (.var 11) (.dat (.int 2))) (.op .nin (.var 4) (.lst (.cons (.dat (.str "call")) (.cons (.dat (.str "gone")) (.cons (.dat (.str "late")) .nil)))))))
  dLawLooseRow5
abbrev dLawLooseRow3 : EV.St :=
  .seq (.asg 4 (.pick 0 (.var 3)))
  dLawLooseRow4
abbrev dLawLooseRow2 : EV.St :=
  .seq (.ifs (.cmp (.op .eqF (.var 11) (.dat (.int 0))))
    (.asg 3 (.op .cat (.op .cat (.var 3) (.lst (.cons (.dat (.str "key")) (.cons (.dat (.str "ring")) .nil)))) (.lc (.list (.var 12)) (.name 17) .yes (.op .addS (.dat (.str "key ")) (.var 17)))))
    .skip)
  dLawLooseRow3
abbrev dLawLooseRow1 : EV.St :=
  .seq (.asg 3 (.op .cat (.lst (.cons (.dat (.str "call")) (.cons (.dat (.str "gone")) (.cons (.dat (.str "late")) (.cons (.dat (.str "lay")) .nil))))) (.lc (.list (.op .cat (.var 2) (.var 2))) (.name 17) .yes (.op .addS (.dat (.str "key ")) (.var 17)))))
  dLawLooseRow2
abbrev dLawLooseRow0 : EV.St :=
  .seq (.par 11 12 (.draw 0 (.dat (.int 3))) (.op .cat (.op .cat (.var 1) (.var 2)) (.lst (.cons (.dat (.str "nowhere")) .nil))))
  dLawLooseRow1
abbrev dLawLooseRow : EV.St := dLawLooseRow0
abbrev dLawBent8 : EV.St :=
  (.ret (.mth .join (.dat (.str " ")) (.cons (.lc (.rng (.blt .len (.cons (.var 3) .nil))) (.name 8) .yes (.ite (.cmp (.op .eqF (.var 8) (.var 6))) (.op .ixL (.var 3) (.var 7)) (.ite (.cmp (.op .eqF (.var 8) (.var 7))) (.op .ixL (.var 3) (.var 6)) (.op .ixL (.var 3) (.var 8))))) .nil)))
abbrev dLawBent7 : EV.St :=
  .seq (.ifs (.cmp (.op .eqF (.var 4) (.dat (.int 3))))
    (.ret (.mth .join (.dat (.str " ")) (.cons (.op .cat (.sl .lst (.var 3) .no (.at (.var 6))) (.sl .lst (.var 3) (.at (.op .addI (.var 6) (.dat (.int 1)))) .no)) .nil)))
    .skip)
  dLawBent8
abbrev dLawBent6 : EV.St :=
  .seq (.asgT [6, 7] (.tup (.cons (.draw 0 (.blt .len (.cons (.var 3) .nil))) (.cons (.draw 0 (.blt .len (.cons (.var 3) .nil))) .nil))))
  dLawBent7
abbrev dLawBent5 : EV.St :=
  .seq (.asg 3 (.mth .split (.var 1) (.cons (.dat (.str " ")) .nil)))
  dLawBent6
abbrev dLawBent4 : EV.St :=
  .seq (.ifs (.cmp (.op .eqF (.var 4) (.dat (.int 2))))
    (.ret (.op .addS (.op .addS (.sl .str (.var 1) .no (.at (.var 5))) (.var 2)) (.sl .str (.var 1) (.at (.op .addI (.var 5) (.dat (.int 1)))) .no)))
    .skip)
  dLawBent5
abbrev dLawBent3 : EV.St :=
  .seq (.ifs (.cmp (.op .eqF (.var 4) (.dat (.int 1))))
    (.ret (.op .addS (.sl .str (.var 1) .no (.at (.var 5))) (.sl .str (.var 1) (.at (.op .addI (.var 5) (.dat (.int 1)))) .no)))
    .skip)
  dLawBent4
abbrev dLawBent2 : EV.St :=
  .seq (.ifs (.cmp (.op .eqF (.var 4) (.dat (.int 0))))
    (.ret (.op .addS (.op .addS (.sl .str (.var 1) .no (.at (.var 5))) (.var 2)) (.sl .str (.var 1) (.at (.var 5)) .no)))
    .skip)
  dLawBent3
abbrev dLawBent1 : EV.St :=
  .seq (.asg 2 (.op .ixS (.dat (.str " ,:abcdefghijklmnopqrstuvwxyzN0-")) (.draw 0 (.dat (.int 32)))))
  dLawBent2
abbrev dLawBent0 : EV.St :=
  .seq (.par 4 5 (.draw 0 (.dat (.int 5))) (.draw 0 (.blt .len (.cons (.var 1) .nil))))
  dLawBent1
abbrev dLawBent : EV.St := dLawBent0
abbrev dLawRight9 : EV.St :=
  (.asg 3 (.ite (.val (.callF conLawIsRow (.cons (.var 1) (.cons (.var 5) (.cons (.var 6) .nil))))) (.lst (.cons (.dat (.str "told")) (.cons (.rp (.var 2)) .nil))) (.lst (.cons (.dat (.int 11)) (.cons (.rp (.var 10)) .nil)))))
abbrev dLawRight8 : EV.St :=
  .seq (.asg 2 (.blt .tup (.cons (.op .cat (.op .cat (.sl .lst (.var 2) .no (.at (.var 10))) (.lst (.cons (.var 1) .nil))) (.sl .lst (.var 2) (.at (.var 10)) .no)) .nil)))
  dLawRight9
abbrev dLawRight7 : EV.St :=
  .seq (.app 2 (.op .addS (.dat (.str "gone: stand ")) (.op .ixL (.var 5) (.dat (.int 0)))))
  dLawRight8
abbrev dLawRight6 : EV.St :=
  .seq (.asgL 2 (.cons (.op .addS (.dat (.str "call: a some, stand ")) (.var 11)) (.cons (.op .addS (.op .addS (.dat (.str "late if in ")) (.var 11)) (.dat (.str " and not caller: deaf"))) .nil)))
  dLawRight7
abbrev dLawRight5 : EV.St :=
  .seq (.par 10 11 (.draw 0 (.dat (.int 4))) (.op .ixL (.var 5) (.neg (.dat (.int 1)))))
  dLawRight6
abbrev dLawRight4 : EV.St :=
  .seq (.ifs (.cmp (.op .eqF (.var 9) (.dat (.int 0))))
    (.asg 1 (.op .ixL (.lst (.cons (.dat .none) (.cons (.dat (.int 0)) (.cons (.dat (.bool true)) (.cons (.tup (.cons (.dat (.str "call: deaf")) .nil)) (.cons (.lst (.cons (.dat (.str "call: deaf")) .nil)) (.cons .dict0 (.cons (.dat (.str "")) (.cons (.dat (.str "call: ")) .nil))))))))) (.draw 0 (.dat (.int 8)))))
    .skip)
  dLawRight5
abbrev dLawRight3 : EV.St :=
  .seq (.ifs (.an (.cmp (.op .eqF (.var 8) (.dat (.int 1)))) (.val (.callF conLawIsRow (.cons (.var 1) (.cons (.var 5) (.cons (.var 6) .nil))))))
    (.asg 1 (.callP conLawBent 0 (.cons (.var 1) .nil)))
    .skip)
  dLawRight4
abbrev dLawRight2 : EV.St :=
  .seq (.asg 1 (.callP conLawLooseRow 0 (.cons (.var 5) (.cons (.var 6) .nil))))
  dLawRight3
abbrev dLawRight1 : EV.St :=
  .seq (.asgT [7, 8, 9] (.tup (.cons (.blt .tup (.cons (.lc (.list (.var 5)) (.name 13) .yes (.tup (.cons (.var 13) (.cons (.dat (.str "tone")) .nil)))) .nil)) (.cons (.draw 0 (.dat (.int 2))) (.cons (.draw 0 (.dat (.int 24))) .nil)))))
  dLawRight2
abbrev dLawRight0 : EV.St :=
  .seq (.asgT [5, 6] (.tup (.cons (.callP conLawNames 0 (.cons (.op .addI (.dat (.int 2)) (.draw 0 (.dat (.int 3)))) .nil)) (.cons (.callP conLawNames 0 (.cons (.draw 0 (.dat (.int 4))) .nil)) .nil))))
  dLawRight1
abbrev dLawRight : EV.St := dLawRight0
end L2.K06

set_option Elab.async false
set_option maxRecDepth 100000
set_option maxHeartbeats 200000
set_option linter.all false
/-! Drawn words and names. -/
namespace L2.K06
open PySem PySem.Spec PyProof.Rows XK Evl XC TL EV
local macro_rules | `(tactic| walk_at "pr") => `(tactic| first | (apply pr_own; rfl) | (apply Pu.r; walk_at "pu"))
local macro_rules | `(tactic| walk_at "pls") => `(tactic| first | exact pns | (apply pcs; walk_at "pu"; walk_at "pls"))
local macro_rules | `(tactic| walk_at "pu") => `(tactic| first | (apply pu_var; rfl) | exact pn | exact pbb | (apply ps; decide +kernel) | (apply pl_lst; walk_at "pls"; simp) | (apply pl_cat; walk_at "pr"; walk_at "pr"; first | omega | (simp <;> omega)))
def spareW : List Str := ["porch", "attic", "cellar", "garden", "kitchen", "hall", "stairs", "roof", "gate", "yard", "barn"]
def oddW : List Str := (["a", "b", "none", "some", "me", "in", "caller", "joined", "ear", "busy", "key", "lay", "call", "late"] : List Str) ++ (["stand", "swap", "hear", "free", "lines", "keys"] : List Str)
theorem spare_low : ∀ z ∈ spareW, LowW z := by
  unfold LowW lowS
  decide +kernel
theorem odd_low : ∀ z ∈ oddW, LowW z := by
  unfold LowW lowS
  decide +kernel
theorem nodup_le {α : Type} [DecidableEq α] : ∀ {l b : List α}, l.Nodup → (∀ z ∈ l, z ∈ b) → l.length ≤ b.length
  | [], _, _, _ => Nat.zero_le _
  | x :: l, b, h, k => by
    obtain ⟨h1, h2⟩ := List.nodup_cons.mp h
    have hx := k x List.mem_cons_self
    have := nodup_le (b := b.erase x) h2 fun z hz => (List.mem_erase_of_ne fun e => h1 (by rw [← e]; exact hz)).mpr (k z (List.mem_cons_of_mem _ hz))
    rw [List.length_erase_of_mem hx] at this
    have : 1 ≤ b.length := List.length_pos_of_mem hx
    rw [List.length_cons]
    omega
theorem spare_left (b : List Str) (h : b.length ≤ 10) : ∃ x l, (spareW.filter fun z => !decide (z ∈ b)) = x :: l ∧ LowW x ∧ x ∉ b := by
  cases e : spareW.filter fun z => !decide (z ∈ b) with
  | nil =>
    have sub : ∀ z ∈ spareW, z ∈ b := fun z hz => by
      by_cases hb : z ∈ b
      · exact hb
      · have : z ∈ spareW.filter fun z => !decide (z ∈ b) := List.mem_filter.mpr ⟨hz, by simp [hb]⟩
        rw [e] at this
        cases this
    have := nodup_le (by decide +kernel) sub
    have l : spareW.length = 11 := by decide
    omega
  | cons x l =>
    have hx : x ∈ spareW.filter fun z => !decide (z ∈ b) := by rw [e]; exact List.mem_cons_self
    obtain ⟨h1, h2⟩ := List.mem_filter.mp hx
    exact ⟨x, l, rfl, spare_low x h1, by simpa using h2⟩
def alphabet : Str := "abcdefghijklmnopqrstuvwxyz"
theorem alpha_at (j : Nat) (h : j < 26) : atI alphabet.cps.toList (j : Int) = some (97 + j) := by
  have h' : ∀ j : Nat, j < 26 → atI alphabet.cps.toList (j : Int) = some (97 + j) := by decide +kernel
  exact h' j h
theorem noOw_un {ρ : En} {j : Nat} {s : Sl} (hs : ∀ d, s ≠ .ow d) (i : Nat) (hi : i ≠ j) : ((ρ.set j .un).set j s)[i]? = ρ[i]? := by
  rw [List.getElem?_set_ne (Ne.symm hi), List.getElem?_set_ne (Ne.symm hi)]
/-- ''.join([letters[draw(pool, 26)] for .. in range(k)]) -/
theorem w_letters {K : PySem.W.Frag} {ρ : En} {n k : Int} {i j : Nat} {F : Vd → Int → Prop} (hp : ρ[0]? = some .pl) (hk : ρ[i]? = some (.va (.d (.int k)))) (ho : noOw ρ j = true) (hj : j < ρ.length) (j0 : Nat.beq 0 j = false) (h0 : 0 ≤ k) (h1 : k ≤ 1000) (hn : n + k ≤ 1000000)
    (h : ∀ z : Str, lowS z → (z.length : Int) = k → F (.d (.str z)) (n + k)) :
    (Ex.mth .join (.dat (.str "")) (.cons (.lc (.rng (.var i)) (.name j) .yes (.op .ixS (.dat (.str "abcdefghijklmnopqrstuvwxyz")) (.draw 0 (.dat (.int 26))))) .nil)).w K ρ n F := by
  have nj : (0 : Nat) ≠ j := Nat.ne_of_beq_eq_false j0
  refine w_joinLc (ds := DL.iota k.toNat) (fun i l m => m = n + i ∧ ∃ zs : List Nat, l = zs.map (fun c => (⟨#[c]⟩ : Str)) ∧ zs.length = i ∧ ∀ c ∈ zs, 97 ≤ c ∧ c ≤ 122) (Pu.r (ps (by decide +kernel))) ho hj
      (ti_rng (Pu.r (pu_var hk)) (by omega) (by omega)) (by rw [DL.iota_len]; omega) ⟨by omega, [], rfl, rfl, fun c hc => by cases hc⟩ (fun i x l m hx iv => ?_) fun l m iv => ?_
  · obtain ⟨rfl, hi⟩ := DL.iota_at hx
    obtain ⟨hm, zs, rfl, hz, hc⟩ := iv
    refine w_opDR ((noOw_un (fun _ z => by cases z) 0 nj).trans hp) (Pu.r (ps (by decide +kernel))) pn.r (by decide) (by decide) (by omega) fun r3 r30 r31 => ?_
    obtain ⟨q, rfl⟩ := Int.eq_ofNat_of_zero_le r30
    refine ⟨97 + q, alpha_at q (by omega), ?_⟩
    dsimp only [onD]
    refine ap_str ⟨by push_cast; omega, zs ++ [97 + q], by rw [List.map_append]; rfl, by rw [List.length_append, hz]; rfl, fun c h => ?_⟩
    rcases List.mem_append.mp h with h | h
    · exact hc c h
    · rw [List.mem_singleton.mp h]
      omega
  · obtain ⟨hm, zs, rfl, hz, hc⟩ := iv
    rw [DL.iota_len] at hz hm
    have e : tl (Txt.join Str.empty (zs.map fun c => (⟨#[c]⟩ : Str))) = zs := tl_signs zs
    have le : (Txt.join Str.empty (zs.map fun c => (⟨#[c]⟩ : Str))).length = zs.length := by rw [len_tl, e]
    have em : ("" : Str) = Str.empty := by decide +kernel
    have mk : m = n + k := by omega
    rw [em, mk]
    refine ⟨?_, h _ (fun c h => ?_) ?_⟩
    · rw [sum_one, List.length_map, hz]
      show _ + _ * 0 ≤ _
      omega
    · have h' : c ∈ tl (Txt.join Str.empty (zs.map fun c => (⟨#[c]⟩ : Str))) := h
      rw [e] at h'
      exact hc c h'
    · rw [le, hz]
      omega
theorem w_word {K : PySem.W.Frag} {bs : List Str} {G : Vd → Prop} {n : Int} (hb : bs.length ≤ 10) (hn : n + 11 ≤ 1000000) (hg : ∀ s : Str, LowW s → s ∉ bs → G (.d (.str s))) :
    dLawWord.w K [.pl, .va (.d (SL bs)), .un, .un, .un, .un, .un, .un] n (fun _ m => m ≤ n + 11 ∧ G (.d .none)) fun v m => m ≤ n + 11 ∧ G v := by
  refine sw_seq (sw_asgP (ltS rfl) (by walk_at "pu") ?_)
  refine sw_seq (sw_asg (ltS rfl) (w_pick (by rfl) (by walk_at "pr") (by simp) (by simp) (by omega) fun w0 hw0 => ?_))
  have l0 := odd_low w0 hw0
  have rest : ∀ (m : Int) (w1 : Str) (x y : Sl), LowW w1 → m ≤ n + 11 → dLawWord3.w K [.pl, .va (.d (SL bs)), x, .va (.d (.str w1)), .un, y, .un, .un] m (fun _ m => m ≤ n + 11 ∧ G (.d .none)) fun v m => m ≤ n + 11 ∧ G v := by
    intro m w1 x y l1 hm
    refine sw_seq (sw_ifP (tt_cmp (Pu.r (pb_nin (by walk_at "pr") (by walk_at "pr")))) (fun h => ?_) fun h => ?_)
    · exact sw_retP (by walk_at "pu") ⟨hm, hg w1 l1 (by simpa using h)⟩
    · refine sw_skip (sw_seq (sw_asgP (ltS rfl) (by walk_at "pu") ?_))
      obtain ⟨z, l, e, lz, hz⟩ := spare_left bs hb
      refine sw_retP (ps_ix (l := z :: l) (s := z) (r := 0) (by rw [← e]; exact Pu.r (pl_filter (l := spareW) (by rfl) (ltS rfl) (ti_list (pu_var (by rfl))) (by decide) fun x _ => tt_cmp (Pu.r (pb_nin (by walk_at "pr") (by walk_at "pr"))))) pn.r (atI_nat (j := 0) rfl)) ⟨hm, hg z lz hz⟩
  refine sw_seq (sw_if (tw_cmp (w_opDL (by rfl) pn.r (by decide) (by decide) (by omega) pn.r fun r r0 r1 => ?_)))
  show if decide (0 < r) = true then _ else _
  split
  · refine sw_seq (sw_asg (ltS rfl) (w_opDR (by rfl) pn.r pn.r (by decide) (by decide) (by omega) fun r2 r20 r21 => ?_))
    dsimp only [wOp]
    refine sw_asg (ltS rfl) (w_letters (i := 5) (k := 1 + r2) (by rfl) (by rfl) (by rfl) (ltS rfl) (by rfl) (by omega) (by omega) (by omega) fun z lz hz => ?_)
    exact rest _ z _ _ ⟨lz, by omega, by omega⟩ (by omega)
  · exact sw_skip (rest (n + 1 + 1) w0 _ _ l0 (by omega))
theorem w_names {K : PySem.W.Frag} {k : Int} {G : Vd → Prop} {n : Int} (h0 : 0 ≤ k) (h6 : k ≤ 6) (hn : n + 70 ≤ 1000000) (hg : ∀ l : List Str, (l.length : Int) = k → l.Nodup → (∀ s ∈ l, KC.wordS s = true) → G (.d (SL l))) :
    dLawNames.w K [.pl, .va (.d (.int k)), .un, .un] n (fun _ m => m ≤ n + 70 ∧ G (.d .none)) fun v m => m ≤ n + 70 ∧ G v := by
  refine sw_seq (sw_asgL (ltS rfl) (ws_nil ⟨by decide, ?_⟩))
  refine sw_seq (sw_forR (fun i ρ1 m1 => m1 = n + 11 * i ∧ ∃ (l : List Str) (x : Sl), l.length = i ∧ l.Nodup ∧ (∀ s ∈ l, KC.wordS s = true) ∧ ρ1 = [.pl, .va (.d (.int k)), .ow (SL l), x]) (by walk_at "pr") (by omega) (by omega)
    ⟨by omega, [], .un, rfl, List.nodup_nil, fun s h => (by cases h), rfl⟩ (fun i ρ1 m1 iv => ?_) (fun i ρ1 m1 hi iv => ?_) fun ρ1 m1 iv => ?_)
  · obtain ⟨_, l, x, _, _, _, rfl⟩ := iv
    exact ltS rfl
  · obtain ⟨hm, l, x, hl, nd, hw, rfl⟩ := iv
    refine sw_app (ds := l.map .str) (by rfl) (w_callPP (vs := [.d (SL (l ++ (["and", "if", "not"] : List Str)))]) (by rfl) (pvs_cons (pl_cat (pr_own (by rfl)) (by walk_at "pr") (by simp; omega)) pvs_nil) (by show m1 + 11 ≤ _; omega) ⟨_, rfl, by simp; omega, fun s ls hs => ?_⟩)
    refine ⟨by rw [List.length_map]; omega, by show m1 + 11 = _; push_cast; omega, l ++ [s], .va (.d (.int i)), by rw [List.length_append, hl]; rfl, ?_, fun z hz => ?_, ?_⟩
    · rw [List.nodup_append]
      refine ⟨nd, by simp, fun a ha b hb => ?_⟩
      rw [List.mem_singleton.mp hb]
      exact fun e => hs (List.mem_append_left _ (by rw [← e]; exact ha))
    · rcases List.mem_append.mp hz with hz | hz
      · exact hw z hz
      · rw [List.mem_singleton.mp hz]
        exact low_word ls fun h => hs (List.mem_append_right _ h)
    · rw [sl_app]
      rfl
  · obtain ⟨hm, l, x, hl, nd, hw, rfl⟩ := iv
    exact sw_frz (by rfl) (sw_retP (by walk_at "pu") ⟨by omega, hg l (by omega) nd hw⟩)
end L2.K06

set_option Elab.async false
set_option maxRecDepth 100000
set_option maxHeartbeats 200000
set_option linter.all false
/-! The law's look at a row. -/
namespace L2.K06
open PySem PySem.Spec PyProof.Rows XK Evl XC TL EV
local macro_rules | `(tactic| walk_at "pr") => `(tactic| first | (apply pr_own; rfl) | (apply Pu.r; walk_at "pu"))
local macro_rules | `(tactic| walk_at "pls") => `(tactic| first | exact pns | (apply pcs; walk_at "pu"; walk_at "pls"))
local macro_rules | `(tactic| walk_at "pu") => `(tactic| first | (apply pu_var; rfl) | exact pn | exact pbb | (apply ps; decide +kernel) | (apply pl_lst; walk_at "pls"; simp) | (apply pl_cat; walk_at "pr"; walk_at "pr"; first | omega | (simp <;> omega)))
theorem mem_joinL {S : List Nat} {c : Nat} : ∀ {l : List (List Nat)} {p : List Nat}, p ∈ l → c ∈ p → c ∈ joinL S l
  | [x], p, hp, hc => by
    rw [List.mem_singleton.mp hp] at hc
    exact hc
  | x :: y :: l, p, hp, hc => by
    show c ∈ x ++ (S ++ joinL S (y :: l))
    rcases List.mem_cons.mp hp with rfl | hp
    · exact List.mem_append_left _ hc
    · exact List.mem_append_right _ (List.mem_append_right _ (mem_joinL hp hc))
theorem split_sign {y x p : Str} (s : Sep y) (h : p ∈ Txt.split x y) (hx : signS x) : signS p := fun c hc => by
  refine hx c ?_
  have e := join_split' s x
  rw [← e]
  show c ∈ tl (Txt.join y (Txt.split x y))
  rw [join_eq, tl_join]
  exact mem_joinL (List.mem_map.mpr ⟨p, h, rfl⟩) hc
theorem split_sg {y x p : Str} {L : Nat} (s : Sep y) (h : p ∈ Txt.split x y) (hx : Sg L x) : Sg L p := ⟨split_sign s h hx.1, Nat.le_trans (split_len s h) hx.2⟩
theorem shapedL : ∀ l : List Str, (∀ s ∈ l, signS s) → PyData.canLayAll0 (l.map PyData.str) = true ∧ PyData.depthAll (l.map PyData.str) = 0
  | [], _ => ⟨rfl, rfl⟩
  | s :: l, h => by
    obtain ⟨h1, h2⟩ := shapedL l fun x hx => h x (List.mem_cons_of_mem _ hx)
    have h0 : PyData.strOk s = true := by
      unfold PyData.strOk
      rw [← Array.all_toList, List.all_eq_true]
      intro c hc
      have := h s List.mem_cons_self c hc
      exact decide_eq_true (by omega)
    constructor
    · simp only [List.map_cons, PyData.canLayAll0, h1, Bool.and_true, PyData.canLay0]
      exact h0
    · simp only [List.map_cons, PyData.depthAll, h2, PyData.depth, Nat.max_self]
theorem shaped_SL {l : List Str} (h : ∀ s ∈ l, signS s) : SeqAt.shaped (SL l) = true := by
  obtain ⟨h1, h2⟩ := shapedL l h
  unfold SeqAt.shaped
  simp only [SL, PyData.canLay0, PyData.depth, h1, h2]
  decide
theorem eqv_nil (l : List Str) : PyData.eqv (SL l) (SL []) = decide (l = []) := by
  cases l with
  | nil => decide +kernel
  | cons c l => simp [SL, PyData.eqv, PyData.eqvAll]
theorem pb_eqNil {K : PySem.W.Frag} {ρ : En} {a : Ex} {l : List Str} (ha : Pr K a ρ (SL l)) (h : ∀ s ∈ l, signS s) : Pu K (.op .eqD a (.lst .nil)) ρ (.bool (decide (l = []))) :=
  pu_op ha (Pu.r (pl_lst pns (by simp))) fun F f => by
    have e : PyData.eqv (SL l) (SL []) = decide (l = []) := eqv_nil l
    rw [← e] at f
    exact ⟨shaped_SL h, shaped_SL (l := []) (fun _ z => by cases z), f⟩
theorem pb_neNil {K : PySem.W.Frag} {ρ : En} {a : Ex} {l : List Str} (ha : Pr K a ρ (SL l)) (h : ∀ s ∈ l, signS s) : Pu K (.op .neD a (.lst .nil)) ρ (.bool (!decide (l = []))) :=
  pu_op ha (Pu.r (pl_lst pns (by simp))) fun F f => by
    have e : PyData.eqv (SL l) (SL []) = decide (l = []) := eqv_nil l
    rw [← e] at f
    exact ⟨shaped_SL h, shaped_SL (l := []) (fun _ z => by cases z), f⟩
def condsOf : List Str → List Str
  | [c] => Txt.split c " and "
  | _ => []
def halvesD : PyData → List Str
  | .str s => Txt.split s ": "
  | _ => []
theorem l4 : ("in " : Str).length = 3 ∧ ("not " : Str).length = 4 ∧ ("key " : Str).length = 4 ∧ ("stand " : Str).length = 6 := by decide +kernel
theorem menu0_len {names : List Str} {ph : Bool} (hn : ∀ x ∈ names, x.length ≤ 8) : ∀ z ∈ KC.menuC0 names ph, z.length ≤ 20 := by
  have lit : ∀ z ∈ KC.baseC ++ KC.phC, z.length ≤ 20 := by decide +kernel
  intro z h
  unfold KC.menuC0 at h
  rcases List.mem_append.mp h with h | h
  · rcases List.mem_append.mp h with h | h
    · exact lit z (List.mem_append_left _ h)
    · obtain ⟨w, hw, rfl⟩ := List.mem_map.mp h
      have := hn w hw
      rw [app_len, l4.1]
      omega
  · cases ph with
    | true => exact lit z (List.mem_append_right _ h)
    | false => cases h
theorem menu0_many {names : List Str} {ph : Bool} : (KC.menuC0 names ph).length ≤ names.length + 9 := by
  unfold KC.menuC0 KC.baseC KC.phC
  cases ph <;> simp <;> omega
section
variable {K : PySem.W.Frag} {n : Int} {N : En → Int → Prop} {T : Vd → Int → Prop}
/-- behind the halves -/
theorem w_isrow2 {d : PyData} {h t : Str} {names tags : List Str} (hh : Sg 99000 h) (ht : Sg 99000 t) (hn : names.length ≤ 100) (hg : tags.length ≤ 100) (ln : ∀ x ∈ names, x.length ≤ 8) (lt : ∀ x ∈ tags, x.length ≤ 8)
    (k : ∀ o r, Txt.split h " if " = o :: r → T (.d (.bool (KC.lawIn o (r.length + 1) (condsOf r) (Txt.split t ", ") names tags))) n) :
    dLawIsRow2.w K [.va (.d d), .va (.d (SL names)), .va (.d (SL tags)), .va (.d (SL [h, t])), .un, .un, .un, .un, .un, .un, .un, .un, .un, .un] n N T := by
  refine sw_seq (sw_asgP (ltS rfl) (pl_split (Pu.r (ps_ix (s := h) (r := 0) (by walk_at "pr") pn.r (atI_nat (j := 0) rfl))) (Pu.r (ps (by decide +kernel))) KC.sep2 hh.2) ?_)
  have hne := split_ne KC.sep2 h
  have fs : ∀ p ∈ Txt.split h " if ", Sg 99000 p := fun p hp => split_sg KC.sep2 hp hh
  cases hf : Txt.split h " if " with
  | nil => exact absurd hf hne
  | cons o r =>
    rw [hf] at fs
    have k := k o r hf
    have i0 : Pr K (.op .ixL (.var 4) (.dat (.int 0))) [.va (.d d), .va (.d (SL names)), .va (.d (SL tags)), .va (.d (SL [h, t])), .va (.d (SL (o :: r))), .un, .un, .un, .un, .un, .un, .un, .un, .un] (.str o) :=
      Pu.r (ps_ix (s := o) (r := 0) (by walk_at "pr") pn.r (atI_nat (j := 0) rfl))
    refine sw_seq (sw_asgP (ltS rfl) (pu_or (c := decide (o = "lay")) (c' := decide (o ∈ tags.map (("key " : Str) ++ ·))) (Pu.r (pb_eqS i0 (Pu.r (ps (by decide +kernel))))) fun _ => pb_in i0 (Pu.r (pl_map (l := tags) (f := (("key " : Str) ++ ·)) (by rfl) (ltS rfl) (ti_list (by walk_at "pu")) (by omega)
      fun x hx => ps_add (Pu.r (ps (by decide +kernel))) (by walk_at "pr") (by have := lt x hx; have := l4.2.2.1; omega)))) ?_)
    obtain ⟨ph, hph⟩ : ∃ ph, ph = KC.byPh o tags := ⟨_, rfl⟩
    have e5 : (decide (o = "lay") || decide (o ∈ tags.map (("key " : Str) ++ ·))) = ph := hph.symm
    rw [e5]
    dsimp only [List.set]
    have i0 : ∀ v6, Pr K (.op .ixL (.var 4) (.dat (.int 0))) [.va (.d d), .va (.d (SL names)), .va (.d (SL tags)), .va (.d (SL [h, t])), .va (.d (SL (o :: r))), .va (.d (.bool ph)), v6, .un, .un, .un, .un, .un, .un, .un] (.str o) :=
      fun _ => Pu.r (ps_ix (s := o) (r := 0) (by walk_at "pr") pn.r (atI_nat (j := 0) rfl))
    refine sw_seq (sw_ifP (tt_or (tt_cmp (Pu.r (pb_gtI (Pu.r (pn_len (by walk_at "pr"))) pn.r))) fun _ => tt_an (tt_nt (tt_val (by walk_at "pr"))) fun _ => tt_cmp (Pu.r (pb_nin (i0 _) (by walk_at "pr")))) (fun hc => ?_) fun hc => ?_)
    · refine sw_retP pbb ?_
      have e : KC.lawIn o (r.length + 1) (condsOf r) (Txt.split t ", ") names tags = false := by
        unfold KC.lawIn
        have e1 : decide (2 < r.length + 1) = decide ((2 : Int) < ((o :: r).length : Int)) := decide_eq_decide.mpr (by rw [List.length_cons]; omega)
        have e2 : (decide (2 < r.length + 1) || (!KC.byPh o tags && !decide (o ∈ KC.plainOcc))) = true := by
          rw [e1, ← hph]
          exact hc
        rw [e2]
        rfl
      rw [e] at k
      exact k
    · refine sw_skip ?_
      have e1 : decide (2 < r.length + 1) = decide ((2 : Int) < ((o :: r).length : Int)) := decide_eq_decide.mpr (by rw [List.length_cons]; omega)
      have e2 : (decide (2 < r.length + 1) || (!KC.byPh o tags && !decide (o ∈ KC.plainOcc))) = false := by
        rw [e1, ← hph]
        exact hc
      have r1 : r.length ≤ 1 := by
        rw [Bool.or_eq_false_iff] at e2
        have := of_decide_eq_false e2.1
        omega
      refine sw_seq (sw_asgP (ltS rfl) (pl_cat (by walk_at "pr") (Pu.r (pl_map (l := names) (f := (("in " : Str) ++ ·)) (by rfl) (ltS rfl) (ti_list (by walk_at "pu")) (by omega)
        fun x hx => ps_add (Pu.r (ps (by decide +kernel))) (by walk_at "pr") (by have := ln x hx; have := l4.1; omega))) (by simp; omega)) ?_)
      dsimp only [List.set]
      refine sw_seq (sw_asgP (ltS rfl) (pl_cat (by walk_at "pr") (Pu.r (pl_ite (tt_val (by walk_at "pr")) (fun _ => by walk_at "pu") fun _ => by walk_at "pu")) (by cases ph <;> simp <;> omega)) ?_)
      dsimp only [List.set]
      change dLawIsRow7.w K [.va (.d d), .va (.d (SL names)), .va (.d (SL tags)), .va (.d (SL [h, t])), .va (.d (SL (o :: r))), .va (.d (.bool ph)), .va (.d (SL (KC.menuC0 names ph))), .un, .un, .un, .un, .un, .un, .un] n N T
      have ml := menu0_len (ph := ph) ln
      have mm := menu0_many (names := names) (ph := ph)
      refine sw_seq (sw_asgP (ltS rfl) (pl_cat (by walk_at "pr") (Pu.r (pl_map (l := KC.menuC0 names ph) (f := (("not " : Str) ++ ·)) (by rfl) (ltS rfl) (ti_list (by walk_at "pu")) (by omega)
        fun x hx => ps_add (Pu.r (ps (by decide +kernel))) (by walk_at "pr") (by have := ml x hx; have := l4.2.1; omega))) (by rw [List.length_map]; omega)) ?_)
      dsimp only [List.set]
      change dLawIsRow8.w K [.va (.d d), .va (.d (SL names)), .va (.d (SL tags)), .va (.d (SL [h, t])), .va (.d (SL (o :: r))), .va (.d (.bool ph)), .va (.d (SL (KC.menuC names ph))), .un, .un, .un, .un, .un, .un, .un] n N T
      obtain ⟨conds, hconds⟩ : ∃ conds, conds = condsOf r := ⟨_, rfl⟩
      rw [← hconds] at k
      have cs : ∀ p ∈ conds, Sg 99000 p := by
        intro p hp
        rw [hconds] at hp
        match r, fs, hp with
        | [c], fs, hp => exact split_sg KC.sep3 hp (fs c (by simp))
      refine sw_seq (sw_asgP (ltS rfl) (Pu.at_ (x := SL conds) (pl_ite (l := condsOf r) (l' := []) (tt_cmp (Pu.r (pb_eqI (Pu.r (pn_len (by walk_at "pr"))) pn.r))) (fun hr => ?_) fun _ => by walk_at "pu") ?_) ?_)
      · match r, fs, hr, r1 with
        | [c], fs, _, _ => exact pl_split (Pu.r (ps_ix (s := c) (r := 1) (by walk_at "pr") pn.r (atI_nat (j := 1) rfl))) (Pu.r (ps (by decide +kernel))) KC.sep3 (fs c (by simp)).2
        | [], _, hr, _ => exact absurd hr (by simp)
        | _ :: _ :: _, _, _, r1 => exact absurd r1 (by simp)
      · rw [hconds]
        match r, r1 with
        | [c], _ => rfl
        | [], _ => rfl
        | _ :: _ :: _, r1 => exact absurd r1 (by simp)
      dsimp only [List.set]
      change dLawIsRow9.w K [.va (.d d), .va (.d (SL names)), .va (.d (SL tags)), .va (.d (SL [h, t])), .va (.d (SL (o :: r))), .va (.d (.bool ph)), .va (.d (SL (KC.menuC names ph))), .va (.d (SL conds)), .un, .un, .un, .un, .un, .un] n N T
      refine sw_seq (sw_asgP (ltS rfl) (pl_cat (by walk_at "pr") (Pu.r (pl_map (l := names) (f := (("stand " : Str) ++ ·)) (by rfl) (ltS rfl) (ti_list (by walk_at "pu")) (by omega)
        fun x hx => ps_add (Pu.r (ps (by decide +kernel))) (by walk_at "pr") (by have := ln x hx; have := l4.2.2.2; omega))) (by simp; omega)) ?_)
      dsimp only [List.set]
      refine sw_seq (sw_asgP (ltS rfl) (pl_cat (by walk_at "pr") (Pu.r (pl_ite (tt_val (by walk_at "pr")) (fun _ => by walk_at "pu") fun _ => by walk_at "pu")) (by cases ph <;> simp <;> omega)) ?_)
      dsimp only [List.set]
      refine sw_seq (sw_asgP (ltS rfl) (pl_cat (by walk_at "pr") (Pu.r (pl_ite (tt_an (tt_val (by walk_at "pr")) fun _ => tt_cmp (Pu.r (pb_neS (Pu.r (ps_ix (s := o) (r := 0) (by walk_at "pr") pn.r (atI_nat (j := 0) rfl))) (by walk_at "pr")))) (fun _ => by walk_at "pu") fun _ => by walk_at "pu"))
        (by rw [List.length_append]; cases ph <;> cases decide (o = "lay") <;> simp <;> omega)) ?_)
      dsimp only [List.set]
      change dLawIsRow12.w K [.va (.d d), .va (.d (SL names)), .va (.d (SL tags)), .va (.d (SL [h, t])), .va (.d (SL (o :: r))), .va (.d (.bool ph)), .va (.d (SL (KC.menuC names ph))), .va (.d (SL conds)), .va (.d (SL (KC.menuD names ph (!decide (o = "lay"))))), .un, .un, .un, .un, .un] n N T
      obtain ⟨deeds, hdeeds⟩ : ∃ deeds, deeds = Txt.split t ", " := ⟨_, rfl⟩
      rw [← hdeeds] at k
      have ds : ∀ p ∈ deeds, Sg 99000 p := fun p hp => split_sg KC.sep4 (by rw [← hdeeds]; exact hp) ht
      refine sw_seq (sw_asgP (ltS rfl) (Pu.at_ (x := SL deeds) (pl_split (Pu.r (ps_ix (s := t) (r := 1) (by walk_at "pr") pn.r (atI_nat (j := 1) rfl))) (Pu.r (ps (by decide +kernel))) KC.sep4 ht.2) (by rw [hdeeds])) ?_)
      dsimp only [List.set]
      have kk : ∀ b, b = KC.lawIn o (r.length + 1) conds deeds names tags → T (.d (.bool b)) n := fun b hb => by
        rw [hb]
        exact k
      unfold KC.lawIn at kk
      rw [e2, ← hph] at kk
      refine sw_seq (sw_ifP (tt_or (tt_cmp (Pu.r (pb_gtI (Pu.r (pn_len (by walk_at "pr"))) pn.r))) fun _ => tt_cmp (Pu.r (pb_gtI (Pu.r (pn_len (by walk_at "pr"))) pn.r))) (fun hc => ?_) fun hc => ?_)
      · refine sw_retP pbb (kk false ?_)
        have e3 : (decide (4 < conds.length) || decide (4 < deeds.length)) = true := by
          rw [← hc]
          congr 1
          · exact decide_eq_decide.mpr (by omega)
          · exact decide_eq_decide.mpr (by omega)
        rw [e3]
        rfl
      · refine sw_skip ?_
        have e3 : (decide (4 < conds.length) || decide (4 < deeds.length)) = false := by
          rw [← hc]
          congr 1
          · exact decide_eq_decide.mpr (by omega)
          · exact decide_eq_decide.mpr (by omega)
        have e4 := e3
        rw [Bool.or_eq_false_iff, decide_eq_false_iff_not, decide_eq_false_iff_not] at e4
        refine sw_seq (sw_asgP (ltS rfl) (pl_cat (Pu.r (pl_filter (l := conds) (p := fun c => !decide (c ∈ KC.menuC names ph)) (by rfl) (ltS rfl) (ti_list (by walk_at "pu")) (by omega) fun x hx => tt_cmp (Pu.r (pb_nin (by walk_at "pr") (by walk_at "pr")))))
          (Pu.r (pl_filter (l := deeds) (p := fun c => !decide (c ∈ KC.menuD names ph (!decide (o = "lay")))) (by rfl) (ltS rfl) (ti_list (by walk_at "pu")) (by omega) fun x hx => tt_cmp (Pu.r (pb_nin (by walk_at "pr") (by walk_at "pr"))))) ?_) ?_)
        · have l1 := List.length_filter_le (fun c => !decide (c ∈ KC.menuC names ph)) conds
          have l2 := List.length_filter_le (fun c => !decide (c ∈ KC.menuD names ph (!decide (o = "lay")))) deeds
          omega
        dsimp only [List.set]
        refine sw_retP (pb_eqNil (by walk_at "pr") fun s hs => ?_) (kk _ ?_)
        · rcases List.mem_append.mp hs with hs | hs
          · exact (cs s (List.mem_filter.mp hs).1).1
          · exact (ds s (List.mem_filter.mp hs).1).1
        · rw [e3]
          rfl
theorem w_isrow {d : PyData} {names tags : List Str} (hd : okD 99000 d) (hn : names.length ≤ 100) (hg : tags.length ≤ 100) (ln : ∀ x ∈ names, x.length ≤ 8) (lt : ∀ x ∈ tags, x.length ≤ 8) (k : T (.d (.bool (lawRowD d names tags))) n) :
    dLawIsRow.w K (envV [.d d, .d (SL names), .d (SL tags)] 11) n N T := by
  change dLawIsRow.w K [.va (.d d), .va (.d (SL names)), .va (.d (SL tags)), .un, .un, .un, .un, .un, .un, .un, .un, .un, .un, .un] n N T
  refine sw_seq (sw_asgP (ltS rfl) (Pu.at_ (x := SL (halvesD d)) (pl_ite (c := isD "str" d) (l := halvesD d) (l' := []) (tt_val (Pu.r (pu_isi (by decide) (by walk_at "pr")))) (fun h => ?_) fun _ => by walk_at "pu") ?_) ?_)
  · cases d with
    | str s => exact pl_split (by walk_at "pr") (Pu.r (ps (by decide +kernel))) KC.sep1 (show Sg 99000 s from hd).2
    | _ => cases h
  · cases d <;> rfl
  dsimp only [List.set]
  have hs : ∀ p ∈ halvesD d, Sg 99000 p := by
    intro p hp
    cases d with
    | str s => exact split_sg KC.sep1 hp hd
    | _ => cases hp
  have e : ∀ h t, halvesD d = [h, t] → ∀ o r, Txt.split h " if " = o :: r → lawRowD d names tags = KC.lawIn o (r.length + 1) (condsOf r) (Txt.split t ", ") names tags := by
    intro h t hht o r hor
    cases d with
    | str s =>
      have hht' : Txt.split s ": " = [h, t] := hht
      unfold lawRowD KC.lawRow
      dsimp only
      rw [hht']
      dsimp only
      rw [hor]
      match r with
      | [] => rfl
      | [c] => rfl
      | _ :: _ :: _ => rfl
    | _ => cases hht
  have e0 : (halvesD d).length ≠ 2 → lawRowD d names tags = false := by
    intro hl
    cases d with
    | str s =>
      have hl' : (Txt.split s ": ").length ≠ 2 := hl
      unfold lawRowD KC.lawRow
      dsimp only
      split
      · rename_i q
        rw [q] at hl'
        exact absurd rfl hl'
      · rfl
    | _ => rfl
  refine sw_seq (sw_ifP (tt_cmp (Pu.r (pb_neI (Pu.r (pn_len (by walk_at "pr"))) pn.r))) (fun hc => ?_) fun hc => ?_)
  · refine sw_retP pbb ?_
    rw [e0 (fun z => by rw [z] at hc; simp at hc)] at k
    exact k
  · refine sw_skip ?_
    have hl : (halvesD d).length = 2 := by
      have := hc
      simp at this
      omega
    match q : halvesD d, hl with
    | [h, t], _ =>
      rw [q] at hs
      refine w_isrow2 (hs h (by simp)) (hs t (by simp)) hn hg ln lt fun o r hor => ?_
      rw [← e h t q o r hor]
      exact k
end
end L2.K06

set_option Elab.async false
set_option maxRecDepth 100000
set_option maxHeartbeats 400000
set_option linter.all false
/-! Drawn rows: signs and lengths. -/
namespace L2.K06
open PySem PySem.Spec PyProof.Rows XK Evl XC TL EV
local macro_rules | `(tactic| walk_at "pr") => `(tactic| first | (apply pr_own; rfl) | (apply Pu.r; walk_at "pu"))
local macro_rules | `(tactic| walk_at "pls") => `(tactic| first | exact pns | (apply pcs; walk_at "pu"; walk_at "pls"))
local macro_rules | `(tactic| walk_at "pu") => `(tactic| first | (apply pu_var; rfl) | exact pn | exact pbb | (apply ps; decide +kernel) | (apply pl_lst; walk_at "pls"; simp) | (apply pl_cat; walk_at "pr"; walk_at "pr"; first | omega | (simp <;> omega)))
abbrev AllSg (L : Nat) (l : List Str) : Prop := ∀ s ∈ l, Sg L s
theorem allsg_nil {L : Nat} : AllSg L [] := fun _ z => nomatch z
theorem AllSg.app {L : Nat} {a b : List Str} (ha : AllSg L a) (hb : AllSg L b) : AllSg L (a ++ b) := fun s hs => (List.mem_append.mp hs).elim (ha s) (hb s)
theorem AllSg.map {L M P : Nat} {p : Str} {a : List Str} (hp : Sg P p) (ha : AllSg M a) (h : P + M ≤ L) : AllSg L (a.map (p ++ ·)) := fun s hs => by
  obtain ⟨w, hw, rfl⟩ := List.mem_map.mp hs
  have := ha w hw
  refine ⟨sign_app hp.1 this.1, ?_⟩
  show (p ++ w).length ≤ L
  rw [app_len]
  have := hp.2
  have := (ha w hw).2
  omega
theorem AllSg.mono {L M : Nat} {a : List Str} (ha : AllSg M a) (h : M ≤ L) : AllSg L a := fun s hs => ⟨(ha s hs).1, Nat.le_trans (ha s hs).2 h⟩
theorem AllSg.ite {L : Nat} {c : Bool} {a b : List Str} (ha : AllSg L a) (hb : AllSg L b) : AllSg L (if c then a else b) := by
  cases c
  · exact hb
  · exact ha
def sgB (L : Nat) (l : List Str) : Bool := l.all fun s => s.cps.toList.all (fun c => decide (32 ≤ c) && decide (c < 127)) && decide (s.length ≤ L)
theorem sg_lit {L : Nat} {l : List Str} (h : sgB L l = true) : AllSg L l := fun s hs => by
  have := List.all_eq_true.mp h s hs
  rw [Bool.and_eq_true, List.all_eq_true, decide_eq_true_eq] at this
  refine ⟨fun c hc => ?_, this.2⟩
  have := this.1 c hc
  rw [Bool.and_eq_true, decide_eq_true_eq, decide_eq_true_eq] at this
  exact this
theorem joinL_mem {S : List Nat} {c : Nat} : ∀ {l : List (List Nat)}, c ∈ joinL S l → c ∈ S ∨ ∃ p ∈ l, c ∈ p
  | [], h => by cases h
  | [x], h => .inr ⟨x, List.mem_singleton_self _, h⟩
  | x :: y :: l, h => by
    have h' : c ∈ x ++ (S ++ joinL S (y :: l)) := h
    rcases List.mem_append.mp h' with h | h
    · exact .inr ⟨x, List.mem_cons_self, h⟩
    · rcases List.mem_append.mp h with h | h
      · exact .inl h
      · rcases joinL_mem h with h | ⟨p, hp, h⟩
        · exact .inl h
        · exact .inr ⟨p, List.mem_cons_of_mem _ hp, h⟩
theorem join_sign {s : Str} {l : List Str} (hs : signS s) (hl : ∀ x ∈ l, signS x) : signS (Txt.join s l) := fun c hc => by
  have hc' : c ∈ tl (Txt.join s l) := hc
  rw [join_eq, tl_join] at hc'
  rcases joinL_mem hc' with h | ⟨p, hp, h⟩
  · exact hs c h
  · obtain ⟨x, hx, rfl⟩ := List.mem_map.mp hp
    exact hl x hx c h
theorem join_lenS (s : Str) (l : List Str) : (Txt.join s l).length ≤ (l.map (·.length)).sum + l.length * s.length := by
  rw [len_tl, join_eq, tl_join]
  refine Nat.le_trans (DL.joinL_len _ _) ?_
  rw [List.map_map, List.length_map, ← len_tl]
  exact Nat.le_of_eq (by congr 2)
theorem sum_sg {L : Nat} : ∀ {l : List Str}, AllSg L l → (l.map (·.length)).sum ≤ l.length * L
  | [], _ => by simp
  | x :: l, h => by
    have ih := sum_sg (l := l) fun s hs => h s (List.mem_cons_of_mem _ hs)
    have := (h x List.mem_cons_self).2
    rw [List.map_cons, List.sum_cons, List.length_cons, Nat.add_mul]
    omega
theorem join_sg {L P c : Nat} {s : Str} {l : List Str} (hs : Sg P s) (hl : AllSg L l) (hc : l.length ≤ c) : Sg (c * (L + P)) (Txt.join s l) := by
  refine ⟨join_sign hs.1 fun x hx => (hl x hx).1, ?_⟩
  have h1 := join_lenS s l
  have h2 := sum_sg hl
  have h3 : l.length * s.length ≤ l.length * P := Nat.mul_le_mul_left _ hs.2
  have h4 : l.length * (L + P) ≤ c * (L + P) := Nat.mul_le_mul_right _ hc
  rw [Nat.mul_add] at h4
  omega
theorem join_room {L P c : Nat} {s : Str} {l : List Str} (hs : Sg P s) (hl : AllSg L l) (hc : l.length ≤ c) (h : c * (L + P) ≤ 100000) : (l.map (·.length)).sum + l.length * s.length ≤ 100000 := by
  have h2 := sum_sg hl
  have h3 : l.length * s.length ≤ l.length * P := Nat.mul_le_mul_left _ hs.2
  have h4 : l.length * (L + P) ≤ c * (L + P) := Nat.mul_le_mul_right _ hc
  rw [Nat.mul_add] at h4
  omega
theorem Sg.app {L M P : Nat} {x y : Str} (hx : Sg M x) (hy : Sg P y) (h : M + P ≤ L) : Sg L (x ++ y) := ⟨sign_app hx.1 hy.1, by rw [app_len]; have := hx.2; have := hy.2; omega⟩
theorem Sg.mono {L M : Nat} {x : Str} (hx : Sg M x) (h : M ≤ L) : Sg L x := ⟨hx.1, Nat.le_trans hx.2 h⟩
theorem sg1 {L : Nat} {s : Str} (h : sgB L [s] = true) : Sg L s := sg_lit h s (List.mem_singleton_self _)
/-- numbers written, one drawn -/
theorem ix_ints {l : List Int} {b : Int} (hb : ∀ v ∈ l, 0 ≤ v ∧ v ≤ b) {r : Int} (r0 : 0 ≤ r) (r1 : r < l.length) {F : PyData → Prop} (h : ∀ v, 0 ≤ v → v ≤ b → F (.int v)) : ∃ d, atI (l.map PyData.int) r = some d ∧ F d := by
  obtain ⟨j, rfl⟩ := Int.eq_ofNat_of_zero_le r0
  have hj : j < l.length := by omega
  have m := List.getElem_mem hj
  refine ⟨.int l[j], atI_nat (by rw [List.getElem?_map, List.getElem?_eq_getElem hj]; rfl), h _ (hb _ m).1 (hb _ m).2⟩
theorem ix_strs {l : List Str} {r : Int} (r0 : 0 ≤ r) (r1 : r < l.length) {F : PyData → Prop} (h : ∀ v ∈ l, F (.str v)) : ∃ d, atI (l.map PyData.str) r = some d ∧ F d := by
  obtain ⟨j, rfl⟩ := Int.eq_ofNat_of_zero_le r0
  have hj : j < l.length := by omega
  exact ⟨.str l[j], atI_nat (by rw [List.getElem?_map, List.getElem?_eq_getElem hj]; rfl), h _ (List.getElem_mem hj)⟩
section
variable {K : PySem.W.Frag} {n : Int} {names tags : List Str} {G : Vd → Prop}
abbrev Nl (n : Int) (G : Vd → Prop) : En → Int → Prop := fun _ m => m ≤ n + 20 ∧ G (.d .none)
abbrev Tl (n : Int) (G : Vd → Prop) : Vd → Int → Prop := fun v m => m ≤ n + 20 ∧ G v
/-- behind the menus -/
theorem w_loose11 {x3v x5v : Vd} {x17 : Sl} {conds deeds labels : List Str} {occ : Str} {mode : Int} (hn : n + 20 ≤ 1000000) (ho : Sg 20 occ) (hc : AllSg 20 conds) (hd : AllSg 20 deeds) (c0 : conds ≠ []) (d0 : deeds ≠ []) (cl : conds.length ≤ 200) (dl : deeds.length ≤ 200)
    (k : ∀ s, Sg 400 s → 1 ≤ s.length → G (.d (.str s))) :
    dLawLooseRow11.w K [.pl, .va (.d (SL names)), .va (.d (SL tags)), .va x3v, .va (.d (.str occ)), .va x5v, .va (.d (SL conds)), .va (.d (SL deeds)), .un, .un, .un, .va (.d (.int mode)), .va (.d (SL labels)), .un, .un, .un, .un, x17] (n + 2) (Nl n G) (Tl n G) := by
  have hm : ∀ v ∈ ([0, 0, 1, 2, 3, 4, 4, 5] : List Int), 0 ≤ v ∧ v ≤ 5 := by decide
  have hm' : ∀ v ∈ ([1, 1, 1, 2, 3, 4, 4, 5] : List Int), 0 ≤ v ∧ v ≤ 5 := by decide
  have li : ∀ {ρ : En}, Pu K (.lst (.cons (.dat (.int 0)) (.cons (.dat (.int 0)) (.cons (.dat (.int 1)) (.cons (.dat (.int 2)) (.cons (.dat (.int 3)) (.cons (.dat (.int 4)) (.cons (.dat (.int 4)) (.cons (.dat (.int 5)) .nil))))))))) ρ (.list (([0, 0, 1, 2, 3, 4, 4, 5] : List Int).map .int)) :=
    pu_lst (tss_cons pn (tss_cons pn (tss_cons pn (tss_cons pn (tss_cons pn (tss_cons pn (tss_cons pn (tss_cons pn tss_nil)))))))) (by decide)
  have li' : ∀ {ρ : En}, Pu K (.lst (.cons (.dat (.int 1)) (.cons (.dat (.int 1)) (.cons (.dat (.int 1)) (.cons (.dat (.int 2)) (.cons (.dat (.int 3)) (.cons (.dat (.int 4)) (.cons (.dat (.int 4)) (.cons (.dat (.int 5)) .nil))))))))) ρ (.list (([1, 1, 1, 2, 3, 4, 4, 5] : List Int).map .int)) :=
    pu_lst (tss_cons pn (tss_cons pn (tss_cons pn (tss_cons pn (tss_cons pn (tss_cons pn (tss_cons pn (tss_cons pn tss_nil)))))))) (by decide)
  refine sw_seq (sw_par (ltS rfl) (ltS rfl) (w_opDR (by rfl) li.r pn.r (by decide) (by decide) (by omega) fun r r0 r1 => ix_ints (b := 5) hm r0 r1 fun many m0 m5 => ?_))
  refine w_opDR (by rfl) li'.r pn.r (by decide) (by decide) (by omega) fun r' r0' r1' => ix_ints (b := 5) hm' r0' r1' fun more e0 e5 => ?_
  dsimp only [List.set]
  have signs : AllSg 8 (["", "", "", "", "not ", "not ", "not ", "not not "] : List Str) := sg_lit (by decide +kernel)
  refine sw_seq (sw_asg (ltS rfl) (w_lcS (fun i l m => l.length = i ∧ AllSg 8 l ∧ m = n + 4 + i) (by rfl) (ltS rfl) (ti_rng (by walk_at "pr") (by omega) (by omega)) (by rw [DL.iota_len]; omega) ⟨rfl, allsg_nil, by omega⟩ (fun i x l m hx iv => ?_) fun l m iv => ?_))
  · obtain ⟨hl, hs, hm⟩ := iv
    have hi := (DL.iota_at hx).2
    refine w_opDR (x := SL ["", "", "", "", "not ", "not ", "not ", "not not "]) (by rfl) (by walk_at "pr") pn.r (by decide) (by decide) (by omega) fun r2 r20 r21 => ix_strs (l := ["", "", "", "", "not ", "not ", "not ", "not not "]) r20 r21 fun v hv => ?_
    dsimp only [onD]
    refine ap_str ⟨by rw [List.length_append, hl]; rfl, hs.app fun s h => ?_, by push_cast; omega⟩
    rw [List.mem_singleton.mp h]
    exact signs v hv
  obtain ⟨hl, hs, hm1⟩ := iv
  rw [DL.iota_len] at hl hm1
  dsimp only [List.set]
  refine sw_seq (sw_asg (ltS rfl) (w_lcS (fun i l' m' => l'.length = i ∧ AllSg 28 l' ∧ m' = n + 4 + l.length + i) (by rfl) (ltS rfl) (ti_list (by walk_at "pu")) (by rw [List.length_map]; omega) ⟨rfl, allsg_nil, by omega⟩ (fun i x l' m' hx iv => ?_) fun l' m' iv => ?_))
  · obtain ⟨hl', hs', hm'⟩ := iv
    have hi : i < l.length := by
      have := (List.getElem?_eq_some_iff.mp hx).1
      rwa [List.length_map] at this
    rw [List.getElem?_map, List.getElem?_eq_getElem hi] at hx
    have hx' : x = .str l[i] := by cases hx; rfl
    subst hx'
    refine w_opPR (x := .str l[i]) (l := conds) (by rfl) (by walk_at "pr") (by walk_at "pr") c0 (by omega) (by omega) fun c hcm => ⟨?_, ?_⟩
    · have := (hs _ (List.getElem_mem hi)).2
      have := (hc c hcm).2
      omega
    dsimp only [onD]
    refine ap_str ⟨by rw [List.length_append, hl']; rfl, hs'.app fun s h => ?_, by push_cast; omega⟩
    rw [List.mem_singleton.mp h]
    exact (hs _ (List.getElem_mem hi)).app (hc c hcm) (by decide)
  obtain ⟨hl', hs', hm2⟩ := iv
  rw [List.length_map] at hl' hm2
  dsimp only [List.set]
  have l5 : l'.length ≤ 5 := by omega
  have pAnd : Sg 5 (" and " : Str) := sg1 (by decide +kernel)
  have pIf : Sg 4 (" if " : Str) := sg1 (by decide +kernel)
  have pCo : Sg 2 (", " : Str) := sg1 (by decide +kernel)
  have pC : Sg 2 (": " : Str) := sg1 (by decide +kernel)
  have pE : Sg 0 ("" : Str) := sg1 (by decide +kernel)
  have jA := join_sg pAnd hs' l5
  have q1 := (pIf.app jA (L := 169) (by decide))
  obtain ⟨mid, hmid⟩ : ∃ mid : Str, mid = (if (!decide (l' = [])) then (" if " : Str) ++ Txt.join " and " l' else "") := ⟨_, rfl⟩
  have sm : Sg 169 mid := by
    rw [hmid]
    split
    · exact q1
    · exact pE.mono (by decide)
  refine sw_seq (sw_asgP (ltS rfl) (ps_add (by walk_at "pr") (Pu.r (Pu.at_ (x := .str mid) (ps_ite (tt_cmp (Pu.r (pb_neNil (by walk_at "pr") fun s h => (hs' s h).1))) (fun _ => ps_add (Pu.r (ps (by decide +kernel))) (Pu.r (ps_join (Pu.r (ps (by decide +kernel))) (by walk_at "pr") (join_room pAnd hs' l5 (by decide)))) (by have := q1.2; rw [app_len] at this; omega))
    fun _ => ps (by decide +kernel)) (by rw [hmid]))) (by have := ho.2; have := sm.2; omega)) ?_)
  dsimp only [List.set]
  refine sw_ret (w_opR (Pu.r (ps_add (by walk_at "pr") (Pu.r (ps (by decide +kernel))) ?_)) ?_)
  · have := ho.2
    have := sm.2
    have := pC.2
    rw [app_len]
    omega
  apply w_joinLc (ds := DL.iota more.toNat) (fun i l2 m2 => l2.length = i ∧ AllSg 20 l2 ∧ m2 = m' + i)
  · exact Pu.r (ps (by decide +kernel))
  · rfl
  · exact ltS rfl
  · exact ti_rng (by walk_at "pr") (by omega) (by omega)
  · rw [DL.iota_len]; omega
  · exact ⟨rfl, allsg_nil, by omega⟩
  · intro i x l2 m2 hx iv
    obtain ⟨hl2, hs2, hm3⟩ := iv
    have hi := (DL.iota_at hx).2
    refine w_pick (l := deeds) (by rfl) (by walk_at "pr") d0 (by omega) (by omega) fun c hcm => ?_
    dsimp only [onD]
    refine ap_str ⟨by rw [List.length_append, hl2]; rfl, hs2.app fun s h => ?_, by push_cast; omega⟩
    rw [List.mem_singleton.mp h]
    exact hd c hcm
  · intro l2 m2 iv
    obtain ⟨hl2, hs2, hm3⟩ := iv
    rw [DL.iota_len] at hl2 hm3
    have l25 : l2.length ≤ 5 := by omega
    have jD := join_sg pCo hs2 l25
    have head : Sg 191 (occ ++ mid ++ (": " : Str)) := (ho.app sm (by decide) (L := 189)).app pC (by decide)
    have all := head.app jD (L := 301) (by decide)
    refine ⟨join_room pCo hs2 l25 (by decide), ?_, ?_⟩
    · have := all.2
      rw [app_len] at this
      omega
    · refine ⟨by omega, k _ (all.mono (by decide)) ?_⟩
      have pCl : (": " : Str).length = 2 := by decide +kernel
      rw [app_len, app_len, pCl]
      omega
theorem pK : Sg 4 ("key " : Str) := sg1 (by decide +kernel)
theorem pIn : Sg 3 ("in " : Str) := sg1 (by decide +kernel)
theorem pSt : Sg 6 ("stand " : Str) := sg1 (by decide +kernel)
theorem pNw : AllSg 8 (["nowhere"] : List Str) := sg_lit (by decide +kernel)
theorem pu_pre {ρ : En} {it : Itx} {j : Nat} {p : Str} {l : List Str} {P M : Nat} (hp : Sg P p) (hl : AllSg M l) (h1 : noOw ρ j = true) (hj : j < ρ.length) (hi : EV.PI K it ρ (l.map .str)) (hz : l.length ≤ 1000) (pm : P + M ≤ 1000) :
    Pu K (.lc it (.name j) .yes (.op .addS (.dat (.str p)) (.var j))) ρ (SL (l.map (p ++ ·))) :=
  pl_map h1 hj hi (by omega) fun x hx => ps_add (Pu.r (pu_dat (decide_eq_true (by have := hp.2; omega)))) (Pu.r (pu_var (List.getElem?_set_self (by rw [List.length_set]; exact hj)))) (by have := hp.2; have := (hl x hx).2; omega)
/-- behind the occasion -/
theorem w_loose4 {labels : List Str} {x3v : Vd} {occ : Str} {mode : Int} (hn : n + 20 ≤ 1000000) (nn : names.length ≤ 6) (ln : labels.length ≤ 20) (ns : AllSg 8 names) (ls : AllSg 8 labels) (ho : Sg 20 occ)
    (k : ∀ s, Sg 400 s → 1 ≤ s.length → G (.d (.str s))) :
    dLawLooseRow4.w K [.pl, .va (.d (SL names)), .va (.d (SL tags)), .va x3v, .va (.d (.str occ)), .un, .un, .un, .un, .un, .un, .va (.d (.int mode)), .va (.d (SL labels)), .un, .un, .un, .un, .un] (n + 2) (Nl n G) (Tl n G) := by
  refine sw_seq (sw_asgP (ltS rfl) (pu_or (Pu.r (pb_eqI (by walk_at "pr") pn.r)) fun _ => pb_nin (by walk_at "pr") (by walk_at "pr")) ?_)
  generalize (decide (mode = 2) || _) = ph
  dsimp only [List.set]
  have c1 : AllSg 20 (["caller", "joined", "a", "b", "ear a", "ear b"] : List Str) := sg_lit (by decide +kernel)
  have c2 : AllSg 20 (["me a", "me b", "busy"] : List Str) := sg_lit (by decide +kernel)
  have c3 : AllSg 20 (["ear", "in", "voice", "stranger", "busy"] : List Str) := sg_lit (by decide +kernel)
  have d1 : AllSg 20 (["a none", "a some", "b none", "b some", "swap", "deaf", "part"] : List Str) := sg_lit (by decide +kernel)
  have d2 : AllSg 20 (["a me", "b me"] : List Str) := sg_lit (by decide +kernel)
  have d3 : AllSg 20 (["hear", "join"] : List Str) := sg_lit (by decide +kernel)
  have d4 : AllSg 20 (["hear", "a me", "a", "stand", ""] : List Str) := sg_lit (by decide +kernel)
  refine sw_seq (sw_asgP (ltS rfl) (pl_cat (by walk_at "pr") (Pu.r (pu_pre pIn ns (by rfl) (ltS rfl) (ti_list (by walk_at "pu")) (by omega) (by decide))) (by simp; omega)) ?_)
  dsimp only [List.set]
  refine sw_seq (sw_asgP (ltS rfl) (pl_cat (by walk_at "pr") (Pu.r (pl_ite (tt_val (by walk_at "pr")) (fun _ => by walk_at "pu") fun _ => by walk_at "pu")) (by cases ph <;> simp <;> omega)) ?_)
  obtain ⟨conds, hconds⟩ : ∃ conds, conds = ((["caller", "joined", "a", "b", "ear a", "ear b"] : List Str) ++ names.map (("in " : Str) ++ ·)) ++ (if ph then (["me a", "me b", "busy"] : List Str) else []) := ⟨_, rfl⟩
  rw [← hconds]
  have kc : AllSg 20 conds := by
    rw [hconds]
    exact (c1.app (AllSg.map pIn ns (by decide))).app (AllSg.ite c2 allsg_nil)
  have cl : conds.length ≤ 20 := by
    rw [hconds]
    cases ph <;> simp <;> omega
  have cn : conds ≠ [] := by
    rw [hconds]
    simp
  clear hconds
  dsimp only [List.set]
  refine sw_seq (sw_asgP (ltS rfl) (pl_cat (by walk_at "pr") (Pu.r (pu_pre pSt ns (by rfl) (ltS rfl) (ti_list (by walk_at "pu")) (by omega) (by decide))) (by simp; omega)) ?_)
  dsimp only [List.set]
  refine sw_seq (sw_asgP (ltS rfl) (pl_cat (by walk_at "pr") (Pu.r (pl_ite (tt_val (by walk_at "pr")) (fun _ => by walk_at "pu") fun _ => by walk_at "pu")) (by cases ph <;> simp <;> omega)) ?_)
  dsimp only [List.set]
  refine sw_seq (sw_asgP (ltS rfl) (pl_cat (by walk_at "pr") (Pu.r (pl_ite (tt_an (tt_val (by walk_at "pr")) fun _ => tt_or (tt_cmp (Pu.r (pb_eqI (by walk_at "pr") pn.r))) fun _ => tt_cmp (Pu.r (pb_neS (by walk_at "pr") (by walk_at "pr")))) (fun _ => by walk_at "pu") fun _ => by walk_at "pu")) ?_) ?_)
  · generalize (ph && _) = b2
    cases ph <;> cases b2 <;> simp <;> omega
  generalize (ph && _) = b2
  obtain ⟨deeds, hdeeds⟩ : ∃ deeds, deeds = ((((["a none", "a some", "b none", "b some", "swap", "deaf", "part"] : List Str) ++ names.map (("stand " : Str) ++ ·)) ++ (if ph then (["a me", "b me"] : List Str) else [])) ++ (if b2 then (["hear", "join"] : List Str) else [])) := ⟨_, rfl⟩
  rw [← hdeeds]
  have kd : AllSg 20 deeds := by
    rw [hdeeds]
    exact ((d1.app (AllSg.map pSt ns (by decide))).app (AllSg.ite d2 allsg_nil)).app (AllSg.ite d3 allsg_nil)
  have dl : deeds.length ≤ 20 := by
    rw [hdeeds]
    cases ph <;> cases b2 <;> simp <;> omega
  have dn : deeds ≠ [] := by
    rw [hdeeds]
    simp
  clear hdeeds
  dsimp only [List.set]
  refine sw_seq (sw_ifP (tt_cmp (Pu.r (pb_eqI (by walk_at "pr") pn.r))) (fun _ => ?_) fun _ => ?_)
  · refine sw_seq (sw_asgP (ltS rfl) (pl_cat (by walk_at "pr") (Pu.r (pu_pre pIn ls (by rfl) (ltS rfl) (ti_list (by walk_at "pu")) (by omega) (by decide))) (by simp; omega)) ?_)
    dsimp only [List.set]
    refine sw_asgP (ltS rfl) (pl_cat (by walk_at "pr") (Pu.r (pu_pre pSt ls (by rfl) (ltS rfl) (ti_list (by walk_at "pu")) (by omega) (by decide))) (by simp; omega)) ?_
    dsimp only [List.set]
    exact w_loose11 hn ho ((kc.app c3).app (AllSg.map pIn ls (by decide))) ((kd.app d4).app (AllSg.map pSt ls (by decide))) (by simp [cn]) (by simp [dn]) (by simp; omega) (by simp; omega) k
  · exact sw_skip (w_loose11 hn ho kc kd cn dn (by omega) (by omega) k)
theorem w_loose (hn : n + 20 ≤ 1000000) (nn : names.length ≤ 6) (tn : tags.length ≤ 6) (ns : AllSg 8 names) (ts : AllSg 8 tags) (k : ∀ s, Sg 400 s → 1 ≤ s.length → G (.d (.str s))) :
    dLawLooseRow.w K (.pl :: envV [.d (SL names), .d (SL tags)] 15) n (Nl n G) (Tl n G) := by
  change dLawLooseRow.w K [.pl, .va (.d (SL names)), .va (.d (SL tags)), .un, .un, .un, .un, .un, .un, .un, .un, .un, .un, .un, .un, .un, .un, .un] n (Nl n G) (Tl n G)
  refine sw_seq (sw_par (ltS rfl) (ltS rfl) (w_draw (by rfl) pn.r (by decide) (by decide) (by omega) fun mode m0 m1 => pu_of (pl_cat (Pu.r (pl_cat (by walk_at "pr") (by walk_at "pr") (by omega))) (by walk_at "pr") (by simp; omega)) ?_))
  dsimp only [List.set]
  obtain ⟨labels, hlabels⟩ : ∃ labels, labels = (names ++ tags) ++ (["nowhere"] : List Str) := ⟨_, rfl⟩
  rw [← hlabels]
  have ls : AllSg 8 labels := by
    rw [hlabels]
    exact (ns.app ts).app pNw
  have ll : labels.length ≤ 20 := by
    rw [hlabels]
    simp
    omega
  clear hlabels
  have o1 : AllSg 20 (["call", "gone", "late", "lay"] : List Str) := sg_lit (by decide +kernel)
  have o2 : AllSg 20 (["key", "ring"] : List Str) := sg_lit (by decide +kernel)
  refine sw_seq (sw_asgP (ltS rfl) (pl_cat (by walk_at "pr") (Pu.r (pu_pre (l := tags ++ tags) pK (ts.app ts) (by rfl) (ltS rfl) (ti_list (by walk_at "pu")) (by simp; omega) (by decide))) (by simp; omega)) ?_)
  dsimp only [List.set]
  have k1 := o1.app (AllSg.map pK (ts.app ts) (by decide) (L := 20))
  have rest : ∀ occs : List Str, AllSg 20 occs → occs ≠ [] → occs.length ≤ 100 → dLawLooseRow3.w K [.pl, .va (.d (SL names)), .va (.d (SL tags)), .va (.d (SL occs)), .un, .un, .un, .un, .un, .un, .un, .va (.d (.int mode)), .va (.d (SL labels)), .un, .un, .un, .un, .un] (n + 1) (Nl n G) (Tl n G) := by
    intro occs ho hne hl
    refine sw_seq (sw_asg (ltS rfl) (w_pick (l := occs) (by rfl) (by walk_at "pr") hne (by omega) (by omega) fun occ hocc => ?_))
    dsimp only [List.set]
    rw [Int.add_assoc]
    exact w_loose4 hn nn ll ns ls (ho occ hocc) k
  refine sw_seq (sw_ifP (tt_cmp (Pu.r (pb_eqI (by walk_at "pr") pn.r))) (fun _ => ?_) fun _ => ?_)
  · refine sw_asgP (ltS rfl) (pl_cat (Pu.r (pl_cat (by walk_at "pr") (by walk_at "pr") (by simp; omega))) (Pu.r (pu_pre pK ls (by rfl) (ltS rfl) (ti_list (by walk_at "pu")) (by omega) (by decide))) (by simp; omega)) ?_
    dsimp only [List.set]
    exact rest _ ((k1.app o2).app (AllSg.map pK ls (by decide))) (by simp) (by simp; omega)
  · exact sw_skip (rest _ k1 (by simp) (by simp; omega))
end
end L2.K06

set_option Elab.async false
set_option maxRecDepth 100000
set_option maxHeartbeats 400000
set_option linter.all false
/-! A row bent. -/
namespace L2.K06
open PySem PySem.Spec PyProof.Rows XK Evl XC TL EV
local macro_rules | `(tactic| walk_at "pr") => `(tactic| first | (apply pr_own; rfl) | (apply Pu.r; walk_at "pu"))
local macro_rules | `(tactic| walk_at "pls") => `(tactic| first | exact pns | (apply pcs; walk_at "pu"; walk_at "pls"))
local macro_rules | `(tactic| walk_at "pu") => `(tactic| first | (apply pu_var; rfl) | exact pn | exact pbb | (apply ps; decide +kernel) | (apply pl_lst; walk_at "pls"; simp) | (apply pl_cat; walk_at "pr"; walk_at "pr"; first | omega | (simp <;> omega)))
theorem sepB : Sep (" " : Str) := ⟨by decide +kernel, by decide +kernel⟩
theorem joinL_eq (S : List Nat) : ∀ {l : List (List Nat)}, l ≠ [] → (joinL S l).length + S.length = (l.map List.length).sum + l.length * S.length
  | [], h => absurd rfl h
  | [x], _ => by simp [joinL]
  | x :: y :: l, _ => by
    have ih := joinL_eq S (l := y :: l) (by simp)
    have e : joinL S (x :: y :: l) = x ++ (S ++ joinL S (y :: l)) := rfl
    rw [e, List.length_append, List.length_append, List.map_cons, List.sum_cons, List.length_cons, Nat.add_mul]
    omega
theorem split_sum (s : Str) : ((Txt.split s " ").map (·.length)).sum + (Txt.split s " ").length = s.length + 1 := by
  have e := join_split' sepB s
  have h := joinL_eq (tl (" " : Str)) (l := (Txt.split s " ").map tl) (by simpa using split_ne sepB s)
  have e2 : s.length = (joinL (tl (" " : Str)) ((Txt.split s " ").map tl)).length := by
    conv => lhs; rw [← e]
    rw [len_tl, join_eq, tl_join]
  have e3 : (tl (" " : Str)).length = 1 := by decide +kernel
  rw [e3, List.map_map, List.length_map] at h
  have e4 : (Txt.split s " ").map (List.length ∘ tl) = (Txt.split s " ").map (·.length) := List.map_congr_left fun x _ => (len_tl x).symm
  rw [e4] at h
  omega
def cutL (l : List Str) (lo hi : Option Int) : List Str := (l.drop (HT.sIx l.length 0 lo)).take (HT.sIx l.length l.length hi - HT.sIx l.length 0 lo)
theorem cutD_map (l : List Str) (lo hi : Option Int) : DL.cutD (l.map PyData.str) lo hi = (cutL l lo hi).map PyData.str := by
  unfold DL.cutD cutL
  rw [List.length_map, List.map_take, List.map_drop]
theorem cutL_sub (l : List Str) (lo hi : Option Int) {s : Str} (h : s ∈ cutL l lo hi) : s ∈ l := List.mem_of_mem_drop (List.mem_of_mem_take h)
theorem sum_drop (f : Str → Nat) : ∀ (n : Nat) (l : List Str), ((l.drop n).map f).sum ≤ (l.map f).sum
  | 0, l => by simp
  | n + 1, [] => by simp
  | n + 1, x :: l => by
    have := sum_drop f n l
    rw [List.drop_succ_cons, List.map_cons, List.sum_cons]
    omega
theorem sum_take (f : Str → Nat) : ∀ (n : Nat) (l : List Str), ((l.take n).map f).sum ≤ (l.map f).sum
  | 0, l => by simp
  | n + 1, [] => by simp
  | n + 1, x :: l => by
    have := sum_take f n l
    rw [List.take_succ_cons, List.map_cons, List.map_cons, List.sum_cons, List.sum_cons]
    omega
theorem cutL_sum (l : List Str) (lo hi : Option Int) : ((cutL l lo hi).map (·.length)).sum ≤ (l.map (·.length)).sum := Nat.le_trans (sum_take _ _ _) (sum_drop _ _ _)
theorem cutL_len (l : List Str) (lo hi : Option Int) : (cutL l lo hi).length ≤ l.length := by
  unfold cutL
  rw [List.length_take, List.length_drop]
  omega
theorem pl_cut {K : PySem.W.Frag} {ρ : En} {a : Ex} {l : List Str} {lo hi : Exo} {o1 o2 : Option Int} (ha : Pr K a ρ (SL l)) (h1 : Po K lo ρ o1) (h2 : Po K hi ρ o2) : Pu K (.sl .lst a lo hi) ρ (SL (cutL l o1 o2)) := pu_sl ha h1 h2 fun F f => by
  show F (.list (DL.cutD (l.map PyData.str) o1 o2))
  rw [cutD_map]
  exact f
theorem cut_sg {L : Nat} {s : Str} {lo hi : Option Int} (h : Sg L s) : Sg L (cutS s lo hi) := ⟨fun c hc => h.1 c (mem_cut hc), Nat.le_trans (KC.cutS_len s lo hi) h.2⟩
def bentS : Str := " ,:abcdefghijklmnopqrstuvwxyzN0-"
theorem bent_at : ∀ j : Nat, j < 32 → ∃ c, atI bentS.cps.toList (j : Int) = some c ∧ 32 ≤ c ∧ c < 127 := by
  have h : ∀ j : Nat, j < 32 → (match atI bentS.cps.toList (j : Int) with
    | some c => decide (32 ≤ c) && decide (c < 127)
    | none => false) = true := by decide +kernel
  intro j hj
  have := h j hj
  cases q : atI bentS.cps.toList (j : Int) with
  | none => rw [q] at this; cases this
  | some c =>
    rw [q] at this
    dsimp only at this
    rw [Bool.and_eq_true, decide_eq_true_eq, decide_eq_true_eq] at this
    exact ⟨c, rfl, this⟩
section
variable {K : PySem.W.Frag} {n : Int} {s : Str} {G : Vd → Prop}
abbrev Nb (n : Int) (G : Vd → Prop) : En → Int → Prop := fun _ m => m ≤ n + 5 ∧ G (.d .none)
abbrev Tb5 (n : Int) (G : Vd → Prop) : Vd → Int → Prop := fun v m => m ≤ n + 5 ∧ G v
theorem w_bent5 {x2 : Vd} {way at_ : Int} (hn : n + 5 ≤ 1000000) (hs : Sg 400 s) (h1 : 1 ≤ s.length) (k : ∀ t, Sg 1500 t → G (.d (.str t))) :
    dLawBent5.w K [.pl, .va (.d (.str s)), .va x2, .un, .va (.d (.int way)), .va (.d (.int at_)), .un, .un, .un] (n + 3) (Nb n G) (Tb5 n G) := by
  refine sw_seq (sw_asgP (ltS rfl) (pl_split (by walk_at "pr") (Pu.r (ps (by decide +kernel))) sepB (by have := hs.2; omega)) ?_)
  obtain ⟨ws, hws⟩ : ∃ ws, ws = Txt.split s " " := ⟨_, rfl⟩
  have hsum := split_sum s
  have hne := split_ne sepB s
  have hsg : AllSg 400 ws := fun p hp => split_sg sepB (by rw [← hws]; exact hp) hs
  rw [← hws] at hsum hne
  rw [← hws]
  dsimp only [List.set]
  have hl := hs.2
  have wl : 1 ≤ ws.length := by
    cases ws with
    | nil => exact absurd rfl hne
    | cons a l => simp
  refine sw_seq (sw_asgT (w_tup (ws_draw (by rfl) (Pu.r (pn_len (by walk_at "pr"))) (by omega) (by omega) (by omega) fun one o0 o1 => ws_draw (by rfl) (Pu.r (pn_len (by walk_at "pr"))) (by omega) (by omega) (by omega) fun two t0 t1 => ws_nil ⟨by simp, rfl, by simp, ?_⟩)))
  dsimp only [setR, List.set]
  have pB : Sg 1 (" " : Str) := sg1 (by decide +kernel)
  have pBl : (" " : Str).length = 1 := by decide +kernel
  refine sw_seq (sw_ifP (tt_cmp (Pu.r (pb_eqI (by walk_at "pr") pn.r))) (fun _ => ?_) fun _ => ?_)
  · obtain ⟨l2, hl2⟩ : ∃ l2, l2 = cutL ws none (some one) ++ cutL ws (some (one + 1)) none := ⟨_, rfl⟩
    have a1 := cutL_sum ws none (some one)
    have a2 := cutL_sum ws (some (one + 1)) none
    have b1 := cutL_len ws none (some one)
    have b2 := cutL_len ws (some (one + 1)) none
    have l2s : (l2.map (·.length)).sum + l2.length * (" " : Str).length ≤ 1500 := by
      rw [hl2, List.map_append, List.sum_append, List.length_append, pBl]
      omega
    have sg : Sg 1500 (Txt.join " " l2) := ⟨join_sign pB.1 fun x hx => by
      rw [hl2] at hx
      rcases List.mem_append.mp hx with hx | hx
      · exact (hsg x (cutL_sub _ _ _ hx)).1
      · exact (hsg x (cutL_sub _ _ _ hx)).1, Nat.le_trans (join_lenS _ _) l2s⟩
    refine sw_retP (ps_join (l := l2) (Pu.r (ps (by decide +kernel))) (Pu.r (Pu.at_ (pl_cat (Pu.r (pl_cut (by walk_at "pr") po_no (po_at (by walk_at "pr")))) (Pu.r (pl_cut (by walk_at "pr") (po_at (Pu.r (pn_add (by walk_at "pr") pn.r))) po_no)) (by omega)) (by rw [hl2]))) (by omega)) ⟨by omega, k _ sg⟩
  · refine sw_skip (sw_ret ?_)
    obtain ⟨j1, rfl⟩ := Int.eq_ofNat_of_zero_le o0
    obtain ⟨j2, rfl⟩ := Int.eq_ofNat_of_zero_le t0
    have q1 : j1 < ws.length := by omega
    have q2 : j2 < ws.length := by omega
    have m400 : ∀ i (h : i < ws.length), ws[i].length ≤ 400 := fun i h => (hsg _ (List.getElem_mem h)).2
    apply w_joinLc (ds := DL.iota ws.length) (fun i l m => l.length = i ∧ AllSg 400 l ∧ (l.map (·.length)).sum ≤ ((ws.take i).map (·.length)).sum + (if j1 < i then 400 else 0) + (if j2 < i then 400 else 0) ∧ m = n + 5)
    · exact Pu.r (ps (by decide +kernel))
    · rfl
    · exact ltS rfl
    · have := ti_rng (K := K) (ρ := [.pl, .va (.d (.str s)), .va x2, .va (.d (SL ws)), .va (.d (.int way)), .va (.d (.int at_)), .va (.d (.int j1)), .va (.d (.int j2)), .un]) (e := .blt .len (.cons (.var 3) .nil)) (Pu.r (pn_len (l := ws) (by walk_at "pr"))) (by omega) (by omega)
      rw [Int.toNat_natCast] at this
      exact this
    · rw [DL.iota_len]; omega
    · exact ⟨rfl, allsg_nil, by simp, by omega⟩
    · intro i x l m hx iv
      obtain ⟨hl1, hg, hsm, hm⟩ := iv
      obtain ⟨rfl, hi⟩ := DL.iota_at hx
      refine pu_of (ps_ite (s := ws[j2]) (s' := if decide ((i : Int) = j2) then ws[j1] else ws[i]) (tt_cmp (Pu.r (pb_eqI (by walk_at "pr") (by walk_at "pr")))) (fun _ => ps_ix (r := j2) (by walk_at "pr") (by walk_at "pr") (atI_nat (List.getElem?_eq_getElem q2)))
        fun _ => ps_ite (tt_cmp (Pu.r (pb_eqI (by walk_at "pr") (by walk_at "pr")))) (fun _ => ps_ix (r := j1) (by walk_at "pr") (by walk_at "pr") (atI_nat (List.getElem?_eq_getElem q1))) fun _ => ps_ix (r := i) (by walk_at "pr") (by walk_at "pr") (atI_nat (List.getElem?_eq_getElem hi))) ?_
      dsimp only [onD]
      obtain ⟨g, hg'⟩ : ∃ g : Str, g = (if decide ((i : Int) = (j1 : Int)) then ws[j2] else if decide ((i : Int) = j2) then ws[j1] else ws[i]) := ⟨_, rfl⟩
      rw [← hg']
      have tk : ws.take (i + 1) = ws.take i ++ [ws[i]] := by
        rw [List.take_succ, List.getElem?_eq_getElem hi]
        rfl
      have gg : Sg 400 g := by
        rw [hg']
        split
        · exact hsg _ (List.getElem_mem q2)
        · split
          · exact hsg _ (List.getElem_mem q1)
          · exact hsg _ (List.getElem_mem hi)
      refine ap_str ⟨by rw [List.length_append, hl1]; rfl, hg.app fun s h => ?_, ?_, hm⟩
      · rw [List.mem_singleton.mp h]
        exact gg
      · rw [List.map_append, List.sum_append, tk, List.map_append, List.sum_append]
        have e1 : ([g].map (·.length)).sum = g.length := by simp
        have e2 : ([ws[i]].map (·.length)).sum = ws[i].length := by simp
        rw [e1, e2]
        have g4 := gg.2
        by_cases c1 : i = j1
        · rw [if_neg (by omega)] at hsm
          rw [if_pos (by omega : j1 < i + 1)]
          by_cases c2 : j2 < i
          · rw [if_pos c2] at hsm
            rw [if_pos (by omega : j2 < i + 1)]
            omega
          · rw [if_neg c2] at hsm
            omega
        · by_cases c2 : i = j2
          · rw [if_neg (by omega : ¬ j2 < i)] at hsm
            rw [if_pos (by omega : j2 < i + 1)]
            by_cases c3 : j1 < i
            · rw [if_pos c3] at hsm
              rw [if_pos (by omega : j1 < i + 1)]
              omega
            · rw [if_neg c3] at hsm
              omega
          · have : g = ws[i] := by
              rw [hg', if_neg (by simp; omega), if_neg (by simp; omega)]
            rw [this]
            have e5 : (if j1 < i + 1 then 400 else 0) = (if j1 < i then 400 else 0) := by
              by_cases c : j1 < i
              · rw [if_pos c, if_pos (by omega)]
              · rw [if_neg c, if_neg (by omega)]
            have e6 : (if j2 < i + 1 then 400 else 0) = (if j2 < i then 400 else 0) := by
              by_cases c : j2 < i
              · rw [if_pos c, if_pos (by omega)]
              · rw [if_neg c, if_neg (by omega)]
            rw [e5, e6]
            omega
    · intro l m iv
      obtain ⟨hl1, hg, hsm, hm⟩ := iv
      rw [DL.iota_len] at hl1 hsm
      rw [if_pos q1, if_pos q2, List.take_length] at hsm
      have tot : (l.map (·.length)).sum + l.length * (" " : Str).length ≤ 1500 := by
        rw [pBl]
        omega
      exact ⟨by omega, by omega, k _ ⟨join_sign pB.1 fun x hx => (hg x hx).1, Nat.le_trans (join_lenS _ _) tot⟩⟩
theorem w_bent (hn : n + 5 ≤ 1000000) (hs : Sg 400 s) (h1 : 1 ≤ s.length) (k : ∀ t, Sg 1500 t → G (.d (.str t))) :
    dLawBent.w K (.pl :: envV [.d (.str s)] 7) n (Nb n G) (Tb5 n G) := by
  change dLawBent.w K [.pl, .va (.d (.str s)), .un, .un, .un, .un, .un, .un, .un] n (Nb n G) (Tb5 n G)
  have hl := hs.2
  refine sw_seq (sw_par (ltS rfl) (ltS rfl) (w_draw (by rfl) pn.r (by decide) (by decide) (by omega) fun way y0 y1 => w_draw (by rfl) (Pu.r (pn_lenS (by walk_at "pr"))) (by omega) (by omega) (by omega) fun at_ a0 a1 => ?_))
  dsimp only [List.set]
  refine sw_seq (sw_asg (ltS rfl) (w_opDR (by rfl) (Pu.r (ps (by decide +kernel))) pn.r (by decide) (by decide) (by omega) fun r r0 r1 => ?_))
  obtain ⟨j, rfl⟩ := Int.eq_ofNat_of_zero_le r0
  obtain ⟨c, hc, c1, c2⟩ := bent_at j (by omega)
  refine ⟨c, hc, ?_⟩
  dsimp only [List.set]
  have pc : Sg 1 (⟨#[c]⟩ : Str) := ⟨fun d hd => by
    have hd' : d ∈ [c] := hd
    rw [List.mem_singleton.mp hd']
    exact ⟨c1, c2⟩, Nat.le_refl 1⟩
  have cu : ∀ lo hi, Sg 400 (cutS s lo hi) := fun lo hi => cut_sg hs
  have cl : ∀ lo hi, (cutS s lo hi).length ≤ 400 := fun lo hi => (cu lo hi).2
  have pl := pc.2
  refine sw_seq (sw_ifP (tt_cmp (Pu.r (pb_eqI (by walk_at "pr") pn.r))) (fun _ => ?_) fun _ => ?_)
  · exact sw_retP (ps_add (Pu.r (ps_add (Pu.r (ps_cut (by walk_at "pr") po_no (po_at (by walk_at "pr")))) (by walk_at "pr") (by have := cl none (some at_); omega))) (Pu.r (ps_cut (by walk_at "pr") (po_at (by walk_at "pr")) po_no)) (by rw [app_len]; have := cl none (some at_); have := cl (some at_) none; omega))
      ⟨by omega, k _ (((cu _ _).app pc (by decide) (L := 401)).app (cu _ _) (by decide))⟩
  refine sw_skip (sw_seq (sw_ifP (tt_cmp (Pu.r (pb_eqI (by walk_at "pr") pn.r))) (fun _ => ?_) fun _ => ?_))
  · exact sw_retP (ps_add (Pu.r (ps_cut (by walk_at "pr") po_no (po_at (by walk_at "pr")))) (Pu.r (ps_cut (by walk_at "pr") (po_at (Pu.r (pn_add (by walk_at "pr") pn.r))) po_no)) (by have := cl none (some at_); have := cl (some (at_ + 1)) none; omega))
      ⟨by omega, k _ ((cu _ _).app (cu _ _) (by decide))⟩
  refine sw_skip (sw_seq (sw_ifP (tt_cmp (Pu.r (pb_eqI (by walk_at "pr") pn.r))) (fun _ => ?_) fun _ => ?_))
  · exact sw_retP (ps_add (Pu.r (ps_add (Pu.r (ps_cut (by walk_at "pr") po_no (po_at (by walk_at "pr")))) (by walk_at "pr") (by have := cl none (some at_); omega))) (Pu.r (ps_cut (by walk_at "pr") (po_at (Pu.r (pn_add (by walk_at "pr") pn.r))) po_no)) (by rw [app_len]; have := cl none (some at_); have := cl (some (at_ + 1)) none; omega))
      ⟨by omega, k _ (((cu _ _).app pc (by decide) (L := 401)).app (cu _ _) (by decide))⟩
  refine sw_skip ?_
  rw [show n + 1 + 1 + 1 = n + 3 by omega]
  exact w_bent5 hn hs h1 k
end
end L2.K06

set_option Elab.async false
set_option maxRecDepth 100000
set_option maxHeartbeats 1000000
set_option linter.all false
/-! The drawing defs keep their promises. -/
namespace L2.K06
open PySem PySem.Spec PyProof.Rows XK Evl XC TL EV
section
variable {P : Program} {w : World} {K : PySem.W.Frag} {mg : Str → Option Value} {base : Heap} {a : Adr} {q : AdrQ}
theorem ok_word (T : TxtQ K mg a q) : FnOk P w K mg base CX0 3 q.LawWord q.fdLawWord ["_law_pool_here", "_law_barred"] (spC K conLawWord) := by
  have GLawDraw : FnOk P w K mg base CX0 1 a.LawDraw a.fdLawDraw ["_law_pool_here", "_law_many"] spDraw := ok_draw T.toTxt
  have GLawPick : FnOk P w K mg base CX0 2 a.LawPick a.fdLawPick ["_law_pool_here", "_law_things"] spPick := ok_pick T.toTxt
  refine T.fLawWord.ok scLawWord (fun vs H Q E h => lenC (c := conLawWord) (fun as G z => by obtain ⟨_, rfl, _⟩ := z; rfl) h) (fun cdv A outer s H vs Q E hr h => ⟨_, (pss_cons (ps_set (i := 2) scLawWord.nd rfl (by first | exact Or.inl rfl | exact Or.inr rfl) (by exact (pe_lst (pa_cons pe_str (pa_cons pe_str (pa_cons pe_str (pa_cons pe_str (pa_cons pe_str (pa_cons pe_str (pa_cons pe_str (pa_cons pe_str (pa_cons pe_str (pa_cons pe_str (pa_cons pe_str (pa_cons pe_str (pa_cons pe_str (pa_cons pe_str pa_nil)))))))))))))))))
      (pss_cons (ps_set (i := 3) scLawWord.nd rfl (by first | exact Or.inl rfl | exact Or.inr rfl) (by exact (pe_call GLawPick (hr.mono (by decide)) (by rfl) T.gLawPick T.kLawPick T.bLawPick .nil pass0 (pa_cons (pv 0) (pa_cons (pe_op op_cat (pv 2) (pe_lst (pa_cons pe_str (pa_cons pe_str (pa_cons pe_str (pa_cons pe_str (pa_cons pe_str (pa_cons pe_str pa_nil)))))))) pa_nil)))))
      (pss_cons (ps_if (pt_cmpR op_gt (pe_call GLawDraw (hr.mono (by decide)) (by rfl) T.gLawDraw T.kLawDraw T.bLawDraw .nil pass0 (pa_cons (pv 0) (pa_cons pe_int pa_nil))) pe_int (nomark _)) (pss_cons (ps_set (i := 5) scLawWord.nd rfl (by first | exact Or.inl rfl | exact Or.inr rfl) (by exact (pe_op op_add pe_int (pe_call GLawDraw (hr.mono (by decide)) (by rfl) T.gLawDraw T.kLawDraw T.bLawDraw .nil pass0 (pa_cons (pv 0) (pa_cons pe_int pa_nil))))))
      (pss_one (ps_set (i := 3) scLawWord.nd rfl (by first | exact Or.inl rfl | exact Or.inr rfl) (by exact (pe_bm PySem.F.plainAttrs_str PySem.F.slot_str_join PySem.F.type_str_join mt_join pe_str (pa_cons (pe_lc (own := [("_law_k", 7)]) (g := gName 7) (tt := tYes) rfl scLawWord.nd (pi_range1 (by rfl) T.brange (pa_cons (pv 5) pa_nil)) (blkOk_by (own := [("_law_k", 7)]) (N := NLawWord) (sc := defScope sLawWord) (by decide +kernel)) (fun _ _ _ _ _ => pg_name (i := 7) scLawWord.nd rfl (Or.inl rfl)) (fun _ _ _ _ _ => by exact pts_nil) (fun _ _ _ _ _ => by exact (pe_ix ix_str pe_str (pe_call GLawDraw (hr.mono (by decide)) (by rfl) T.gLawDraw T.kLawDraw T.bLawDraw .nil pass0 (pa_cons (pv 0) (pa_cons pe_int pa_nil))) (fun _ _ => rfl)))) pa_nil)))))) pss_nil)
      (pss_cons (ps_if (pt_cmpR (r := rIn K true) op_notIn_seq (pv 3) (pv 1) (by rfl)) (pss_one (ps_ret (by exact (pv 3)))) pss_nil)
      (pss_cons (ps_set (i := 4) scLawWord.nd rfl (by first | exact Or.inl rfl | exact Or.inr rfl) (by exact (pe_lst (pa_cons pe_str (pa_cons pe_str (pa_cons pe_str (pa_cons pe_str (pa_cons pe_str (pa_cons pe_str (pa_cons pe_str (pa_cons pe_str (pa_cons pe_str (pa_cons pe_str (pa_cons pe_str pa_nil))))))))))))))
      (pss_one (ps_ret (by exact (pe_ix (r := rIxL K) ix_list (pe_lc (own := [("_law_each", 6)]) (g := gName 6) rfl scLawWord.nd (pi_list (pv 4)) (blkOk_by (own := [("_law_each", 6)]) (N := NLawWord) (sc := defScope sLawWord) (by decide +kernel)) (fun _ _ _ _ _ => pg_name (i := 6) scLawWord.nd rfl (Or.inl rfl)) (fun _ _ _ _ _ => by exact (pts_one (pt_cmpR (r := rIn K true) op_notIn_seq (pv 6) (pv 1) (by rfl)))) (fun _ _ _ _ _ => by exact (pv 6))) pe_int (fun _ _ => rfl)))))))))), ?_⟩)
  refine defP (s := dLawWord) (c := conLawWord) h fun as G n hs hn => ?_
  obtain ⟨bs, rfl, hb, hg⟩ := hs
  exact w_word hb hn hg
theorem ok_names (T : TxtQ K mg a q) : FnOk P w K mg base CX0 4 q.LawNames q.fdLawNames ["_law_pool_here", "_law_many"] (spC K conLawNames) := by
  have GLawWord : FnOk P w K mg base CX0 3 q.LawWord q.fdLawWord ["_law_pool_here", "_law_barred"] (spC K conLawWord) := ok_word T
  refine T.fLawNames.ok scLawNames (fun vs H Q E h => lenC (c := conLawNames) (fun as G z => by obtain ⟨_, rfl, _⟩ := z; rfl) h) (fun cdv A outer s H vs Q E hr h => ⟨_, (pss_cons (ps_set (i := 2) scLawNames.nd rfl (by first | exact Or.inl rfl | exact Or.inr rfl) (by exact (pe_lst pa_nil)))
      (pss_cons (ps_for PassesOwn.never rfl (pi_range1 (by rfl) T.brange (pa_cons (pv 1) pa_nil)) (pg_name (i := 3) scLawNames.nd rfl (by first | exact Or.inl rfl | exact Or.inr rfl)) (pss_one (ps_expr (pe_bm PySem.F.plainAttrs_list PySem.F.slot_list_append PySem.F.type_list_append mt_append (pv 2) (pa_cons (pe_call GLawWord (hr.mono (by decide)) (by rfl) T.gLawWord T.kLawWord T.bLawWord .nil pass0 (pa_cons (pv 0) (pa_cons (pe_op op_cat (pv 2) (pe_lst (pa_cons pe_str (pa_cons pe_str (pa_cons pe_str pa_nil))))) pa_nil))) pa_nil)))))
      (pss_one (ps_ret (by exact (pv 2)))))), ?_⟩)
  refine defP (s := dLawNames) (c := conLawNames) h fun as G n hs hn => ?_
  obtain ⟨m, rfl, h0, h6, hg⟩ := hs
  exact w_names h0 h6 hn hg
theorem ok_isRow (T : TxtQ K mg a q) : FnOk P w K mg base CX0 1 q.LawIsRow q.fdLawIsRow ["_law_wording", "_law_names_here", "_law_tags"] (spD K conLawIsRow) := by
  refine T.fLawIsRow.ok scLawIsRow (fun vs H Q E h => lenD (c := conLawIsRow) (fun as G z => by obtain ⟨_, _, _, rfl, _⟩ := z; rfl) h) (fun cdv A outer s H vs Q E hr h => ⟨_, (pss_cons (ps_set (i := 3) scLawIsRow.nd rfl (by first | exact Or.inl rfl | exact Or.inr rfl) (by exact (pe_ifExp (pt_val (pe_callB (id := "isinstance") (r := rIsi K) call_isi (by rfl) T.bisinstance (by decide +kernel) (pa_cons (pv 0) (pa_cons (pe_bltn (v := .ty "str") (by rfl) T.bstr (by decide +kernel) rfl) pa_nil)))) (pe_bm PySem.F.plainAttrs_str PySem.F.slot_str_split PySem.F.type_str_split mt_split (pv 0) (pa_cons pe_str pa_nil)) (pe_lst pa_nil))))
      (pss_cons (ps_if (pt_cmpR op_ne (pe_callB call_len (by rfl) T.blen (by decide +kernel) (pa_cons (pv 3) pa_nil)) pe_int (nomark _)) (pss_one (ps_ret (by exact pe_bl))) pss_nil)
      (pss_cons (ps_set (i := 4) scLawIsRow.nd rfl (by first | exact Or.inl rfl | exact Or.inr rfl) (by exact (pe_bm PySem.F.plainAttrs_str PySem.F.slot_str_split PySem.F.type_str_split mt_split (pe_ix (r := rIxL K) ix_list (pv 3) pe_int (fun _ _ => rfl)) (pa_cons pe_str pa_nil))))
      (pss_cons (ps_set (i := 5) scLawIsRow.nd rfl (by first | exact Or.inl rfl | exact Or.inr rfl) (by exact (pe_or (pe_cmpR op_eq (pe_ix (r := rIxL K) ix_list (pv 4) pe_int (fun _ _ => rfl)) pe_str (nomark _)) (pe_one (pe_cmpR (r := rIn K false) op_in_seq (pe_ix (r := rIxL K) ix_list (pv 4) pe_int (fun _ _ => rfl)) (pe_lc (own := [("_law_key", 13)]) (g := gName 13) (tt := tYes) rfl scLawIsRow.nd (pi_list (pv 2)) (blkOk_by (own := [("_law_key", 13)]) (N := NLawIsRow) (sc := defScope sLawIsRow) (by decide +kernel)) (fun _ _ _ _ _ => pg_name (i := 13) scLawIsRow.nd rfl (Or.inl rfl)) (fun _ _ _ _ _ => by exact pts_nil) (fun _ _ _ _ _ => by exact (pe_op op_add_str pe_str (pv 13)))) (by rfl))))))
      (pss_cons (ps_if (PW.pt (pw_or (pt_cmpR op_gt (pe_callB call_len (by rfl) T.blen (by decide +kernel) (pa_cons (pv 4) pa_nil)) pe_int (nomark _)) (pw_or1 (PW.pt (pw_and (pt_not (pt_val (pv 5))) (pw_and1 (pt_cmpR (r := rIn K true) op_notIn_seq (pe_ix (r := rIxL K) ix_list (pv 4) pe_int (fun _ _ => rfl)) (pe_lst (pa_cons pe_str (pa_cons pe_str (pa_cons pe_str pa_nil)))) (by rfl)))))))) (pss_one (ps_ret (by exact pe_bl))) pss_nil)
      (pss_cons (ps_set (i := 6) scLawIsRow.nd rfl (by first | exact Or.inl rfl | exact Or.inr rfl) (by exact (pe_op op_cat (pe_lst (pa_cons pe_str (pa_cons pe_str (pa_cons pe_str (pa_cons pe_str (pa_cons pe_str (pa_cons pe_str pa_nil))))))) (pe_lc (own := [("_law_name", 11)]) (g := gName 11) (tt := tYes) rfl scLawIsRow.nd (pi_list (pv 1)) (blkOk_by (own := [("_law_name", 11)]) (N := NLawIsRow) (sc := defScope sLawIsRow) (by decide +kernel)) (fun _ _ _ _ _ => pg_name (i := 11) scLawIsRow.nd rfl (Or.inl rfl)) (fun _ _ _ _ _ => by exact pts_nil) (fun _ _ _ _ _ => by exact (pe_op op_add_str pe_str (pv 11)))))))
      (pss_cons (ps_set (i := 6) scLawIsRow.nd rfl (by first | exact Or.inl rfl | exact Or.inr rfl) (by exact (pe_op op_cat (pv 6) (pe_ifExp (pt_val (pv 5)) (pe_lst (pa_cons pe_str (pa_cons pe_str (pa_cons pe_str pa_nil)))) (pe_lst pa_nil)))))
      (pss_cons (ps_set (i := 6) scLawIsRow.nd rfl (by first | exact Or.inl rfl | exact Or.inr rfl) (by exact (pe_op op_cat (pv 6) (pe_lc (own := [("_law_each", 12)]) (g := gName 12) (tt := tYes) rfl scLawIsRow.nd (pi_list (pv 6)) (blkOk_by (own := [("_law_each", 12)]) (N := NLawIsRow) (sc := defScope sLawIsRow) (by decide +kernel)) (fun _ _ _ _ _ => pg_name (i := 12) scLawIsRow.nd rfl (Or.inl rfl)) (fun _ _ _ _ _ => by exact pts_nil) (fun _ _ _ _ _ => by exact (pe_op op_add_str pe_str (pv 12)))))))
      (pss_cons (ps_set (i := 7) scLawIsRow.nd rfl (by first | exact Or.inl rfl | exact Or.inr rfl) (by exact (pe_ifExp (pt_cmpR op_eq (pe_callB call_len (by rfl) T.blen (by decide +kernel) (pa_cons (pv 4) pa_nil)) pe_int (nomark _)) (pe_bm PySem.F.plainAttrs_str PySem.F.slot_str_split PySem.F.type_str_split mt_split (pe_ix (r := rIxL K) ix_list (pv 4) pe_int (fun _ _ => rfl)) (pa_cons pe_str pa_nil)) (pe_lst pa_nil))))
      (pss_cons (ps_set (i := 8) scLawIsRow.nd rfl (by first | exact Or.inl rfl | exact Or.inr rfl) (by exact (pe_op op_cat (pe_lst (pa_cons pe_str (pa_cons pe_str (pa_cons pe_str (pa_cons pe_str (pa_cons pe_str (pa_cons pe_str (pa_cons pe_str pa_nil)))))))) (pe_lc (own := [("_law_name", 11)]) (g := gName 11) (tt := tYes) rfl scLawIsRow.nd (pi_list (pv 1)) (blkOk_by (own := [("_law_name", 11)]) (N := NLawIsRow) (sc := defScope sLawIsRow) (by decide +kernel)) (fun _ _ _ _ _ => pg_name (i := 11) scLawIsRow.nd rfl (Or.inl rfl)) (fun _ _ _ _ _ => by exact pts_nil) (fun _ _ _ _ _ => by exact (pe_op op_add_str pe_str (pv 11)))))))
      (pss_cons (ps_set (i := 8) scLawIsRow.nd rfl (by first | exact Or.inl rfl | exact Or.inr rfl) (by exact (pe_op op_cat (pv 8) (pe_ifExp (pt_val (pv 5)) (pe_lst (pa_cons pe_str (pa_cons pe_str pa_nil))) (pe_lst pa_nil)))))
      (pss_cons (ps_set (i := 8) scLawIsRow.nd rfl (by first | exact Or.inl rfl | exact Or.inr rfl) (by exact (pe_op op_cat (pv 8) (pe_ifExp (PW.pt (pw_and (pt_val (pv 5)) (pw_and1 (pt_cmpR op_ne (pe_ix (r := rIxL K) ix_list (pv 4) pe_int (fun _ _ => rfl)) pe_str (nomark _))))) (pe_lst (pa_cons pe_str (pa_cons pe_str pa_nil))) (pe_lst pa_nil)))))
      (pss_cons (ps_set (i := 9) scLawIsRow.nd rfl (by first | exact Or.inl rfl | exact Or.inr rfl) (by exact (pe_bm PySem.F.plainAttrs_str PySem.F.slot_str_split PySem.F.type_str_split mt_split (pe_ix (r := rIxL K) ix_list (pv 3) pe_int (fun _ _ => rfl)) (pa_cons pe_str pa_nil))))
      (pss_cons (ps_if (PW.pt (pw_or (pt_cmpR op_gt (pe_callB call_len (by rfl) T.blen (by decide +kernel) (pa_cons (pv 7) pa_nil)) pe_int (nomark _)) (pw_or1 (pt_cmpR op_gt (pe_callB call_len (by rfl) T.blen (by decide +kernel) (pa_cons (pv 9) pa_nil)) pe_int (nomark _))))) (pss_one (ps_ret (by exact pe_bl))) pss_nil)
      (pss_cons (ps_set (i := 10) scLawIsRow.nd rfl (by first | exact Or.inl rfl | exact Or.inr rfl) (by exact (pe_op op_cat (pe_lc (own := [("_law_each", 12)]) (g := gName 12) rfl scLawIsRow.nd (pi_list (pv 7)) (blkOk_by (own := [("_law_each", 12)]) (N := NLawIsRow) (sc := defScope sLawIsRow) (by decide +kernel)) (fun _ _ _ _ _ => pg_name (i := 12) scLawIsRow.nd rfl (Or.inl rfl)) (fun _ _ _ _ _ => by exact (pts_one (pt_cmpR (r := rIn K true) op_notIn_seq (pv 12) (pv 6) (by rfl)))) (fun _ _ _ _ _ => by exact (pv 12))) (pe_lc (own := [("_law_each", 12)]) (g := gName 12) rfl scLawIsRow.nd (pi_list (pv 9)) (blkOk_by (own := [("_law_each", 12)]) (N := NLawIsRow) (sc := defScope sLawIsRow) (by decide +kernel)) (fun _ _ _ _ _ => pg_name (i := 12) scLawIsRow.nd rfl (Or.inl rfl)) (fun _ _ _ _ _ => by exact (pts_one (pt_cmpR (r := rIn K true) op_notIn_seq (pv 12) (pv 8) (by rfl)))) (fun _ _ _ _ _ => by exact (pv 12))))))
      (pss_one (ps_ret (by exact (pe_cmpR (r := rEqD K) (op_eqD hr.units) (pv 10) (pe_lst pa_nil) (nomark _)))))))))))))))))))), ?_⟩)
  refine defF (s := dLawIsRow) (c := conLawIsRow) h fun as G hs => ?_
  obtain ⟨d, names, tags, rfl, h1, h2, h3, h4, h5, hg⟩ := hs
  exact w_isrow h1 h2 h3 h4 h5 hg
theorem ok_loose (T : TxtQ K mg a q) : FnOk P w K mg base CX0 3 q.LawLooseRow q.fdLawLooseRow ["_law_pool_here", "_law_names_here", "_law_tags"] (spC K conLawLooseRow) := by
  have GLawDraw : FnOk P w K mg base CX0 1 a.LawDraw a.fdLawDraw ["_law_pool_here", "_law_many"] spDraw := ok_draw T.toTxt
  have GLawPick : FnOk P w K mg base CX0 2 a.LawPick a.fdLawPick ["_law_pool_here", "_law_things"] spPick := ok_pick T.toTxt
  refine T.fLawLooseRow.ok scLawLooseRow (fun vs H Q E h => lenC (c := conLawLooseRow) (fun as G z => by obtain ⟨_, _, rfl, _⟩ := z; rfl) h) (fun cdv A outer s H vs Q E hr h => ⟨_, (pss_cons (ps_par (i := 11) (j := 12) (by rfl) scLawLooseRow.nd rfl rfl (by decide) rfl rfl (pa_cons (pe_call GLawDraw (hr.mono (by decide)) (by rfl) T.gLawDraw T.kLawDraw T.bLawDraw .nil pass0 (pa_cons (pv 0) (pa_cons pe_int pa_nil))) (pa_cons (pe_op op_cat (pe_op op_cat (pv 1) (pv 2)) (pe_lst (pa_cons pe_str pa_nil))) pa_nil)) (by rfl))
      (pss_cons (ps_set (i := 3) scLawLooseRow.nd rfl (by first | exact Or.inl rfl | exact Or.inr rfl) (by exact (pe_op op_cat (pe_lst (pa_cons pe_str (pa_cons pe_str (pa_cons pe_str (pa_cons pe_str pa_nil))))) (pe_lc (own := [("_law_each", 17)]) (g := gName 17) (tt := tYes) rfl scLawLooseRow.nd (pi_list (pe_op op_cat (pv 2) (pv 2))) (blkOk_by (own := [("_law_each", 17)]) (N := NLawLooseRow) (sc := defScope sLawLooseRow) (by decide +kernel)) (fun _ _ _ _ _ => pg_name (i := 17) scLawLooseRow.nd rfl (Or.inl rfl)) (fun _ _ _ _ _ => by exact pts_nil) (fun _ _ _ _ _ => by exact (pe_op op_add_str pe_str (pv 17)))))))
      (pss_cons (ps_if (pt_cmpR op_eq (pv 11) pe_int (nomark _)) (pss_one (ps_set (i := 3) scLawLooseRow.nd rfl (by first | exact Or.inl rfl | exact Or.inr rfl) (by exact (pe_op op_cat (pe_op op_cat (pv 3) (pe_lst (pa_cons pe_str (pa_cons pe_str pa_nil)))) (pe_lc (own := [("_law_each", 17)]) (g := gName 17) (tt := tYes) rfl scLawLooseRow.nd (pi_list (pv 12)) (blkOk_by (own := [("_law_each", 17)]) (N := NLawLooseRow) (sc := defScope sLawLooseRow) (by decide +kernel)) (fun _ _ _ _ _ => pg_name (i := 17) scLawLooseRow.nd rfl (Or.inl rfl)) (fun _ _ _ _ _ => by exact pts_nil) (fun _ _ _ _ _ => by exact (pe_op op_add_str pe_str (pv 17)))))))) pss_nil)
      (pss_cons (ps_set (i := 4) scLawLooseRow.nd rfl (by first | exact Or.inl rfl | exact Or.inr rfl) (by exact (pe_call GLawPick (hr.mono (by decide)) (by rfl) T.gLawPick T.kLawPick T.bLawPick .nil pass0 (pa_cons (pv 0) (pa_cons (pv 3) pa_nil)))))
      (pss_cons (ps_set (i := 5) scLawLooseRow.nd rfl (by first | exact Or.inl rfl | exact Or.inr rfl) (by exact (pe_or (pe_cmpR op_eq (pv 11) pe_int (nomark _)) (pe_one (pe_cmpR (r := rIn K true) op_notIn_seq (pv 4) (pe_lst (pa_cons pe_str (pa_cons pe_str (pa_cons pe_str pa_nil)))) (by rfl))))))
      (pss_cons (ps_set (i := 6) scLawLooseRow.nd rfl (by first | exact Or.inl rfl | exact Or.inr rfl) (by exact (pe_op op_cat (pe_lst (pa_cons pe_str (pa_cons pe_str (pa_cons pe_str (pa_cons pe_str (pa_cons pe_str (pa_cons pe_str pa_nil))))))) (pe_lc (own := [("_law_each", 17)]) (g := gName 17) (tt := tYes) rfl scLawLooseRow.nd (pi_list (pv 1)) (blkOk_by (own := [("_law_each", 17)]) (N := NLawLooseRow) (sc := defScope sLawLooseRow) (by decide +kernel)) (fun _ _ _ _ _ => pg_name (i := 17) scLawLooseRow.nd rfl (Or.inl rfl)) (fun _ _ _ _ _ => by exact pts_nil) (fun _ _ _ _ _ => by exact (pe_op op_add_str pe_str (pv 17)))))))
      (pss_cons (ps_set (i := 6) scLawLooseRow.nd rfl (by first | exact Or.inl rfl | exact Or.inr rfl) (by exact (pe_op op_cat (pv 6) (pe_ifExp (pt_val (pv 5)) (pe_lst (pa_cons pe_str (pa_cons pe_str (pa_cons pe_str pa_nil)))) (pe_lst pa_nil)))))
      (pss_cons (ps_set (i := 7) scLawLooseRow.nd rfl (by first | exact Or.inl rfl | exact Or.inr rfl) (by exact (pe_op op_cat (pe_lst (pa_cons pe_str (pa_cons pe_str (pa_cons pe_str (pa_cons pe_str (pa_cons pe_str (pa_cons pe_str (pa_cons pe_str pa_nil)))))))) (pe_lc (own := [("_law_each", 17)]) (g := gName 17) (tt := tYes) rfl scLawLooseRow.nd (pi_list (pv 1)) (blkOk_by (own := [("_law_each", 17)]) (N := NLawLooseRow) (sc := defScope sLawLooseRow) (by decide +kernel)) (fun _ _ _ _ _ => pg_name (i := 17) scLawLooseRow.nd rfl (Or.inl rfl)) (fun _ _ _ _ _ => by exact pts_nil) (fun _ _ _ _ _ => by exact (pe_op op_add_str pe_str (pv 17)))))))
      (pss_cons (ps_set (i := 7) scLawLooseRow.nd rfl (by first | exact Or.inl rfl | exact Or.inr rfl) (by exact (pe_op op_cat (pv 7) (pe_ifExp (pt_val (pv 5)) (pe_lst (pa_cons pe_str (pa_cons pe_str pa_nil))) (pe_lst pa_nil)))))
      (pss_cons (ps_set (i := 7) scLawLooseRow.nd rfl (by first | exact Or.inl rfl | exact Or.inr rfl) (by exact (pe_op op_cat (pv 7) (pe_ifExp (PW.pt (pw_and (pt_val (pv 5)) (pw_and1 (PW.pt (pw_or (pt_cmpR op_eq (pv 11) pe_int (nomark _)) (pw_or1 (pt_cmpR op_ne (pv 4) pe_str (nomark _)))))))) (pe_lst (pa_cons pe_str (pa_cons pe_str pa_nil))) (pe_lst pa_nil)))))
      (pss_cons (ps_if (pt_cmpR op_eq (pv 11) pe_int (nomark _)) (pss_cons (ps_set (i := 6) scLawLooseRow.nd rfl (by first | exact Or.inl rfl | exact Or.inr rfl) (by exact (pe_op op_cat (pe_op op_cat (pv 6) (pe_lst (pa_cons pe_str (pa_cons pe_str (pa_cons pe_str (pa_cons pe_str (pa_cons pe_str pa_nil))))))) (pe_lc (own := [("_law_each", 17)]) (g := gName 17) (tt := tYes) rfl scLawLooseRow.nd (pi_list (pv 12)) (blkOk_by (own := [("_law_each", 17)]) (N := NLawLooseRow) (sc := defScope sLawLooseRow) (by decide +kernel)) (fun _ _ _ _ _ => pg_name (i := 17) scLawLooseRow.nd rfl (Or.inl rfl)) (fun _ _ _ _ _ => by exact pts_nil) (fun _ _ _ _ _ => by exact (pe_op op_add_str pe_str (pv 17)))))))
      (pss_one (ps_set (i := 7) scLawLooseRow.nd rfl (by first | exact Or.inl rfl | exact Or.inr rfl) (by exact (pe_op op_cat (pe_op op_cat (pv 7) (pe_lst (pa_cons pe_str (pa_cons pe_str (pa_cons pe_str (pa_cons pe_str (pa_cons pe_str pa_nil))))))) (pe_lc (own := [("_law_each", 17)]) (g := gName 17) (tt := tYes) rfl scLawLooseRow.nd (pi_list (pv 12)) (blkOk_by (own := [("_law_each", 17)]) (N := NLawLooseRow) (sc := defScope sLawLooseRow) (by decide +kernel)) (fun _ _ _ _ _ => pg_name (i := 17) scLawLooseRow.nd rfl (Or.inl rfl)) (fun _ _ _ _ _ => by exact pts_nil) (fun _ _ _ _ _ => by exact (pe_op op_add_str pe_str (pv 17))))))))) pss_nil)
      (pss_cons (ps_par (i := 13) (j := 14) (by rfl) scLawLooseRow.nd rfl rfl (by decide) rfl rfl (pa_cons (pe_ix (r := rIxL K) ix_list (pe_lst (pa_cons pe_int (pa_cons pe_int (pa_cons pe_int (pa_cons pe_int (pa_cons pe_int (pa_cons pe_int (pa_cons pe_int (pa_cons pe_int pa_nil))))))))) (pe_call GLawDraw (hr.mono (by decide)) (by rfl) T.gLawDraw T.kLawDraw T.bLawDraw .nil pass0 (pa_cons (pv 0) (pa_cons pe_int pa_nil))) (fun _ _ => rfl)) (pa_cons (pe_ix (r := rIxL K) ix_list (pe_lst (pa_cons pe_int (pa_cons pe_int (pa_cons pe_int (pa_cons pe_int (pa_cons pe_int (pa_cons pe_int (pa_cons pe_int (pa_cons pe_int pa_nil))))))))) (pe_call GLawDraw (hr.mono (by decide)) (by rfl) T.gLawDraw T.kLawDraw T.bLawDraw .nil pass0 (pa_cons (pv 0) (pa_cons pe_int pa_nil))) (fun _ _ => rfl)) pa_nil)) (by rfl))
      (pss_cons (ps_setLc (i := 8) (own := [("_law_k", 15)]) (g := gName 15) (tt := tYes) rfl scLawLooseRow.nd rfl rfl (sw_true rfl rfl rfl (by decide +kernel)) (pi_range1 (by rfl) T.brange (pa_cons (pv 13) pa_nil)) (blkOk_by (own := [("_law_k", 15)]) (N := NLawLooseRow) (sc := defScope sLawLooseRow) (by decide +kernel)) (fun _ _ _ _ _ => pg_name (i := 15) scLawLooseRow.nd rfl (Or.inl rfl)) (fun _ _ _ _ _ => by exact pts_nil) (fun _ _ _ _ _ => by exact (pe_ix (r := rIxL K) ix_list (pe_lst (pa_cons pe_str (pa_cons pe_str (pa_cons pe_str (pa_cons pe_str (pa_cons pe_str (pa_cons pe_str (pa_cons pe_str (pa_cons pe_str pa_nil))))))))) (pe_call GLawDraw (hr.mono (by decide)) (by rfl) T.gLawDraw T.kLawDraw T.bLawDraw .nil pass0 (pa_cons (pv 0) (pa_cons pe_int pa_nil))) (fun _ _ => rfl))))
      (pss_cons (ps_setLc (i := 9) (own := [("_law_sign", 16)]) (g := gName 16) (tt := tYes) rfl scLawLooseRow.nd rfl rfl (sw_true rfl rfl rfl (by decide +kernel)) (pi_list (pv 8)) (blkOk_by (own := [("_law_sign", 16)]) (N := NLawLooseRow) (sc := defScope sLawLooseRow) (by decide +kernel)) (fun _ _ _ _ _ => pg_name (i := 16) scLawLooseRow.nd rfl (Or.inl rfl)) (fun _ _ _ _ _ => by exact pts_nil) (fun _ _ _ _ _ => by exact (pe_op op_add_str (pv 16) (pe_call GLawPick (hr.mono (by decide)) (by rfl) T.gLawPick T.kLawPick T.bLawPick .nil pass0 (pa_cons (pv 0) (pa_cons (pv 6) pa_nil))))))
      (pss_cons (ps_set (i := 10) scLawLooseRow.nd rfl (by first | exact Or.inl rfl | exact Or.inr rfl) (by exact (pe_op op_add_str (pv 4) (pe_ifExp (pt_cmpR (r := rNeD K) (op_neD hr.units) (pv 9) (pe_lst pa_nil) (nomark _)) (pe_op op_add_str pe_str (pe_bm PySem.F.plainAttrs_str PySem.F.slot_str_join PySem.F.type_str_join mt_join pe_str (pa_cons (pv 9) pa_nil))) pe_str))))
      (pss_one (ps_ret (by exact (pe_op op_add_str (pe_op op_add_str (pv 10) pe_str) (pe_bm PySem.F.plainAttrs_str PySem.F.slot_str_join PySem.F.type_str_join mt_join pe_str (pa_cons (pe_lc (own := [("_law_k", 15)]) (g := gName 15) (tt := tYes) rfl scLawLooseRow.nd (pi_range1 (by rfl) T.brange (pa_cons (pv 14) pa_nil)) (blkOk_by (own := [("_law_k", 15)]) (N := NLawLooseRow) (sc := defScope sLawLooseRow) (by decide +kernel)) (fun _ _ _ _ _ => pg_name (i := 15) scLawLooseRow.nd rfl (Or.inl rfl)) (fun _ _ _ _ _ => by exact pts_nil) (fun _ _ _ _ _ => by exact (pe_call GLawPick (hr.mono (by decide)) (by rfl) T.gLawPick T.kLawPick T.bLawPick .nil pass0 (pa_cons (pv 0) (pa_cons (pv 7) pa_nil))))) pa_nil))))))))))))))))))))), ?_⟩)
  refine defP (s := dLawLooseRow) (c := conLawLooseRow) h fun as G n hs hn => ?_
  obtain ⟨names, tags, rfl, h1, h2, h3, h4, hg⟩ := hs
  exact w_loose hn h1 h2 h3 h4 hg
theorem ok_bent (T : TxtQ K mg a q) : FnOk P w K mg base CX0 2 q.LawBent q.fdLawBent ["_law_pool_here", "_law_wording"] (spC K conLawBent) := by
  have GLawDraw : FnOk P w K mg base CX0 1 a.LawDraw a.fdLawDraw ["_law_pool_here", "_law_many"] spDraw := ok_draw T.toTxt
  refine T.fLawBent.ok scLawBent (fun vs H Q E h => lenC (c := conLawBent) (fun as G z => by obtain ⟨_, rfl, _⟩ := z; rfl) h) (fun cdv A outer s H vs Q E hr h => ⟨_, (pss_cons (ps_par (i := 4) (j := 5) (by rfl) scLawBent.nd rfl rfl (by decide) rfl rfl (pa_cons (pe_call GLawDraw (hr.mono (by decide)) (by rfl) T.gLawDraw T.kLawDraw T.bLawDraw .nil pass0 (pa_cons (pv 0) (pa_cons pe_int pa_nil))) (pa_cons (pe_call GLawDraw (hr.mono (by decide)) (by rfl) T.gLawDraw T.kLawDraw T.bLawDraw .nil pass0 (pa_cons (pv 0) (pa_cons (pe_callB call_len (by rfl) T.blen (by decide +kernel) (pa_cons (pv 1) pa_nil)) pa_nil))) pa_nil)) (by rfl))
      (pss_cons (ps_set (i := 2) scLawBent.nd rfl (by first | exact Or.inl rfl | exact Or.inr rfl) (by exact (pe_ix ix_str pe_str (pe_call GLawDraw (hr.mono (by decide)) (by rfl) T.gLawDraw T.kLawDraw T.bLawDraw .nil pass0 (pa_cons (pv 0) (pa_cons pe_int pa_nil))) (fun _ _ => rfl))))
      (pss_cons (ps_if (pt_cmpR op_eq (pv 4) pe_int (nomark _)) (pss_one (ps_ret (by exact (pe_op op_add_str (pe_op op_add_str (pe_slice sl_str (pv 1) po_none (po_some (pv 5))) (pv 2)) (pe_slice sl_str (pv 1) (po_some (pv 5)) po_none))))) pss_nil)
      (pss_cons (ps_if (pt_cmpR op_eq (pv 4) pe_int (nomark _)) (pss_one (ps_ret (by exact (pe_op op_add_str (pe_slice sl_str (pv 1) po_none (po_some (pv 5))) (pe_slice sl_str (pv 1) (po_some (pe_op op_add (pv 5) pe_int)) po_none))))) pss_nil)
      (pss_cons (ps_if (pt_cmpR op_eq (pv 4) pe_int (nomark _)) (pss_one (ps_ret (by exact (pe_op op_add_str (pe_op op_add_str (pe_slice sl_str (pv 1) po_none (po_some (pv 5))) (pv 2)) (pe_slice sl_str (pv 1) (po_some (pe_op op_add (pv 5) pe_int)) po_none))))) pss_nil)
      (pss_cons (ps_set (i := 3) scLawBent.nd rfl (by first | exact Or.inl rfl | exact Or.inr rfl) (by exact (pe_bm PySem.F.plainAttrs_str PySem.F.slot_str_split PySem.F.type_str_split mt_split (pv 1) (pa_cons pe_str pa_nil))))
      (pss_cons (ps_asg (pe_tup (pa_cons (pe_call GLawDraw (hr.mono (by decide)) (by rfl) T.gLawDraw T.kLawDraw T.bLawDraw .nil pass0 (pa_cons (pv 0) (pa_cons (pe_callB call_len (by rfl) T.blen (by decide +kernel) (pa_cons (pv 3) pa_nil)) pa_nil))) (pa_cons (pe_call GLawDraw (hr.mono (by decide)) (by rfl) T.gLawDraw T.kLawDraw T.bLawDraw .nil pass0 (pa_cons (pv 0) (pa_cons (pe_callB call_len (by rfl) T.blen (by decide +kernel) (pa_cons (pv 3) pa_nil)) pa_nil))) pa_nil))) (pg_tup (by rfl) (pgs_cons (pg_name (i := 6) scLawBent.nd rfl (by first | exact Or.inl rfl | exact Or.inr rfl)) (pgs_cons (pg_name (i := 7) scLawBent.nd rfl (by first | exact Or.inl rfl | exact Or.inr rfl)) pgs_nil))))
      (pss_cons (ps_if (pt_cmpR op_eq (pv 4) pe_int (nomark _)) (pss_one (ps_ret (by exact (pe_bm PySem.F.plainAttrs_str PySem.F.slot_str_join PySem.F.type_str_join mt_join pe_str (pa_cons (pe_op op_cat (pe_slice sl_list (pv 3) po_none (po_some (pv 6))) (pe_slice sl_list (pv 3) (po_some (pe_op op_add (pv 6) pe_int)) po_none)) pa_nil))))) pss_nil)
      (pss_one (ps_ret (by exact (pe_bm PySem.F.plainAttrs_str PySem.F.slot_str_join PySem.F.type_str_join mt_join pe_str (pa_cons (pe_lc (own := [("_law_k", 8)]) (g := gName 8) (tt := tYes) rfl scLawBent.nd (pi_range1 (by rfl) T.brange (pa_cons (pe_callB call_len (by rfl) T.blen (by decide +kernel) (pa_cons (pv 3) pa_nil)) pa_nil)) (blkOk_by (own := [("_law_k", 8)]) (N := NLawBent) (sc := defScope sLawBent) (by decide +kernel)) (fun _ _ _ _ _ => pg_name (i := 8) scLawBent.nd rfl (Or.inl rfl)) (fun _ _ _ _ _ => by exact pts_nil) (fun _ _ _ _ _ => by exact (pe_ifExp (pt_cmpR op_eq (pv 8) (pv 6) (nomark _)) (pe_ix (r := rIxL K) ix_list (pv 3) (pv 7) (fun _ _ => rfl)) (pe_ifExp (pt_cmpR op_eq (pv 8) (pv 7) (nomark _)) (pe_ix (r := rIxL K) ix_list (pv 3) (pv 6) (fun _ _ => rfl)) (pe_ix (r := rIxL K) ix_list (pv 3) (pv 8) (fun _ _ => rfl)))))) pa_nil))))))))))))), ?_⟩)
  refine defP (s := dLawBent) (c := conLawBent) h fun as G n hs hn => ?_
  obtain ⟨s, rfl, h1, h2, hg⟩ := hs
  exact w_bent hn h1 h2 hg
end
end L2.K06

set_option Elab.async false
set_option maxRecDepth 100000
set_option maxHeartbeats 400000
set_option linter.all false
/-! Rows put together of what the menus hold are right. -/
namespace L2.KC
open PySem PySem.Spec PyProof.Rows XK Evl TL
theorem wordsA_S {u x : Str} (h : WordsA u x) : WordsS u x := h.s
theorem wordsA_lit2 : ∀ z ∈ baseC ++ phC, WordsA "and" z := by
  have h : ∀ z ∈ baseC ++ phC, ∃ ws : List (List Nat), ws ∈ ([[tl "caller"], [tl "joined"], [tl "a"], [tl "b"], [tl "ear", tl "a"], [tl "ear", tl "b"], [tl "me", tl "a"], [tl "me", tl "b"], [tl "busy"]] : List (List (List Nat))) ∧ tl z = joinL [32] ws ∧ ws ≠ [] ∧ ∀ w ∈ ws, 32 ∉ w ∧ w ≠ tl ("and" : Str) := by decide +kernel
  intro z hz
  obtain ⟨ws, _, h1, h2, h3⟩ := h z hz
  exact ⟨ws, h1, h2, h3⟩
theorem word_and {w : Str} (h : wordS w = true) : 32 ∉ tl w ∧ tl w ≠ tl ("and" : Str) := by
  refine ⟨word_free h (by decide), fun e => word_parting h ?_⟩
  rw [ext_tl e]
  decide +kernel
theorem menu0_words2 {names : List Str} {ph : Bool} (hn : ∀ n ∈ names, wordS n = true) {z : Str} (h : z ∈ menuC0 names ph) : WordsA "and" z := by
  unfold menuC0 at h
  rcases List.mem_append.mp h with h | h
  · rcases List.mem_append.mp h with h | h
    · exact wordsA_lit2 z (List.mem_append_left _ h)
    · obtain ⟨w, hw, rfl⟩ := List.mem_map.mp h
      refine ⟨[tl ("in" : Str), tl w], ?_, by simp, fun x hx => ?_⟩
      · show tl (("in " : Str) ++ w) = tl ("in" : Str) ++ ([32] ++ tl w)
        rw [tl_append, show tl ("in " : Str) = tl ("in" : Str) ++ [32] by decide +kernel, List.append_assoc]
      · simp only [List.mem_cons, List.not_mem_nil, or_false] at hx
        rcases hx with rfl | rfl
        · decide +kernel
        · exact word_and (hn w hw)
  · cases ph with
    | true => exact wordsA_lit2 z (List.mem_append_right _ h)
    | false => cases h
theorem menu_words2 {names : List Str} {ph : Bool} (hn : ∀ n ∈ names, wordS n = true) {z : Str} (h : z ∈ menuC names ph) : WordsA "and" z := by
  unfold menuC at h
  rcases List.mem_append.mp h with h | h
  · exact menu0_words2 hn h
  · obtain ⟨w, hw, rfl⟩ := List.mem_map.mp h
    obtain ⟨ws, e, ne, k⟩ := menu0_words2 hn hw
    refine ⟨tl ("not" : Str) :: ws, ?_, by simp, fun x hx => ?_⟩
    · rw [tl_append, e, show tl ("not " : Str) = tl ("not" : Str) ++ [32] by decide +kernel, List.append_assoc]
      cases ws with
      | nil => exact absurd rfl ne
      | cons a A => rfl
    · rcases List.mem_cons.mp hx with rfl | hx
      · decide +kernel
      · exact k x hx
theorem menu0_58 {names : List Str} {ph : Bool} (hn : ∀ n ∈ names, wordS n = true) {z : Str} (h : z ∈ menuC0 names ph) : 58 ∉ tl z := by
  have lit : ∀ z ∈ baseC ++ phC, 58 ∉ tl z := by decide +kernel
  unfold menuC0 at h
  rcases List.mem_append.mp h with h | h
  · rcases List.mem_append.mp h with h | h
    · exact lit z (List.mem_append_left _ h)
    · obtain ⟨w, hw, rfl⟩ := List.mem_map.mp h
      rw [tl_append, List.mem_append]
      rintro (k | k)
      · exact absurd k (by decide +kernel)
      · exact word_free (hn w hw) (by decide) k
  · cases ph with
    | true => exact lit z (List.mem_append_right _ h)
    | false => cases h
theorem menu_58 {names : List Str} {ph : Bool} (hn : ∀ n ∈ names, wordS n = true) {z : Str} (h : z ∈ menuC names ph) : 58 ∉ tl z := by
  unfold menuC at h
  rcases List.mem_append.mp h with h | h
  · exact menu0_58 hn h
  · obtain ⟨w, hw, rfl⟩ := List.mem_map.mp h
    rw [tl_append, List.mem_append]
    rintro (k | k)
    · exact absurd k (by decide +kernel)
    · exact menu0_58 hn hw k
theorem menuD_44 {names : List Str} {ph key : Bool} (hn : ∀ n ∈ names, wordS n = true) {z : Str} (h : z ∈ menuD names ph key) : 44 ∉ tl z := by
  have lit : ∀ z ∈ baseD ++ (["a me", "b me", "hear", "join"] : List Str), 44 ∉ tl z := by decide +kernel
  unfold menuD at h
  rcases List.mem_append.mp h with h | h
  · rcases List.mem_append.mp h with h | h
    · rcases List.mem_append.mp h with h | h
      · exact lit z (List.mem_append_left _ h)
      · obtain ⟨w, hw, rfl⟩ := List.mem_map.mp h
        rw [tl_append, List.mem_append]
        rintro (k | k)
        · exact absurd k (by decide +kernel)
        · exact word_free (hn w hw) (by decide) k
    · cases ph with
      | true =>
        refine lit z (List.mem_append_right _ ?_)
        simp only [List.mem_cons, List.not_mem_nil, or_false, if_true] at h ⊢
        rcases h with h | h
        · exact .inl h
        · exact .inr (.inl h)
      | false => cases h
  · cases q : (ph && key) with
    | true =>
      rw [q] at h
      refine lit z (List.mem_append_right _ ?_)
      simp only [List.mem_cons, List.not_mem_nil, or_false, if_true] at h ⊢
      rcases h with h | h
      · exact .inr (.inr (.inl h))
      · exact .inr (.inr (.inr h))
    | false =>
      rw [q] at h
      cases h
theorem occ_words {occ : Str} {tags : List Str} (ht : ∀ t ∈ tags, wordS t = true) (ho : occOk occ tags = true) : WordsA "if" occ ∧ 58 ∉ tl occ := by
  rw [occ_iff, Bool.or_eq_true] at ho
  unfold byPh at ho
  rw [Bool.or_eq_true, decide_eq_true_eq, decide_eq_true_eq, decide_eq_true_eq] at ho
  rcases ho with (rfl | h) | h
  · exact ⟨⟨[tl ("lay" : Str)], by rfl, by simp, fun w hw => by rw [List.mem_singleton.mp hw]; decide +kernel⟩, by decide +kernel⟩
  · obtain ⟨w, hw, rfl⟩ := List.mem_map.mp h
    refine ⟨⟨[tl ("key" : Str), tl w], ?_, by simp, fun x hx => ?_⟩, ?_⟩
    · show tl (("key " : Str) ++ w) = tl ("key" : Str) ++ ([32] ++ tl w)
      rw [tl_append, show tl ("key " : Str) = tl ("key" : Str) ++ [32] by decide +kernel, List.append_assoc]
    · simp only [List.mem_cons, List.not_mem_nil, or_false] at hx
      rcases hx with rfl | rfl
      · decide +kernel
      · exact word_if (ht w hw)
    · rw [tl_append, List.mem_append]
      rintro (k | k)
      · exact absurd k (by decide +kernel)
      · exact word_free (ht w hw) (by decide) k
  · have lit : ∀ z ∈ plainOcc, 32 ∉ tl z ∧ tl z ≠ tl ("if" : Str) ∧ 58 ∉ tl z := by decide +kernel
    obtain ⟨l1, l2, l3⟩ := lit occ h
    exact ⟨⟨[tl occ], rfl, by simp, fun w hw => by rw [List.mem_singleton.mp hw]; exact ⟨l1, l2⟩⟩, l3⟩
/-- a row of an occasion, of conditions and deeds from the menus -/
theorem rule_ok {occ : Str} {conds deeds names tags : List Str} (hn : ∀ n ∈ names, wordS n = true) (ht : ∀ t ∈ tags, wordS t = true) (ho : occOk occ tags = true)
    (hc : ∀ c ∈ conds, c ∈ menuC names (byPh occ tags)) (hd : ∀ c ∈ deeds, c ∈ menuD names (byPh occ tags) (!decide (occ = "lay"))) (c4 : conds.length ≤ 4) (d4 : deeds.length ≤ 4) (d0 : deeds ≠ []) : rowS (rowT occ conds deeds) names tags = true := by
  obtain ⟨p1, p2⟩ := phone_iff ho
  obtain ⟨o1, o2⟩ := occ_words ht ho
  refine row_made ⟨?_, o1.s, fun p hp => (menu_words2 hn (hc p hp)).s, fun p hp => menuD_44 hn (hd p hp), d0⟩ c4 d4 ho (fun c h => ?_) fun c h => ?_
  · unfold headT
    split
    · exact o2
    · rw [tl_append, tl_append, join_eq, tl_join]
      intro k
      rcases List.mem_append.mp k with k | k
      · rcases List.mem_append.mp k with k | k
        · exact o2 k
        · exact absurd k (by decide +kernel)
      · refine joinL_free (by decide +kernel) (fun p hp => ?_) k
        obtain ⟨z, hz, rfl⟩ := List.mem_map.mp hp
        exact menu_58 hn (hc z hz)
  · rw [cond_iff p1, decide_eq_true_eq]
    exact hc c h
  · rw [deed_iff p1 p2, decide_eq_true_eq]
    exact hd c h
end L2.KC

set_option Elab.async false
set_option maxRecDepth 100000
set_option maxHeartbeats 400000
set_option linter.all false
/-! Houses whose parts are right, or right but for one row. -/
namespace L2.KC
open PySem PySem.Spec PyProof.Rows XK Evl TL
def prP (p : Str × Str) : PyData := .tuple [.str p.1, .str p.2]
theorem first_at {n k : Nat} {f : Nat → Bool} (hk : k < n) (h : ∀ i, i < k → f i = false) (t : f k = true) : firstOf n f = some k := by
  unfold firstOf
  rw [List.find?_eq_some_iff_append]
  refine ⟨t, List.range k, List.range' (k + 1) (n - k - 1), ?_, fun x hx => ?_⟩
  · rw [List.range_eq_range', List.range_eq_range']
    have e : n = k + (1 + (n - k - 1)) := by omega
    conv => lhs; rw [e]
    rw [← List.range'_append_1, Nat.zero_add, ← List.range'_append_1]
    rfl
  · rw [h x (List.mem_range.mp hx)]
    rfl
theorem nodup_take {α : Type} {l : List α} (nd : l.Nodup) {i : Nat} (hi : i < l.length) : l[i] ∉ l.take i := fun h => by
  obtain ⟨j, hj, e⟩ := List.mem_take_iff_getElem.mp h
  have := (List.getElem_inj nd).mp e
  omega
theorem getD_map {α : Type} (f : α → PyData) {l : List α} {i : Nat} (hi : i < l.length) : (l.map f).getD i .none = f l[i] := by
  rw [List.getD_eq_getElem?_getD, List.getElem?_map, List.getElem?_eq_getElem hi]
  rfl
theorem words_of (ps : List (Str × Str)) : (ps.map prP).map wordOf = ps.map (·.1) := by
  rw [List.map_map]
  rfl
theorem strs_map (ks : List Str) : (ks.map PyData.str).map strOf = ks := by
  rw [List.map_map]
  exact List.map_id ks
theorem stands_fine {ps : List (Str × Str)} (h2 : 2 ≤ ps.length) (h6 : ps.length ≤ 6) (hw : ∀ p ∈ ps, wordS p.1 = true) (hs : ∀ p ∈ ps, wordS p.2 = true ∧ p.2 ∉ wHeardWords) (nd : (ps.map (·.1)).Nodup) : standsFault (.tuple (ps.map prP)) = none := by
  unfold standsFault
  dsimp only
  rw [if_pos (by rw [List.length_map]; exact ⟨h2, h6⟩)]
  unfold wrongStand
  rw [first_none fun i hi => ?_]
  · rfl
  rw [List.length_map] at hi
  unfold badStand
  rw [getD_map prP hi]
  have m := List.getElem_mem hi
  have e1 : standD (prP ps[i]) = true := by
    show (wordS ps[i].1 && (wordS ps[i].2 && !inS ps[i].2 wHeardWords)) = true
    rw [hw _ m, (hs _ m).1, inS_not (hs _ m).2]
    rfl
  have e2 : inS (wordOf (prP ps[i])) (((ps.map prP).take i).map wordOf) = false := by
    refine inS_not fun h => ?_
    rw [List.map_take, words_of] at h
    have hi' : i < (ps.map (·.1)).length := by rw [List.length_map]; exact hi
    have := nodup_take nd hi'
    rw [List.getElem_map] at this
    exact this h
  rw [e1, e2]
  rfl
theorem keys_fine {ks : List Str} (h3 : ks.length ≤ 3) (hw : ∀ k ∈ ks, wordS k = true) (nd : ks.Nodup) : keysFault (.tuple (ks.map .str)) = none := by
  unfold keysFault
  dsimp only
  rw [if_pos (by rw [List.length_map]; exact h3)]
  unfold wrongKey
  rw [first_none fun i hi => ?_]
  · rfl
  rw [List.length_map] at hi
  unfold badKey
  rw [getD_map PyData.str hi]
  have e1 : wordD (.str ks[i]) = true := hw _ (List.getElem_mem hi)
  have e2 : inS (strOf (.str ks[i])) (((ks.map PyData.str).take i).map strOf) = false := by
    refine inS_not fun h => ?_
    rw [List.map_take, strs_map] at h
    exact nodup_take nd hi h
  rw [e1, e2]
  rfl
theorem rows_fine {ds : List PyData} {ws ks : List Str} (h16 : ds.length ≤ 16) (h : ∀ d ∈ ds, rowD d ws ks = true) : rowsFault (.tuple ds) ws ks = none := by
  unfold rowsFault
  dsimp only
  rw [if_pos h16]
  unfold wrongRow
  rw [first_none fun i hi => ?_]
  · rfl
  unfold badRow
  rw [List.getD_eq_getElem?_getD, List.getElem?_eq_getElem hi]
  show (!rowD ds[i] ws ks) = false
  rw [h _ (List.getElem_mem hi)]
  rfl
theorem rows_bad {pre post : List PyData} {d : PyData} {ws ks : List Str} (h16 : (pre ++ d :: post).length ≤ 16) (h : ∀ d ∈ pre, rowD d ws ks = true) (hd : rowD d ws ks = false) : rowsFault (.tuple (pre ++ d :: post)) ws ks = some (.int (pre.length : Nat)) := by
  unfold rowsFault
  dsimp only
  rw [if_pos h16]
  unfold wrongRow
  rw [first_at (k := pre.length) (by simp) (fun i hi => ?_) ?_]
  · rfl
  · unfold badRow
    rw [List.getD_eq_getElem?_getD, List.getElem?_append_right (Nat.le_refl _), Nat.sub_self]
    show (!rowD d ws ks) = true
    rw [hd]
    rfl
  · unfold badRow
    rw [List.getD_eq_getElem?_getD, List.getElem?_append_left hi, List.getElem?_eq_getElem hi]
    show (!rowD pre[i] ws ks) = false
    rw [h _ (List.getElem_mem hi)]
    rfl
/-- a house of these parts: only its rows can be wrong -/
theorem fault_rows {b : AdrH} {l : V} {n : Int} {ps : List (Str × Str)} {ks : List Str} {dr : PyData} (hn : 1 ≤ n ∧ n ≤ 3) (hs : standsFault (.tuple (ps.map prP)) = none) (hk : keysFault (.tuple (ks.map .str)) = none) :
    houseFault b l (.int n) (.tuple (ps.map prP)) (.tuple (ks.map .str)) dr = (rowsFault dr (ps.map (·.1)) ks).map fun v => (b.InvalidRows, ("index" : Str), v) := by
  unfold houseFault
  have e : betw (.int n) 1 3 = true := by
    show (decide (1 ≤ n) && decide (n ≤ 3)) = true
    rw [decide_eq_true hn.1, decide_eq_true hn.2]
    rfl
  rw [e, if_pos rfl, hs, hk]
  dsimp only
  rw [show (standsOf (.tuple (ps.map prP))).map wordOf = ps.map (·.1) from words_of ps, show keysOf (.tuple (ks.map .str)) = ks from strs_map ks]
  cases rowsFault dr (ps.map (·.1)) ks <;> rfl
end L2.KC

set_option Elab.async false
set_option maxRecDepth 100000
set_option maxHeartbeats 4000000
set_option linter.all false
/-! Data that is made on the way, told in both ways; texts of repr; lists that are alike. -/
namespace L2.XK
open PySem PySem.Spec PyProof.Rows XC Evl LamX TL
/-- data of our own objects -/
structure Bo (K : PySem.W.Frag) (H : Hp) (v : V) (d : PyData) : Prop where
  a : Da K H v d
  x : Dx H v d
structure BoAll (K : PySem.W.Frag) (H : Hp) (vs : List V) (ds : List PyData) : Prop where
  a : DaAll K H vs ds
  x : DxAll H vs ds
theorem Bo.ex {K : PySem.W.Frag} {H H' : Hp} {v : V} {d : PyData} (e : Ex H H') (h : Bo K H v d) : Bo K H' v d := ⟨h.a.ex e, h.x.same e⟩
theorem BoAll.ex {K : PySem.W.Frag} {H H' : Hp} {v : List V} {d : List PyData} (e : Ex H H') (h : BoAll K H v d) : BoAll K H' v d := ⟨h.a.ex e, h.x.same e⟩
theorem bo_str {K : PySem.W.Frag} {H : Hp} {z : Str} (h : z.length ≤ 100000) : Bo K H (.str z) (.str z) := ⟨.str z h, .str z⟩
theorem bo_int {K : PySem.W.Frag} {H : Hp} {i : Int} : Bo K H (.int i) (.int i) := ⟨.int i, .int i⟩
theorem bo_tup {K : PySem.W.Frag} {H : Hp} {p : Addr} {xs : List V} {ds : List PyData} (h : H p = some (.tup xs)) (hb : BoAll K H xs ds) : Bo K H (.ref p) (.tuple ds) := ⟨.tup (st_of h) hb.a, .tup h hb.x⟩
theorem boa_nil {K : PySem.W.Frag} {H : Hp} : BoAll K H [] [] := ⟨.nil, .nil⟩
theorem boa_cons {K : PySem.W.Frag} {H : Hp} {v : V} {vs : List V} {d : PyData} {ds : List PyData} (h : Bo K H v d) (t : BoAll K H vs ds) : BoAll K H (v :: vs) (d :: ds) := ⟨.cons h.a t.a, .cons h.x t.x⟩
def EvB (K : PySem.W.Frag) (te : TE) (σ : L2.St) (H : Hp) (d : PyData) : Prop := ∀ H1, Ex H H1 → ∀ Q : VK, (∀ v H2, Ex H1 H2 → Bo K H2 v d → Q v H2) → te σ H1 Q
def EvBs (K : PySem.W.Frag) (ta : TA) (σ : L2.St) (H : Hp) (ds : List PyData) : Prop := ∀ H1, Ex H H1 → ∀ Q : List V → Hp → Prop, (∀ vs H2, Ex H1 H2 → BoAll K H2 vs ds → Q vs H2) → ta σ H1 Q
section
variable {K : PySem.W.Frag} {σ : L2.St} {H : Hp} {te : TE} {ta : TA}
theorem eb_of {v : V} {d : PyData} (h : Ev te σ H v) (hb : Bo K H v d) : EvB K te σ H d := fun H1 e Q q => h H1 e _ fun H2 e2 => q v H2 e2 (hb.ex (e.trans e2))
theorem eb_str {z : Str} (h : z.length ≤ 100000) : EvB K (tC (.str z)) σ H (.str z) := eb_of ev_c (bo_str h)
theorem eb_int {i : Int} : EvB K (tC (.int i)) σ H (.int i) := eb_of ev_c bo_int
theorem eb_tup {ds : List PyData} (h : EvBs K ta σ H ds) (hl : ds.length ≤ 1000) : EvB K (tTup ta) σ H (.tuple ds) := fun H1 e Q q =>
  h H1 e _ fun vs H2 e2 hb => ⟨sz_of (by rw [hb.a.len]; omega), fun p hp => q _ _ (e2.trans (Ex.new hp)) (bo_tup upd_same (hb.ex (Ex.new hp)))⟩
theorem ebs_nil : EvBs K tNil σ H [] := fun H1 e Q q => q [] H1 (Ex.refl _) boa_nil
theorem ebs_cons {tr : TA} {d : PyData} {ds : List PyData} (h : EvB K te σ H d) (hr : EvBs K tr σ H ds) : EvBs K (tCons te tr) σ H (d :: ds) := fun H1 e Q q =>
  h H1 e _ fun v H2 e2 hb => hr H2 (e.trans e2) _ fun vs H3 e3 hbs => q (v :: vs) H3 (e2.trans e3) (boa_cons (hb.ex e3) hbs)
end
/-! ### signs -/
def asc (z : Str) : Prop := ∀ c ∈ tl z, c < 127
theorem asc_app {x y : Str} (hx : asc x) (hy : asc y) : asc (x ++ y) := fun c hc => by
  rw [tl_append, List.mem_append] at hc
  exact hc.elim (hx c) (hy c)
theorem asc_join {s : Str} (hs : asc s) : ∀ {l : List Str}, (∀ x ∈ l, asc x) → asc (Str.join s l)
  | [], _ => fun c hc => by cases hc
  | [x], h => h x List.mem_cons_self
  | x :: y :: r, h => asc_app (asc_app (h x List.mem_cons_self) hs) (asc_join hs fun z hz => h z (List.mem_cons_of_mem _ hz))
theorem asc_tuple {l : List Str} (h : ∀ x ∈ l, asc x) : asc (tupleText l) := by
  have e1 : asc ("(" : Str) := by unfold asc; decide +kernel
  have e2 : asc (", " : Str) := by unfold asc; decide +kernel
  have e3 : asc (",)" : Str) := by unfold asc; decide +kernel
  have e4 : asc (")" : Str) := by unfold asc; decide +kernel
  unfold tupleText
  refine asc_app (asc_app e1 (asc_join e2 h)) ?_
  split
  · exact e3
  · exact e4
theorem reprChar_asc : ∀ c, c < 127 → ∀ q, (q = 34 ∨ q = 39) → 32 ≤ c → ∀ d ∈ Builtin.Str.reprChar q c, d < 127 := by
  have h : ∀ c, c < 127 → 32 ≤ c → (∀ d ∈ Builtin.Str.reprChar 34 c, d < 127) ∧ ∀ d ∈ Builtin.Str.reprChar 39 c, d < 127 := by decide +kernel
  intro c hc q hq h32 d hd
  rcases hq with rfl | rfl
  · exact (h c hc h32).1 d hd
  · exact (h c hc h32).2 d hd
theorem foldl_asc {q : Nat} (hq : q = 34 ∨ q = 39) : ∀ (l : List Nat) (acc : Array Nat), (∀ c ∈ l, 32 ≤ c ∧ c < 127) → (∀ c ∈ acc.toList, c < 127) →
    ∀ c ∈ (l.foldl (fun out c => out ++ (Builtin.Str.reprChar q c).toArray) acc).toList, c < 127
  | [], acc, _, ha => ha
  | x :: l, acc, h, ha => by
    refine foldl_asc hq l _ (fun c hc => h c (List.mem_cons_of_mem _ hc)) fun c hc => ?_
    rw [Array.toList_append, List.mem_append] at hc
    rcases hc with hc | hc
    · exact ha c hc
    · exact reprChar_asc x (h x List.mem_cons_self).2 q hq (h x List.mem_cons_self).1 c hc
theorem asc_repr {z : Str} (h : ∀ c ∈ tl z, 32 ≤ c ∧ c < 127) : asc (reprText z) := by
  have hq : reprQuote z = 34 ∨ reprQuote z = 39 := by
    unfold reprQuote
    split
    · exact .inl rfl
    · exact .inr rfl
  have hq2 : reprQuote z < 127 := by rcases hq with h | h <;> rw [h] <;> decide
  intro c hc
  have hc' : c ∈ ((z.cps.foldl (fun out c => out ++ (Builtin.Str.reprChar (reprQuote z) c).toArray) #[reprQuote z]).push (reprQuote z)).toList := hc
  rw [Array.toList_push, List.mem_append] at hc'
  rcases hc' with hm | hm
  · rw [← Array.foldl_toList] at hm
    exact foldl_asc hq z.cps.toList _ h (fun c hc => by
      have : c = reprQuote z := by simpa using hc
      omega) c hm
  · rw [List.mem_singleton.mp hm]
    exact hq2
/-- texts and tuples of them, of plain signs -/
inductive Pl : Nat → PyData → Prop
  | str {B : Nat} {z : Str} (h : ∀ c ∈ tl z, 32 ≤ c ∧ c < 127) (l : z.length ≤ 200) : Pl B (.str z)
  | tup {B : Nat} {ds : List PyData} (h : ∀ d ∈ ds, Pl B d) (l : ds.length ≤ 6) : Pl (B + 1) (.tuple ds)
/-- data as repr wants it, told short -/
structure Sm (M D : Nat) (d : PyData) : Prop where
  sh : d.showable = true
  le : d.shown.length ≤ M
  dp : d.depth ≤ D
  as_ : asc d.shown
theorem sm_str {z : Str} {D : Nat} (h : ∀ c ∈ tl z, 32 ≤ c ∧ c < 127) (l : z.length ≤ 200) : Sm 2002 D (.str z) := by
  refine ⟨rfl, ?_, Nat.zero_le _, ?_⟩
  · have := StrLaws.reprText_len z fun c hc => Nat.lt_trans (h c hc).2 (by decide)
    show (reprText z).length ≤ _
    omega
  · exact asc_repr h
theorem smAll {M D : Nat} : ∀ {ds : List PyData}, (∀ d ∈ ds, Sm M D d) → PyData.showableAll ds = true ∧ ((PyData.shownAll ds).map (·.length)).sum ≤ ds.length * M ∧ (PyData.shownAll ds).length = ds.length ∧ PyData.depthAll ds ≤ D ∧ ∀ x ∈ PyData.shownAll ds, asc x
  | [], _ => ⟨rfl, by simp [PyData.shownAll], rfl, by simp [PyData.depthAll], fun x hx => by simp [PyData.shownAll] at hx⟩
  | d :: ds, h => by
    obtain ⟨h1, h2, h3, h4, h5⟩ := smAll (ds := ds) fun x hx => h x (List.mem_cons_of_mem _ hx)
    obtain ⟨g1, g2, g3, g4⟩ := h d List.mem_cons_self
    refine ⟨by simp only [PyData.showableAll, g1, h1, Bool.and_self], ?_, by simp only [PyData.shownAll, List.length_cons, h3], ?_, ?_⟩
    · simp only [PyData.shownAll, List.map_cons, List.sum_cons, List.length_cons, Nat.add_mul]
      omega
    · simp only [PyData.depthAll]
      omega
    · intro x hx
      simp only [PyData.shownAll] at hx
      rcases List.mem_cons.mp hx with rfl | hx
      · exact g4
      · exact h5 x hx
theorem sm_tup {M D : Nat} {ds : List PyData} (h : ∀ d ∈ ds, Sm M D d) (hl : ds.length ≤ 6) : Sm (6 * M + 15) (D + 1) (.tuple ds) := by
  obtain ⟨h1, h2, h3, h4, h5⟩ := smAll h
  refine ⟨by simpa only [PyData.showable] using h1, ?_, by simp only [PyData.depth]; omega, ?_⟩
  · have z := tupleText_len_le (PyData.shownAll ds)
    have m : ds.length * M ≤ 6 * M := Nat.mul_le_mul_right _ hl
    simp only [PyData.shown]
    omega
  · simp only [PyData.shown]
    exact asc_tuple h5
theorem sm_row {ds : List PyData} (h : ∀ d ∈ ds, ∃ z : Str, d = .str z ∧ (∀ c ∈ tl z, 32 ≤ c ∧ c < 127) ∧ z.length ≤ 200) (hl : ds.length ≤ 6) : Sm (6 * 2002 + 15) 1 (.tuple ds) :=
  sm_tup (M := 2002) (D := 0) (fun d hd => by
    obtain ⟨z, rfl, h1, h2⟩ := h d hd
    exact sm_str h1 h2) hl
theorem Sm.mono {M M' D D' : Nat} {d : PyData} (h : Sm M D d) (hM : M ≤ M') (hD : D ≤ D') : Sm M' D' d := ⟨h.sh, Nat.le_trans h.le hM, Nat.le_trans h.dp hD, h.as_⟩
/-! ### lists that are alike -/
theorem strOk_asc {z : Str} (h : asc z) : PyData.strOk z = true := by
  unfold PyData.strOk
  rw [← Array.all_toList, List.all_eq_true]
  intro c hc
  have := h c hc
  simp
  omega
section
variable {K : PySem.W.Frag} {H : Hp} {p q : Addr} {xs : List V} {ds : List PyData}
theorem rv_eqSame (hp : H p = some (.lst xs)) (hq : H q = some (.lst xs)) (hd : ∀ H, DpAll K H xs ds) (hs : SeqAt.shaped (.list ds) = true) : RV (rEqD K) (.ref p) (.ref q) H (.bl true) := fun H1 e Q k => by
  have hd1 : DpAll K H1 xs ds := hd H1
  refine ⟨.list ds, .list ds, .lst (sq_of (e _ _ hp)) hd1, .lst (sq_of (e _ _ hq)) hd1, hs, hs, ?_⟩
  rw [SeqAt.eqv_refl _ (SeqAt.canLay_of_shaped hs)]
  exact k H1 (Ex.refl _)
theorem rv_neSame (hp : H p = some (.lst xs)) (hq : H q = some (.lst xs)) (hd : ∀ H, DpAll K H xs ds) (hs : SeqAt.shaped (.list ds) = true) : RV (rNeD K) (.ref p) (.ref q) H (.bl false) := fun H1 e Q k => by
  have hd1 : DpAll K H1 xs ds := hd H1
  refine ⟨.list ds, .list ds, .lst (sq_of (e _ _ hp)) hd1, .lst (sq_of (e _ _ hq)) hd1, hs, hs, ?_⟩
  rw [SeqAt.eqv_refl _ (SeqAt.canLay_of_shaped hs)]
  exact k H1 (Ex.refl _)
end
end L2.XK

set_option Elab.async false
set_option maxRecDepth 100000
set_option maxHeartbeats 4000000
set_option linter.all false
/-! _law_caught(lambda: House(..).f) -/
namespace L2.K06
open PySem PySem.Spec PyProof.Rows XK Evl XC LamX
/-- a getter of the house -/
structure Gt (K : PySem.W.Frag) (C : Addr) (f qual : Str) (st : Stmt) (g p : Addr) (fd : FuncData) : Prop where
  fn : Fun K f qual st g fd
  bd : Binds K fd ["self"] []
  pr : PropOf K C f p g
structure AdrG where
  r : Addr
  pr : Addr
  fr : FuncData
/-- all that the top has written -/
structure TxtG (K : PySem.W.Frag) (mg : Str → Option Value) (a : Adr) (q : AdrQ) (c : KC.AdrC) (b : KC.AdrH) (o : KC.AdrO) (g : AdrG) : Prop extends TxtQ K mg a q where
  ho : KC.TxtO K mg c b o
  gr : Gt K o.House "rows" "House.rows" KC.sHouseRows g.r g.pr g.fr
  eR : b.InvalidRows = a.InvalidRows
  c3 : Catch3 K a
theorem daApp {K : PySem.W.Frag} {H : Hp} : ∀ {vs ws : List V} {ds es : List PyData}, DaAll K H vs ds → DaAll K H ws es → DaAll K H (vs ++ ws) (ds ++ es)
  | _, _, _, _, .nil, q => q
  | _, _, _, _, .cons a b, q => .cons a (daApp b q)
theorem dxGet {H : Hp} : ∀ {vs : List V} {ds : List PyData} {i : Nat} {d : PyData}, DxAll H vs ds → ds[i]? = some d → ∃ v, vs[i]? = some v ∧ Dx H v d
  | _, _, 0, _, .cons p _, h => ⟨_, rfl, by cases h; exact p⟩
  | _, _, i + 1, _, .cons _ t, h => dxGet (i := i) t h
  | _, _, i, _, .nil, h => by simp at h
theorem da4 {K : PySem.W.Frag} {H : Hp} {us : List V} {d0 d1 d2 d3 : PyData} (h : DaAll K H us [d0, d1, d2, d3]) :
    ∃ l st ky rw, us = [l, st, ky, rw] ∧ Da K H l d0 ∧ Da K H st d1 ∧ Da K H ky d2 ∧ Da K H rw d3 := by
  cases h with
  | cons h0 t => cases t with
    | cons h1 t => cases t with
      | cons h2 t => cases t with
        | cons h3 t => cases t with
          | nil => exact ⟨_, _, _, _, rfl, h0, h1, h2, h3⟩
section
variable {K : PySem.W.Frag} {mg : Str → Option Value} {a : Adr} {q : AdrQ} {c : KC.AdrC} {b : KC.AdrH} {o : KC.AdrO} {g : AdrG}
theorem r_core {nl : Int} {targs : TA} {σ : L2.St} {H1 : Hp} {R : VK} {E : XK} {dvs : List V} {ads dds : List PyData} {ds dk dr d : PyData} {j : Nat} {f : Str}
    (hargs : EvBs K targs σ H1 ads) (hdv : ∀ H', DaAll K H' dvs dds) (h4 : ads ++ dds = [.int nl, ds, dk, dr]) (hd : ads[j]? = some d)
    (hsel : ∀ l st ky rw t, (KC.fieldsOf l st ky rw t).lookup f = [l, st, ky, rw][j]?)
    (kE : ∀ l c ff v, KC.houseFault b l (.int nl) ds dk dr = some (c, ff, v) → ∀ z H2, Ex H1 H2 → H2 z = some (.xd [(ff, v)]) → E (.ref c) (some z) H2)
    (kN : ∀ l, KC.houseFault b l (.int nl) ds dk dr = none → ∀ v H2, Ex H1 H2 → Dx H2 v d → R v H2) :
    tProp o.House (getSp o.House f) [] E0 (tMake o.House (KC.spInit K b o.House) dvs E targs) σ H1 R := by
  refine hargs H1 (Ex.refl _) _ fun vs H2 e2 hb => ?_
  intro x dx hx hdx hne
  obtain ⟨v, hv, hxv⟩ := dxGet hb.x hd
  have hj : j < vs.length := (List.getElem?_eq_some_iff.mp hv).1
  have hall := daApp hb.a (hdv H2)
  rw [h4] at hall
  obtain ⟨l, st, ky, rw', eu, hl, hs, hk, hr⟩ := da4 hall
  have hv2 : [l, st, ky, rw'][j]? = some v := by
    rw [← eu, List.getElem?_append_left hj]
    exact hv
  rw [eu]
  refine KC.make_house (b := b) (C := o.House) (E := E) (Q := fun x H1 => ∃ a dx fs, x = V.ref a ∧ H1 a = some (HO.ins o.House dx fs) ∧ getSp o.House f [V.ref a] H1 R E0) hl hs hk hr ?_ x dx hx hdx hne
  unfold KC.Made
  cases hf : KC.houseFault b l (.int nl) ds dk dr with
  | some t =>
    obtain ⟨c, ff, w⟩ := t
    exact fun z H' _ e h => kE l c ff w hf z H' (e2.trans e) h
  | none =>
    intro x dx H' _ e h
    exact ⟨x, dx, _, rfl, h, x, dx, _, v, rfl, h, (hsel _ _ _ _ _).trans hv2, kN l hf v H' (e2.trans e) (hxv.same e)⟩
def toldV (due : Option (Nat × Nat)) (d : PyData) : List V := match due with
  | some (n, i) => [.int n, .str (toString (i : Int))]
  | none => [.str "told", .str d.shown]
def errC (a : Adr) (n : Nat) : Addr := if n = 9 then a.InvalidStands else if n = 10 then a.InvalidKeys else a.InvalidRows
theorem small_log {i : Nat} (h : i < 1000) : (i : Int).natAbs.log2 < 1920 := by
  have h1 : (i : Int).natAbs = i := rfl
  rw [h1]
  by_cases h0 : i = 0
  · rw [h0]
    decide
  · have : i.log2 < 10 := (Nat.log2_lt h0).mpr (by omega)
    omega
theorem r_caught {nl : Int} {Tb : List (Addr × Str)} {targs : TA} {σ : L2.St} {H : Hp} {Q : VK} {dvs : List V} {ads dds : List PyData} {ds dk dr d : PyData} {j : Nat} {f : Str}
    (hT : Tabs Tb H) (hargs : ∀ H1, ExtN H H1 → EvBs K targs σ H1 ads) (hdv : ∀ H', DaAll K H' dvs dds) (h4 : ads ++ dds = [.int nl, ds, dk, dr]) (hd : ads[j]? = some d)
    (hsel : ∀ l st ky rw t, (KC.fieldsOf l st ky rw t).lookup f = [l, st, ky, rw][j]?) 
    (due : Option (Nat × Nat)) (hdt : due = none → (∃ xs, d = .tuple xs) ∧ Sm 100000 100 d) (hn : ∀ n i, due = some (n, i) → (n = 9 ∨ n = 10 ∨ n = 11) ∧ i < 1000)
    (hdue : ∀ l, KC.houseFault b l (.int nl) ds dk dr = due.map fun p => (errC a p.1, ("index" : Str), V.int ((p.2 : Nat) : Int)))
    (k : ∀ l H'', ExtN H H'' → Tabs Tb H'' → H'' l = some (.lst (toldV due d)) → Q (.ref l) H'') :
    tLam Tb (TTc a) (fun E => tProp o.House (getSp o.House f) [] E0 (tMake o.House (KC.spInit K b o.House) dvs E targs)) σ H Q := by
  refine ⟨hT, fun H1 e1 t1 => ?_⟩
  intro R hR
  refine r_core (K := K) (b := b) (hargs H1 e1) hdv h4 hd hsel (fun l c ff v hf z H2 e2 hz => ?_) (fun l hf v H2 e2 hx => ?_)
  · rw [hdue l] at hf
    cases due with
    | none => cases hf
    | some p =>
      obtain ⟨n, i⟩ := p
      have hf' : (errC a n, ("index" : Str), V.int ((i : Nat) : Int)) = (c, ff, v) := Option.some.inj hf
      cases hf'
      obtain ⟨h9, hi⟩ := hn n i rfl
      have kk : ∀ l H'', Ex H2 H'' → H'' l = some (.lst [.int n, .str (toString ((i : Nat) : Int))]) → Q (.ref l) H'' := fun l H'' e h => k l H'' (e1.trans (extN_of (e2.trans e))) (t1.ext (e2.trans e)) h
      rcases h9 with rfl | rfl | rfl
      · exact ⟨9, a.InvalidStands, a.WrongValue, "ValueError", _, _, z, rfl, rfl, rfl, by decide, hz, RepV.int (small_log hi), kk⟩
      · exact ⟨10, a.InvalidKeys, a.WrongValue, "ValueError", _, _, z, rfl, rfl, rfl, by decide, hz, RepV.int (small_log hi), kk⟩
      · exact ⟨11, a.InvalidRows, a.WrongValue, "ValueError", _, _, z, rfl, rfl, rfl, by decide, hz, RepV.int (small_log hi), kk⟩
  · rw [hdue l] at hf
    cases due with
    | some p => cases hf
    | none =>
      obtain ⟨⟨xs, rfl⟩, sm⟩ := hdt rfl
      refine hR v H2 ⟨(PyData.tuple xs).shown, ?_, fun l H'' e h => k l H'' (e1.trans (extN_of (e2.trans e))) (t1.ext (e2.trans e)) h⟩
      cases hx with
      | tup h1 h2 => exact RepV.ref (.tup h1 h2) sm.sh sm.le sm.dp
end
section
variable {X : Cx} {a : Adr} {q : AdrQ} {c : KC.AdrC} {b : KC.AdrH} {o : KC.AdrO} {g : AdrG}
/-- _law_caught(lambda: body) -/
theorem pe_caught {Tb : List (Addr × Str)} {cd P : Addr} {k : Nat} {params : Arguments} {body : Expr} {scope : Scope} {t : XK → TE} {p lpos pos : Pos}
    (T : TxtG X.K X.mg a q c b o g) (hsys : Sys X.base) (hgd : X.A.guards = some []) (hg : Gl X "_law_caught")
    (TB : TabB X.base X.mg cd P) (hcode : X.env.code = .ref cd) (hmT : (P, X.env.qual ++ "<lambda>") ∈ Tb) (hu : ∀ p ∈ Tb, p.1 = P → p.2 = X.env.qual ++ "<lambda>") (hr : Room (k + 4) X.A) (L : LamS X.env.scope scope) (hdef : defaultsOf params X.env = ([], []))
    (hbind : ∀ (q : Str) (cl : List (Str × Addr)) (pm cv ctv : Value), bindArgs (PySem.W.kla_fn "<lambda>" q params body scope cl pm cv ctv) ⟨[], []⟩ = pure [])
    (hbody : ∀ (A : Around) (outer : List Env) (s : Shared) (H : Hp) (E : XK) (f c' : Addr), Room (k + 2) (A.deeper (lamEnv X scope s.heap.objs.size f c')) → PE (lamN X A outer s H E scope f c') body (t E)) :
    PE X (.Call (.Name "_law_caught" p) [.Lambda params body scope lpos] [] pos) (tLam Tb (TTc a) t) :=
  pe_lamN (k := k + 2) (Ng := NLawCaught) (a := "_law_act") hg T.gLawCaught T.kLawCaught T.fLawCaught T.bLawCaught scLawCaught rfl (Or.inl rfl)
    (fun cdv => gives_caught T.toTxt T.c3 T.brepr hsys hgd (hr.mono (Nat.le_add_left _ _)) q.LawCaught cdv (X.env.qual ++ "<lambda>") (ok_error T.toTxt) (ok_field T.toTxt)) TB hcode hmT hu hr L hdef hbind hbody
end
section
variable {X : Cx} {A : Around} {outer : List Env} {s : Shared} {H : Hp} {E : XK} {scope : Scope} {f c' : Addr}
theorem pass_lam : Passes (L2N.CX X.prog X.w) (lamN X A outer s H E scope f c') E :=
  L2N.passes_call (L2N.takes_of rfl rfl rfl rfl) fun _ _ _ _ h => h
end
end L2.K06

set_option Elab.async false
set_option maxRecDepth 100000
set_option maxHeartbeats 400000
set_option linter.all false
/-! What a try of the law puts together. -/
namespace L2.K06
open PySem PySem.Spec PyProof.Rows XK Evl XC TL EV
local macro_rules | `(tactic| walk_at "pr") => `(tactic| first | (apply pr_own; rfl) | (apply Pu.r; walk_at "pu"))
local macro_rules | `(tactic| walk_at "pls") => `(tactic| first | exact pns | (apply pcs; walk_at "pu"; walk_at "pls"))
local macro_rules | `(tactic| walk_at "pu") => `(tactic| first | (apply pu_var; rfl) | exact pn | exact pbb | (apply ps; decide +kernel) | (apply pl_lst; walk_at "pls"; simp) | (apply pl_cat; walk_at "pr"; walk_at "pr"; first | omega | (simp <;> omega)))
abbrev tonePs (names : List Str) : List (Str × Str) := names.map fun s => (s, ("tone" : Str))
def posts (names : List Str) : PyData := .tuple ((tonePs names).map KC.prP)
def rowOne (w : Str) : Str := ("call: a some, stand " : Str) ++ w
def rowTwo (w : Str) : Str := (("late if in " : Str) ++ w) ++ (" and not caller: deaf" : Str)
def rowThree (w : Str) : Str := ("gone: stand " : Str) ++ w
def base3 (last first : Str) : List PyData := [.str (rowOne last), .str (rowTwo last), .str (rowThree first)]
/-- what is due: nothing, or InvalidRows with the place -/
def dueR (d : PyData) (at_ : Nat) (names tags : List Str) : Option (Nat × Nat) := if lawRowD d names tags then none else some (11, at_)
def toldD (due : Option (Nat × Nat)) (d : PyData) : List PyData := match due with
  | some (n, i) => [.int n, .str (toString (i : Int))]
  | none => [.str "told", .str d.shown]
/-- drawn names -/
structure NamesOk (lo hi : Nat) (l : List Str) : Prop where
  lo : lo ≤ l.length
  hi : l.length ≤ hi
  nd : l.Nodup
  wd : ∀ s ∈ l, KC.wordS s = true
theorem NamesOk.sg {lo hi : Nat} {l : List Str} (h : NamesOk lo hi l) : AllSg 8 l := fun s hs => low_sg (word_low (h.wd s hs))
/-- a drawn house with a row among others -/
structure Try (names tags : List Str) (d : PyData) (at_ : Nat) (last first : Str) (ents : List PyData) : Prop where
  n : NamesOk 2 4 names
  t : NamesOk 0 3 tags
  ok : okD 1500 d
  a3 : at_ ≤ 3
  la : last ∈ names
  fi : first ∈ names
  e : ents = (base3 last first).take at_ ++ d :: (base3 last first).drop at_
theorem two_sum : ("tone" : Str).length ≤ 100000 := by decide +kernel
theorem row1_eq (w : Str) : rowOne w = KC.rowT "call" [] ["a some", ("stand " : Str) ++ w] := by
  refine ext_tl ?_
  unfold rowOne KC.rowT KC.headT
  rw [if_pos rfl, join_eq]
  simp only [tl_append, tl_join, List.map, joinL]
  have e1 : tl ("call: a some, stand " : Str) = tl ("call" : Str) ++ (tl (": " : Str) ++ (tl ("a some" : Str) ++ (tl (", " : Str) ++ tl ("stand " : Str)))) := by decide +kernel
  rw [e1]
  simp only [List.append_assoc]
theorem row2_eq (w : Str) : rowTwo w = KC.rowT "late" [("in " : Str) ++ w, "not caller"] ["deaf"] := by
  refine ext_tl ?_
  unfold rowTwo KC.rowT KC.headT
  rw [if_neg (by simp), join_eq, join_eq]
  simp only [tl_append, tl_join, List.map, joinL]
  have e1 : tl ("late if in " : Str) = tl ("late" : Str) ++ (tl (" if " : Str) ++ tl ("in " : Str)) := by decide +kernel
  have e2 : tl (" and not caller: deaf" : Str) = tl (" and " : Str) ++ (tl ("not caller" : Str) ++ (tl (": " : Str) ++ tl ("deaf" : Str))) := by decide +kernel
  rw [e1, e2]
  simp only [List.append_assoc]
theorem row3_eq (w : Str) : rowThree w = KC.rowT "gone" [] [("stand " : Str) ++ w] := by
  refine ext_tl ?_
  unfold rowThree KC.rowT KC.headT
  rw [if_pos rfl, join_eq]
  simp only [tl_append, tl_join, List.map, joinL]
  have e1 : tl ("gone: stand " : Str) = tl ("gone" : Str) ++ (tl (": " : Str) ++ tl ("stand " : Str)) := by decide +kernel
  rw [e1]
  simp only [List.append_assoc]
theorem occ_plain {o : Str} {tags : List Str} (h : o ∈ KC.plainOcc) : KC.occOk o tags = true := by
  rw [KC.occ_iff, decide_eq_true h, Bool.or_true]
theorem stand_menu {w : Str} {names : List Str} {ph k : Bool} (h : w ∈ names) : ("stand " : Str) ++ w ∈ KC.menuD names ph k := by
  unfold KC.menuD
  exact List.mem_append_left _ (List.mem_append_left _ (List.mem_append_right _ (List.mem_map.mpr ⟨w, h, rfl⟩)))
theorem baseD_menu {z : Str} {names : List Str} {ph k : Bool} (h : z ∈ KC.baseD) : z ∈ KC.menuD names ph k := by
  unfold KC.menuD
  exact List.mem_append_left _ (List.mem_append_left _ (List.mem_append_left _ h))
theorem base_ok {names tags : List Str} {last first : Str} (hn : NamesOk 2 4 names) (ht : NamesOk 0 3 tags) (hl : last ∈ names) (hf : first ∈ names) : ∀ d ∈ base3 last first, KC.rowD d names tags = true := by
  intro d hd
  simp only [base3, List.mem_cons, List.not_mem_nil, or_false] at hd
  rcases hd with rfl | rfl | rfl
  · show KC.rowS (rowOne last) names tags = true
    rw [row1_eq]
    refine KC.rule_ok hn.wd ht.wd (occ_plain (by decide +kernel)) (fun c hc => by cases hc) (fun c hc => ?_) (by simp) (by simp) (by simp)
    simp only [List.mem_cons, List.not_mem_nil, or_false] at hc
    rcases hc with rfl | rfl
    · exact baseD_menu (by decide +kernel)
    · exact stand_menu hl
  · show KC.rowS (rowTwo last) names tags = true
    rw [row2_eq]
    refine KC.rule_ok hn.wd ht.wd (occ_plain (by decide +kernel)) (fun c hc => ?_) (fun c hc => ?_) (by simp) (by simp) (by simp)
    · simp only [List.mem_cons, List.not_mem_nil, or_false] at hc
      unfold KC.menuC
      rcases hc with rfl | rfl
      · refine List.mem_append_left _ ?_
        unfold KC.menuC0
        exact List.mem_append_left _ (List.mem_append_right _ (List.mem_map.mpr ⟨last, hl, rfl⟩))
      · refine List.mem_append_right _ (List.mem_map.mpr ⟨"caller", ?_, by decide +kernel⟩)
        unfold KC.menuC0
        exact List.mem_append_left _ (List.mem_append_left _ (by decide +kernel))
    · rw [List.mem_singleton.mp hc]
      exact baseD_menu (by decide +kernel)
  · show KC.rowS (rowThree first) names tags = true
    rw [row3_eq]
    refine KC.rule_ok hn.wd ht.wd (occ_plain (by decide +kernel)) (fun c hc => by cases hc) (fun c hc => ?_) (by simp) (by simp) (by simp)
    rw [List.mem_singleton.mp hc]
    exact stand_menu hf
theorem lawRowD_eq {d : PyData} {names tags : List Str} (hn : ∀ n ∈ names, KC.wordS n = true) : lawRowD d names tags = KC.rowD d names tags := by
  cases d with
  | str s => exact KC.lawRow_eq hn
  | _ => rfl
theorem base_len (l f : Str) : (base3 l f).length = 3 := rfl
/-- what is due is what House says -/
theorem try_fault {names tags : List Str} {d : PyData} {at_ : Nat} {last first : Str} {ents : List PyData} (t : Try names tags d at_ last first ents) {a : Adr} {b : KC.AdrH} (eR : b.InvalidRows = a.InvalidRows) (l : V) :
    KC.houseFault b l (.int 2) (posts names) (.tuple (tags.map .str)) (.tuple ents) = (dueR d at_ names tags).map fun p => (errC a p.1, ("index" : Str), V.int ((p.2 : Nat) : Int)) := by
  have hs : KC.standsFault (.tuple ((tonePs names).map KC.prP)) = none := by
    refine KC.stands_fine ?_ ?_ (fun p hp => ?_) (fun p hp => ?_) ?_
    · rw [List.length_map]; exact t.n.lo
    · rw [List.length_map]; have := t.n.hi; omega
    · obtain ⟨s, hs, rfl⟩ := List.mem_map.mp hp
      exact t.n.wd s hs
    · obtain ⟨s, hs, rfl⟩ := List.mem_map.mp hp
      exact ⟨by show KC.wordS ("tone" : Str) = true; decide +kernel, by show ("tone" : Str) ∉ KC.wHeardWords; decide +kernel⟩
    · rw [List.map_map]
      have : names.map ((fun p : Str × Str => p.1) ∘ fun s => (s, ("tone" : Str))) = names := List.map_id names
      rw [this]
      exact t.n.nd
  have hk := KC.keys_fine (ks := tags) t.t.hi t.t.wd t.t.nd
  unfold posts
  rw [KC.fault_rows (by decide) hs hk]
  have ew : (tonePs names).map (·.1) = names := by
    rw [List.map_map]
    exact List.map_id names
  rw [ew, t.e]
  have good := base_ok t.n t.t t.la t.fi
  have gt : ∀ d ∈ (base3 last first).take at_, KC.rowD d names tags = true := fun d hd => good d (List.mem_of_mem_take hd)
  have gd : ∀ d ∈ (base3 last first).drop at_, KC.rowD d names tags = true := fun d hd => good d (List.mem_of_mem_drop hd)
  have h16 : ((base3 last first).take at_ ++ d :: (base3 last first).drop at_).length ≤ 16 := by
    rw [List.length_append, List.length_cons, List.length_take, List.length_drop, base_len]
    omega
  unfold dueR
  rw [lawRowD_eq t.n.wd]
  cases hd : KC.rowD d names tags with
  | true =>
    rw [if_pos rfl, KC.rows_fine h16 fun x hx => ?_]
    · rfl
    · rcases List.mem_append.mp hx with hx | hx
      · exact gt x hx
      · rcases List.mem_cons.mp hx with rfl | hx
        · exact hd
        · exact gd x hx
  | false =>
    rw [if_neg (by decide), KC.rows_bad h16 gt hd]
    have el : ((base3 last first).take at_).length = at_ := by
      rw [List.length_take, base_len]
      have := t.a3
      omega
    rw [el]
    show some (b.InvalidRows, _, _) = some (errC a 11, _, _)
    rw [eR]
    rfl
theorem at_last {l : List Str} (h : l ≠ []) : ∃ s ∈ l, atI l (-1) = some s := by
  have hl : 0 < l.length := List.length_pos_iff.mpr h
  have e : ixN l.length (-1) = some (l.length - 1) := by
    unfold ixN
    rw [if_neg (by omega)]
    have : ((l.length : Int) + -1) = ((l.length - 1 : Nat) : Int) := by omega
    simp [this]
    omega
  refine ⟨l[l.length - 1], List.getElem_mem _, ?_⟩
  unfold atI
  rw [e]
  exact List.getElem?_eq_getElem _
theorem sm_strL {L D : Nat} {z : Str} (h : Sg L z) : Sm (10 * L + 2) D (.str z) := by
  refine ⟨rfl, ?_, Nat.zero_le _, asc_repr h.1⟩
  have := StrLaws.reprText_len z fun c hc => Nat.lt_trans (h.1 c hc).2 (by decide)
  have := h.2
  show (reprText z).length ≤ _
  omega
theorem row_sg {w : Str} (h : Sg 8 w) : Sg 1500 (rowOne w) ∧ Sg 1500 (rowTwo w) ∧ Sg 1500 (rowThree w) := by
  have p1 : Sg 30 ("call: a some, stand " : Str) := sg1 (by decide +kernel)
  have p2 : Sg 30 ("late if in " : Str) := sg1 (by decide +kernel)
  have p3 : Sg 30 (" and not caller: deaf" : Str) := sg1 (by decide +kernel)
  have p4 : Sg 30 ("gone: stand " : Str) := sg1 (by decide +kernel)
  exact ⟨p1.app h (by decide), (p2.app h (by decide) (L := 38)).app p3 (by decide), p4.app h (by decide)⟩
/-- entries that are all texts can be shown -/
theorem try_sm {names tags : List Str} {s : Str} {at_ : Nat} {last first : Str} {ents : List PyData} (t : Try names tags (.str s) at_ last first ents) : Sm 100000 100 (.tuple ents) := by
  have sl := t.n.sg last t.la
  have sf := t.n.sg first t.fi
  refine (sm_tup (M := 15002) (D := 0) (fun d hd => ?_) ?_).mono (by decide) (by decide)
  · have key : ∃ z, d = .str z ∧ Sg 1500 z := by
      have base : ∀ d ∈ base3 last first, ∃ z, d = .str z ∧ Sg 1500 z := by
        intro d hd
        simp only [base3, List.mem_cons, List.not_mem_nil, or_false] at hd
        rcases hd with rfl | rfl | rfl
        · exact ⟨_, rfl, (row_sg sl).1⟩
        · exact ⟨_, rfl, (row_sg sl).2.1⟩
        · exact ⟨_, rfl, (row_sg sf).2.2⟩
      rw [t.e] at hd
      rcases List.mem_append.mp hd with hd | hd
      · exact base d (List.mem_of_mem_take hd)
      · rcases List.mem_cons.mp hd with rfl | hd
        · exact ⟨s, rfl, t.ok⟩
        · exact base d (List.mem_of_mem_drop hd)
    obtain ⟨z, rfl, hz⟩ := key
    exact sm_strL hz
  · rw [t.e, List.length_append, List.length_cons, List.length_take, List.length_drop, base_len]
    omega
section
variable {K : PySem.W.Frag} {n : Int} {N : En → Int → Prop} {T : Vd → Int → Prop}
theorem pl_mapD {ρ : En} {it : Itx} {e : Ex} {j : Nat} {l : List Str} {f : Str → PyData} (h1 : noOw ρ j = true) (hj : j < ρ.length) (hi : EV.PI K it ρ (l.map .str)) (hz : l.length ≤ 90000)
    (hs : ∀ x ∈ l, Pu K e ((ρ.set j .un).set j (.va (.d (.str x)))) (f x)) : Pu K (.lc it (.name j) .yes e) ρ (.list (l.map f)) := by
  have key := pu_lc (K := K) (ρ := ρ) (it := it) (g := .name j) (t := .yes) (e := e) (ds := l.map .str)
    (f := fun d => match d with | .str s => f s | d => d) (p := fun d => true) (by simp [Tgt.vs, h1]) hi (by rw [List.length_map]; exact hz) fun x hx => by
      obtain ⟨s, hs', rfl⟩ := List.mem_map.mp hx
      refine ⟨(ρ.set j .un).set j (.va (.d (.str s))), fun q hq => ⟨?_, hq⟩, EV.pt_yes, fun _ => hs s hs'⟩
      show j < (ρ.set j .un).length
      rw [List.length_set]
      exact hj
  refine key.at_ ?_
  rw [List.filter_eq_self.mpr (fun _ _ => rfl), List.map_map]
  rfl
/-- behind the row: where it stands, the others, what is due -/
theorem w_right5 {d : PyData} {names tags : List Str} {x8 x9 : Vd} (hn : n ≤ 900000) (nn : NamesOk 2 4 names) (tt : NamesOk 0 3 tags) (hd : okD 1500 d)
    (k : ∀ (at_ : Nat) (last first : Str) (ents : List PyData), Try names tags d at_ last first ents →
      N [.pl, .va (.d d), .va (.d (.tuple ents)), .va (.d (.list (toldD (dueR d at_ names tags) (.tuple ents)))), .un, .va (.d (SL names)), .va (.d (SL tags)), .va (.d (posts names)), .va x8, .va x9, .va (.d (.int at_)), .va (.d (.str last)), .un, .un] (n + 1)) :
    dLawRight5.w K [.pl, .va (.d d), .un, .un, .un, .va (.d (SL names)), .va (.d (SL tags)), .va (.d (posts names)), .va x8, .va x9, .un, .un, .un, .un] n N T := by
  have hne : names ≠ [] := fun z => by have := nn.lo; rw [z] at this; simp at this
  obtain ⟨last, hla, ela⟩ := at_last hne
  obtain ⟨first, hfi, efi⟩ : ∃ first ∈ names, names[0]? = some first := by
    cases names with
    | nil => exact absurd rfl hne
    | cons a l => exact ⟨a, List.mem_cons_self, rfl⟩
  have sl := nn.sg last hla
  have sf := nn.sg first hfi
  refine sw_seq (sw_par (ltS rfl) (ltS rfl) (w_draw (by rfl) pn.r (by decide) (by decide) (by omega) fun r r0 r1 => pu_of (ps_ix (s := last) (r := -1) (by walk_at "pr") (Pu.r (pu_neg pn.r)) ela) ?_))
  obtain ⟨at_, rfl⟩ := Int.eq_ofNat_of_zero_le r0
  have a3 : at_ ≤ 3 := by omega
  dsimp only [List.set]
  have pc : ("call: a some, stand " : Str).length ≤ 30 ∧ ("late if in " : Str).length ≤ 30 ∧ (" and not caller: deaf" : Str).length ≤ 30 ∧ ("gone: stand " : Str).length ≤ 30 := by decide +kernel
  refine sw_seq (sw_asgL (ltS rfl) (ws_pu (ps_add (Pu.r (ps (by decide +kernel))) (by walk_at "pr") (by have := sl.2; omega)) (ws_pu (ps_add (Pu.r (ps_add (Pu.r (ps (by decide +kernel))) (by walk_at "pr") (by have := sl.2; omega))) (Pu.r (ps (by decide +kernel))) (by rw [app_len]; have := sl.2; omega)) (ws_nil ⟨by simp, ?_⟩))))
  dsimp only [List.set]
  refine sw_seq (sw_app (by rfl) (pu_of (ps_add (Pu.r (ps (by decide +kernel))) (Pu.r (ps_ix (s := first) (r := 0) (by walk_at "pr") pn.r (atI_nat (j := 0) efi))) (by have := sf.2; omega)) ⟨by simp, ?_⟩))
  dsimp only [List.set]
  change dLawRight8.w K [.pl, .va (.d d), .ow (.list (base3 last first)), .un, .un, .va (.d (SL names)), .va (.d (SL tags)), .va (.d (posts names)), .va x8, .va x9, .va (.d (.int at_)), .va (.d (.str last)), .un, .un] (n + 1) N T
  have c1 : DL.cutD (base3 last first) none (some (at_ : Int)) = (base3 last first).take at_ := by
    match at_, a3 with
    | 0, _ => rfl
    | 1, _ => rfl
    | 2, _ => rfl
    | 3, _ => rfl
  have c2 : DL.cutD (base3 last first) (some (at_ : Int)) none = (base3 last first).drop at_ := by
    match at_, a3 with
    | 0, _ => rfl
    | 1, _ => rfl
    | 2, _ => rfl
    | 3, _ => rfl
  obtain ⟨ents, he⟩ : ∃ ents, ents = (base3 last first).take at_ ++ d :: (base3 last first).drop at_ := ⟨_, rfl⟩
  have t : Try names tags d at_ last first ents := ⟨nn, tt, hd, a3, hla, hfi, he⟩
  refine sw_seq (sw_asgP (ltS rfl) (d := .tuple ents) ?_ ?_)
  · refine pu_blt (prs_cons (d := .list ents) (Pu.r (pu_op (x := .list ((base3 last first).take at_ ++ [d])) (y := .list ((base3 last first).drop at_)) (Pu.r (pu_op (x := .list ((base3 last first).take at_)) (y := .list [d]) (Pu.r (pu_sl (x := .list (base3 last first)) (pr_own (by rfl)) po_no (po_at (by walk_at "pr")) fun F f => ?_)) (Pu.r (pu_lst (tss_cons (by walk_at "pu") tss_nil) (by simp))) fun F f => ⟨?_, f⟩))
      (Pu.r (pu_sl (x := .list (base3 last first)) (pr_own (by rfl)) (po_at (by walk_at "pr")) po_no fun F f => ?_)) fun F f => ⟨?_, ?_⟩)) prs_nil) fun F f => ⟨?_, f⟩
    · show F (.list (DL.cutD (base3 last first) none (some (at_ : Int))))
      rw [c1]
      exact f
    · rw [List.length_take, base_len]; simp; omega
    · show F (.list (DL.cutD (base3 last first) (some (at_ : Int)) none))
      rw [c2]
      exact f
    · rw [List.length_append, List.length_take, List.length_drop, base_len]; simp; omega
    · rw [List.append_assoc, List.singleton_append, ← he]
      exact f
    · rw [he, List.length_append, List.length_cons, List.length_take, List.length_drop, base_len]; omega
  dsimp only [List.set]
  have n8 : ∀ x ∈ names, x.length ≤ 8 := fun x hx => (nn.sg x hx).2
  have t8 : ∀ x ∈ tags, x.length ≤ 8 := fun x hx => (tt.sg x hx).2
  have ok9 : okD 99000 d := by
    cases d with
    | str s => exact (show Sg 1500 s from hd).mono (by decide)
    | _ => trivial
  refine sw_asgP (ltS rfl) (d := .list (toldD (dueR d at_ names tags) (.tuple ents))) (Pu.at_ (pu_ite (c := lawRowD d names tags) (x := .list [.str "told", .str (PyData.tuple ents).shown]) (y := .list [.int 11, .str (toString (at_ : Int))])
    (tt_val (Pu.r (pu_callF (pvs_cons (by walk_at "pu") (pvs_cons (by walk_at "pu") (pvs_cons (by walk_at "pu") pvs_nil))) fun F f => ⟨d, names, tags, rfl, ok9, by have := nn.hi; omega, by have := tt.hi; omega, n8, t8, f⟩))) (fun h => ?_) fun _ => ?_) ?_) ?_
  · have : ∃ s, d = .str s := by
      cases d with
      | str s => exact ⟨s, rfl⟩
      | _ => cases h
    obtain ⟨s, rfl⟩ := this
    have sm := try_sm t
    exact pu_lst (tss_cons (ps (by decide +kernel)) (tss_cons (pu_rp (x := .tuple ents) (by walk_at "pr") fun F f => ⟨sm.sh, sm.le, sm.dp, f⟩) tss_nil)) (by simp)
  · refine pu_lst (tss_cons pn (tss_cons (pu_rp (x := .int at_) (by walk_at "pr") fun F f => ⟨small_log (by omega), ?_, f⟩) tss_nil)) (by simp)
    have : ∀ i : Nat, i < 4 → ((toString (i : Int) : String) : Str).length ≤ 100000 := by decide +kernel
    exact this at_ (by omega)
  · unfold dueR
    cases lawRowD d names tags <;> rfl
  dsimp only [List.set]
  exact k at_ last first ents t
end
end L2.K06

set_option Elab.async false
set_option maxRecDepth 100000
set_option maxHeartbeats 400000
set_option linter.all false
/-! What a try of the law puts together: the whole. -/
namespace L2.K06
open PySem PySem.Spec PyProof.Rows XK Evl XC TL EV
local macro_rules | `(tactic| walk_at "pr") => `(tactic| first | (apply pr_own; rfl) | (apply Pu.r; walk_at "pu"))
local macro_rules | `(tactic| walk_at "pls") => `(tactic| first | exact pns | (apply pcs; walk_at "pu"; walk_at "pls"))
local macro_rules | `(tactic| walk_at "pu") => `(tactic| first | (apply pu_var; rfl) | exact pn | exact pbb | (apply ps; decide +kernel) | (apply pl_lst; walk_at "pls"; simp) | (apply pl_cat; walk_at "pr"; walk_at "pr"; first | omega | (simp <;> omega)))
def oddD : List PyData := [.none, .int 0, .bool true, .tuple [.str "call: deaf"], .list [.str "call: deaf"], .dict [], .str "", .str "call: "]
theorem odd_ok : ∀ d ∈ oddD, okD 1500 d := by
  intro d hd
  have s1 : Sg 1500 ("" : Str) := sg1 (by decide +kernel)
  have s2 : Sg 1500 ("call: " : Str) := sg1 (by decide +kernel)
  simp only [oddD, List.mem_cons, List.not_mem_nil, or_false] at hd
  rcases hd with rfl | rfl | rfl | rfl | rfl | rfl | rfl | rfl
  · trivial
  · trivial
  · trivial
  · trivial
  · trivial
  · trivial
  · exact s1
  · exact s2
section
variable {K : PySem.W.Frag} {n : Int} {N : En → Int → Prop} {T : Vd → Int → Prop}
abbrev envR (d : PyData) (ents : List PyData) (at_ : Nat) (names tags : List Str) (x8 x9 : Vd) (last : Str) : En :=
  [.pl, .va (.d d), .va (.d (.tuple ents)), .va (.d (.list (toldD (dueR d at_ names tags) (.tuple ents)))), .un, .va (.d (SL names)), .va (.d (SL tags)), .va (.d (posts names)), .va x8, .va x9, .va (.d (.int at_)), .va (.d (.str last)), .un, .un]
theorem w_right4 {d : PyData} {names tags : List Str} {x8 : Vd} {odd : Int} {B : Int} (hn : n + 2 ≤ B) (hB : B ≤ 900000) (nn : NamesOk 2 4 names) (tt : NamesOk 0 3 tags) (hd : okD 1500 d)
    (k : ∀ (d : PyData) (at_ : Nat) (last first : Str) (ents : List PyData) (x8 x9 : Vd) (m : Int), m ≤ B → Try names tags d at_ last first ents → N (envR d ents at_ names tags x8 x9 last) m) :
    dLawRight4.w K [.pl, .va (.d d), .un, .un, .un, .va (.d (SL names)), .va (.d (SL tags)), .va (.d (posts names)), .va x8, .va (.d (.int odd)), .un, .un, .un, .un] n N T := by
  refine sw_seq (sw_ifP (tt_cmp (Pu.r (pb_eqI (by walk_at "pr") pn.r))) (fun _ => ?_) fun _ => ?_)
  · refine sw_asg (ltS rfl) (w_opDR (x := .list oddD) (by rfl) (Pu.r (pu_lst (tss_cons (pu_dat rfl) (tss_cons pn (tss_cons pbb (tss_cons (pu_tup (tss_cons (ps (by decide +kernel)) tss_nil) (by simp)) (tss_cons (pu_lst (tss_cons (ps (by decide +kernel)) tss_nil) (by simp)) (tss_cons pu_dict0 (tss_cons (ps (by decide +kernel)) (tss_cons (ps (by decide +kernel)) tss_nil)))))))) (by decide))) pn.r (by decide) (by decide) (by omega) fun r r0 r1 => ?_)
    obtain ⟨j, rfl⟩ := Int.eq_ofNat_of_zero_le r0
    have hj : j < oddD.length := by
      show j < 8
      omega
    refine ⟨oddD[j], atI_nat (List.getElem?_eq_getElem hj), ?_⟩
    dsimp only [List.set]
    exact w_right5 (by omega) nn tt (odd_ok _ (List.getElem_mem hj)) fun at_ last first ents t => k _ at_ last first ents _ _ _ (by omega) t
  · exact sw_skip (w_right5 (by omega) nn tt hd fun at_ last first ents t => k _ at_ last first ents _ _ _ (by omega) t)
theorem w_right {B : Int} (hB : n + 200 ≤ B) (hB2 : B ≤ 900000)
    (k : ∀ (names tags : List Str) (d : PyData) (at_ : Nat) (last first : Str) (ents : List PyData) (x8 x9 : Vd) (m : Int), m ≤ B → Try names tags d at_ last first ents → N (envR d ents at_ names tags x8 x9 last) m) :
    dLawRight.w K [.pl, .un, .un, .un, .un, .un, .un, .un, .un, .un, .un, .un, .un, .un] n N T := by
  refine sw_seq (sw_asgT (w_tup (ws_cons (w_callP (by rfl) (wv_cons (w_opDR (by rfl) pn.r pn.r (by decide) (by decide) (by omega) fun r r0 r1 => ?_))))))
  dsimp only [wOp]
  refine wv_nil ⟨by show n + 1 + 70 ≤ _; omega, 2 + r, rfl, by omega, by omega, fun names hl nd wd => ?_⟩
  have nn : NamesOk 2 4 names := ⟨by omega, by omega, nd, wd⟩
  show Exs.w _ _ _ _ _
  refine ws_cons (w_callP (by rfl) (wv_cons (w_draw (by rfl) pn.r (by decide) (by decide) (by show n + 1 + 70 ≤ _; omega) fun r2 r20 r21 => ?_)))
  refine wv_nil ⟨by show n + 1 + 70 + 1 + 70 ≤ _; omega, r2, rfl, by omega, by omega, fun tags hl2 nd2 wd2 => ?_⟩
  have tt : NamesOk 0 3 tags := ⟨by omega, by omega, nd2, wd2⟩
  show Exs.w _ _ _ _ _
  refine ws_nil ⟨by simp, rfl, by simp, ?_⟩
  dsimp only [setR, List.set]
  show dLawRight1.w K _ (n + 1 + 70 + 1 + 70) _ _
  refine sw_seq (sw_asgT (w_tup (ws_pu (d := posts names) (pu_blt (prs_cons (d := .list ((tonePs names).map KC.prP)) (Pu.r (Pu.at_ (pl_mapD (l := names) (f := fun s => KC.prP (s, ("tone" : Str))) (by rfl) (ltS rfl) (ti_list (by walk_at "pu")) (by have := nn.hi; omega) fun x hx => pu_tup (tss_cons (by walk_at "pu") (tss_cons (ps (by decide +kernel)) tss_nil)) (by simp)) (by rw [List.map_map]; rfl))) prs_nil) fun F f => ⟨?_, f⟩)
    (ws_draw (by rfl) pn.r (by decide) (by decide) (by omega) fun b b0 b1 => ws_draw (by rfl) pn.r (by decide) (by decide) (by omega) fun o o0 o1 => ws_nil ⟨by simp, rfl, by simp, ?_⟩))))
  · rw [List.length_map, List.length_map]
    have := nn.hi
    omega
  dsimp only [setR, List.set]
  have n8 := nn.sg
  have t8 := tt.sg
  refine sw_seq (sw_asg (ltS rfl) (w_callPP (vs := [.d (SL names), .d (SL tags)]) (by rfl) (pvs_cons (by walk_at "pu") (pvs_cons (by walk_at "pu") pvs_nil)) (by show _ + 20 ≤ _; omega) ⟨names, tags, rfl, by have := nn.hi; omega, by have := tt.hi; omega, n8, t8, fun s hs s1 => ?_⟩))
  dsimp only [List.set]
  show dLawRight3.w K _ (n + 1 + 70 + 1 + 70 + 1 + 1 + 20) _ _
  have isr : ∀ {ρ : En} (e0 : ρ[1]? = some (.va (.d (.str s)))) (e5 : ρ[5]? = some (.va (.d (SL names)))) (e6 : ρ[6]? = some (.va (.d (SL tags)))), Pu K (.callF conLawIsRow (.cons (.var 1) (.cons (.var 5) (.cons (.var 6) .nil)))) ρ (.bool (lawRowD (.str s) names tags)) := fun e0 e5 e6 =>
    pu_callF (pvs_cons (pu_var e0) (pvs_cons (pu_var e5) (pvs_cons (pu_var e6) pvs_nil))) fun F f => ⟨.str s, names, tags, rfl, hs.mono (by decide), by have := nn.hi; omega, by have := tt.hi; omega, fun x hx => (n8 x hx).2, fun x hx => (t8 x hx).2, f⟩
  refine sw_seq (sw_ifP (tt_an (tt_cmp (Pu.r (pb_eqI (by walk_at "pr") pn.r))) fun _ => tt_val (Pu.r (isr (by rfl) (by rfl) (by rfl)))) (fun _ => ?_) fun _ => ?_)
  · refine sw_asg (ltS rfl) (w_callPP (vs := [.d (.str s)]) (by rfl) (pvs_cons (by walk_at "pu") pvs_nil) (by show _ + 5 ≤ _; omega) ⟨s, rfl, hs, s1, fun z hz => ?_⟩)
    dsimp only [List.set]
    exact w_right4 (by show _ + 5 + 2 ≤ B; omega) hB2 nn tt hz fun d at_ last first ents x8 x9 m hm t => k names tags d at_ last first ents x8 x9 m hm t
  · exact sw_skip (w_right4 (by omega) hB2 nn tt (hs.mono (by decide)) fun d at_ last first ents x8 x9 m hm t => k names tags d at_ last first ents x8 x9 m hm t)
end
end L2.K06

set_option Elab.async false
set_option maxRecDepth 100000
set_option maxHeartbeats 4000000
set_option linter.all false
/-! A body whose last rows are no term. -/
namespace L2.EV
open PySem PySem.Spec PyProof.Rows XC XK Evl TL DL
/-- s, and then u -/
def St.thn (K : PySem.W.Frag) : St → TS → TS
  | .seq a b, u => tSeq (a.t K) (b.thn K u)
  | s, u => tSeq (s.t K) u
theorem St.sndU : ∀ (s : St) {C : Cn} {n : Int} {env : List Ent} {ρ : En} {N : En → Int → Prop} {T : Vd → Int → Prop} {u : TS} {D : Ends} {σ : L2.St} {H : Hp}, s.w C.K ρ n N T → EnR C ρ env → Now C n env σ H →
    (∀ ρ' m e σ' H', EnR C ρ' e → Now C m e σ' H' → N ρ' m → u D σ' H') → (∀ v H' R m, Bt C.pl.toList C.H0 H' → PoolO H' C.pl m → R.r v (hid C.G H') → Up C.K T R m → D.rt v H') → s.thn C.K u D σ H
  | .seq a b, C, n, env, ρ, N, T, u, D, σ, H, h, R, S, k, r =>
    a.snd (C := C) (N := fun ρ' m => b.w C.K ρ' m N T) h R { D with nx := b.thn C.K u D } σ H S (fun σ' H' m e S' ⟨ρ', R', h'⟩ => b.sndU h' R' S' k r) r
  | .skip, C, n, env, ρ, N, T, u, D, σ, H, h, R, S, k, r => St.snd .skip (C := C) h R { D with nx := u D } σ H S (fun σ' H' m e S' ⟨ρ', R', h'⟩ => k ρ' m e σ' H' R' S' h') r
  | .asg i e, C, n, env, ρ, N, T, u, D, σ, H, h, R, S, k, r => St.snd (.asg i e) (C := C) h R { D with nx := u D } σ H S (fun σ' H' m e S' ⟨ρ', R', h'⟩ => k ρ' m e σ' H' R' S' h') r
  | .asgL i e, C, n, env, ρ, N, T, u, D, σ, H, h, R, S, k, r => St.snd (.asgL i e) (C := C) h R { D with nx := u D } σ H S (fun σ' H' m e S' ⟨ρ', R', h'⟩ => k ρ' m e σ' H' R' S' h') r
  | .asgC i a b, C, n, env, ρ, N, T, u, D, σ, H, h, R, S, k, r => St.snd (.asgC i a b) (C := C) h R { D with nx := u D } σ H S (fun σ' H' m e S' ⟨ρ', R', h'⟩ => k ρ' m e σ' H' R' S' h') r
  | .asgT js e, C, n, env, ρ, N, T, u, D, σ, H, h, R, S, k, r => St.snd (.asgT js e) (C := C) h R { D with nx := u D } σ H S (fun σ' H' m e S' ⟨ρ', R', h'⟩ => k ρ' m e σ' H' R' S' h') r
  | .par i j a b, C, n, env, ρ, N, T, u, D, σ, H, h, R, S, k, r => St.snd (.par i j a b) (C := C) h R { D with nx := u D } σ H S (fun σ' H' m e S' ⟨ρ', R', h'⟩ => k ρ' m e σ' H' R' S' h') r
  | .app i e, C, n, env, ρ, N, T, u, D, σ, H, h, R, S, k, r => St.snd (.app i e) (C := C) h R { D with nx := u D } σ H S (fun σ' H' m e S' ⟨ρ', R', h'⟩ => k ρ' m e σ' H' R' S' h') r
  | .ifs t a b, C, n, env, ρ, N, T, u, D, σ, H, h, R, S, k, r => St.snd (.ifs t a b) (C := C) h R { D with nx := u D } σ H S (fun σ' H' m e S' ⟨ρ', R', h'⟩ => k ρ' m e σ' H' R' S' h') r
  | .for_ it g b, C, n, env, ρ, N, T, u, D, σ, H, h, R, S, k, r => St.snd (.for_ it g b) (C := C) h R { D with nx := u D } σ H S (fun σ' H' m e S' ⟨ρ', R', h'⟩ => k ρ' m e σ' H' R' S' h') r
  | .ret e, C, n, env, ρ, N, T, u, D, σ, H, h, R, S, k, r => St.snd (.ret e) (C := C) h R { D with nx := u D } σ H S (fun σ' H' m e S' ⟨ρ', R', h'⟩ => k ρ' m e σ' H' R' S' h') r
  | .drop e, C, n, env, ρ, N, T, u, D, σ, H, h, R, S, k, r => St.snd (.drop e) (C := C) h R { D with nx := u D } σ H S (fun σ' H' m e S' ⟨ρ', R', h'⟩ => k ρ' m e σ' H' R' S' h') r
  | .frz i s, C, n, env, ρ, N, T, u, D, σ, H, h, R, S, k, r => St.snd (.frz i s) (C := C) h R { D with nx := u D } σ H S (fun σ' H' m e S' ⟨ρ', R', h'⟩ => k ρ' m e σ' H' R' S' h') r
/-- what a slot holds, read -/
theorem now_va {C : Cn} {n : Int} {env : List Ent} {ρ : En} {σ : L2.St} {H : Hp} {i : Nat} {d : PyData} (R : EnR C ρ env) (S : Now C n env σ H) (h : ρ[i]? = some (.va (.d d))) : ∃ v, σ[i]? = some (some v) ∧ Rp C.K H v d := by
  obtain ⟨e, h1, h2⟩ := R.2 i _ h
  have h2' : e = .it (dat C.K d) := h2
  subst h2'
  obtain ⟨v, hv, r⟩ := S.ent i _ h1
  exact ⟨v, hv, (show Rp C.K _ v d from r).ex hidEx⟩
/-- a def with the pool alone, at its begin -/
theorem now_pool {K : PySem.W.Frag} {p : Addr} {n : Int} {H : Hp} (k : Nat) (hp : PoolAt H p n) :
    Now { K := K, pl := some p, G := [p], H0 := H } n (envS [val (.ref p)] k) ([some (V.ref p)] ++ List.replicate k none) H ∧ EnR { K := K, pl := some p, G := [p], H0 := H } (.pl :: List.replicate k .un) (envS [val (.ref p)] k) := by
  have hs : (H p).isSome = true := by
    obtain ⟨_, _, _, e, _⟩ := hp
    rw [e]; rfl
  constructor
  · exact at_start (K := K) (pl := some p) (n := n) (vs := [.ref p]) k (SAll.cons (R := val (.ref p)) (v := .ref p) rfl .nil) (fun q z => by cases z; exact hp) (fun q z => by cases z; exact List.mem_singleton_self _) fun b hb => by
      rw [List.mem_singleton.mp hb]
      exact hs
  · have := (envV_R (C := { K := K, pl := some p, G := [p], H0 := H }) [] k).cons (s := .pl) (e := .it (val (.ref p))) ⟨p, rfl, rfl⟩
    exact this
mutual
theorem Rp.exN {K : PySem.W.Frag} {H H' : Hp} (e : LamX.ExtN H H') : ∀ {v : V} {d : PyData}, Rp K H v d → Rp K H' v d
  | _, _, .non => .non
  | _, _, .bl b => .bl b
  | _, _, .int i => .int i
  | _, _, .str x h => .str x h
  | _, _, .lst h q => .lst (e _ _ h fun _ z => by cases z) (RpA.exN e q)
  | _, _, .tup h q => .tup (e _ _ h fun _ z => by cases z) (RpA.exN e q)
  | _, _, .dic h p q => .dic (e _ _ h fun _ z => by cases z) (RpA.exN e p) (RpA.exN e q)
theorem RpA.exN {K : PySem.W.Frag} {H H' : Hp} (e : LamX.ExtN H H') : ∀ {vs : List V} {ds : List PyData}, RpA K H vs ds → RpA K H' vs ds
  | _, _, .nil => .nil
  | _, _, .cons h t => .cons (Rp.exN e h) (RpA.exN e t)
end
end L2.EV

set_option Elab.async false
set_option maxRecDepth 100000
set_option maxHeartbeats 1000000
set_option linter.all false
/-! A try of the law. -/
namespace L2.K06
open PySem PySem.Spec PyProof.Rows XK Evl XC LamX TL EV DL
theorem canToldD (due : Option (Nat × Nat)) (d : PyData) (ha : asc d.shown) (hi : ∀ n i, due = some (n, i) → i < 4) : PyData.canLayAll0 (toldD due d) = true ∧ PyData.depthAll (toldD due d) = 0 := by
  have num : ∀ i : Nat, i < 4 → PyData.strOk (toString (i : Int) : String) = true := by decide +kernel
  cases due with
  | none =>
    constructor
    · show (PyData.canLay0 (.str "told") && (PyData.canLay0 (.str d.shown) && true)) = true
      rw [show PyData.canLay0 (.str "told") = true by decide +kernel, show PyData.canLay0 (.str d.shown) = true from strOk_asc ha]
      rfl
    · rfl
  | some p =>
    constructor
    · show (PyData.canLay0 (.int p.1) && (PyData.canLay0 (.str (toString (p.2 : Int) : String)) && true)) = true
      rw [show PyData.canLay0 (.str (toString (p.2 : Int) : String)) = true from num p.2 (hi p.1 p.2 rfl)]
      rfl
    · rfl
theorem shapedTwo {ds : List PyData} (h : PyData.canLayAll0 ds = true ∧ PyData.depthAll ds = 0) : SeqAt.shaped (.list [.list ds, .list ds]) = true := by
  unfold SeqAt.shaped
  simp only [PyData.canLay0, PyData.canLayAll0, PyData.depth, PyData.depthAll, h.1, h.2]
  decide
theorem toldRp {K : PySem.W.Frag} {H : Hp} {l : Addr} {due : Option (Nat × Nat)} {d : PyData} (h : H l = some (.lst (toldV due d))) (hs : due = none → d.shown.length ≤ 100000) (hi : ∀ n i, due = some (n, i) → i < 4) : Rp K H (.ref l) (.list (toldD due d)) := by
  have num : ∀ i : Nat, i < 4 → ((toString (i : Int) : String) : Str).length ≤ 100000 := by decide +kernel
  refine Rp.lst h ?_
  cases due with
  | none => exact .cons (.str _ (by decide +kernel)) (.cons (.str _ (hs rfl)) .nil)
  | some p => exact .cons (.int _) (.cons (.str _ (num p.2 (hi p.1 p.2 rfl))) .nil)
/-- the name of the lambdas of a def -/
def lamName (qual : Str) (st : Stmt) : Str := (envOfC qual (defScope st) 0 0 .none).qual ++ "<lambda>"
def spRight (Tb : List (Addr × Str)) : Sp := fun vs H Q _ => ∃ (p : Addr) (n : Int), vs = [.ref p] ∧ PoolAt H p n ∧ n ≤ 700000 ∧ Tabs Tb H ∧
  ∀ H', PoolAt H' p (n + 200) → ButN p H H' → Tabs Tb H' → Q (.bl true) H'
theorem bind5 {K : PySem.W.Frag} {dvs : List V} {f : Addr} {fd : FuncData} (F : FunD K "__init__" "House.__init__" (defArgs KC.sHouseInit) (defBody KC.sHouseInit) (defScope KC.sHouseInit) dvs [] f fd) (h2 : dvs.length = 2) :
    ∃ ds, Vals (dvs.drop 2) ds ∧ Binds K fd ["self", "lines", "stands", "keys", "rows"] ds := by
  refine F.binds1 5 2 (by intro z; rw [z] at h2; cases h2) (by rw [h2]; rfl) fun T kV doc pm an cdv ct us its hu hi => ?_
  rw [h2] at hi
  match us, hu, its, hi with
  | [_, _, _, _, _], _, [_, _], _ => exact ⟨_, rfl, rfl⟩
theorem rp_bo {K : PySem.W.Frag} {H : Hp} {v : V} {d : PyData} (h : Rp K H v d) : Bo K H v d := ⟨h.da, Rp.dx h⟩
theorem ev_v {σ : L2.St} {H : Hp} {i : Nat} {v : V} (h : σ[i]? = some (some v)) : Ev (tVar i) σ H v := fun H1 e Q q => ⟨v, h, q H1 (Ex.refl _)⟩
theorem due4 {d : PyData} {at_ : Nat} {names tags : List Str} (h3 : at_ ≤ 3) {n i : Nat} (h : dueR d at_ names tags = some (n, i)) : n = 11 ∧ i < 4 := by
  unfold dueR at h
  split at h
  · cases h
  · cases h
    exact ⟨rfl, by omega⟩
theorem toldV_ne (due : Option (Nat × Nat)) (d : PyData) (rs : List Addr) : toldV due d ≠ rs.map V.ref := by
  cases due with
  | none =>
    cases rs with
    | nil => exact fun z => by cases z
    | cons a l => exact fun z => by injection z with z _; cases z
  | some p =>
    cases rs with
    | nil => exact fun z => by cases z
    | cons a l => exact fun z => by injection z with z _; cases z
section
variable {P : Program} {w : World} {K : PySem.W.Frag} {mg : Str → Option Value} {base : Heap} {a : Adr} {q : AdrQ} {c : KC.AdrC} {b : KC.AdrH} {o : KC.AdrO} {g : AdrG}
theorem ok_right (T : TxtG K mg a q c b o g) (hsys : Sys base) {Tb : List (Addr × Str)} {P1 : Addr} (TB : TabB base mg q.c1 P1) (hmT : (P1, lamName "_law_right" sLawRight) ∈ Tb)
    (hu : ∀ p ∈ Tb, p.1 = P1 → p.2 = lamName "_law_right" sLawRight) : FnG P w K mg base 13 q.LawRight q.fdLawRight ["_law_pool_here"] (spRight Tb) := by
  have GLawDraw : FnOk P w K mg base CX0 1 a.LawDraw a.fdLawDraw ["_law_pool_here", "_law_many"] spDraw := ok_draw T.toTxt
  have GLawNames : FnOk P w K mg base CX0 4 q.LawNames q.fdLawNames ["_law_pool_here", "_law_many"] (spC K conLawNames) := ok_names T.toTxtQ
  have GLawIsRow : FnOk P w K mg base CX0 1 q.LawIsRow q.fdLawIsRow ["_law_wording", "_law_names_here", "_law_tags"] (spD K conLawIsRow) := ok_isRow T.toTxtQ
  have GLawLooseRow : FnOk P w K mg base CX0 3 q.LawLooseRow q.fdLawLooseRow ["_law_pool_here", "_law_names_here", "_law_tags"] (spC K conLawLooseRow) := ok_loose T.toTxtQ
  have GLawBent : FnOk P w K mg base CX0 2 q.LawBent q.fdLawBent ["_law_pool_here", "_law_wording"] (spC K conLawBent) := ok_bent T.toTxtQ
  have GInit : FnOk P w K mg base (L2N.CX P w) 7 o.Init o.fdInit ["self", "lines", "stands", "keys", "rows"] (KC.spInit K b o.House) := KC.ok_init T.ho
  have Gr : FnOk P w K mg base CX0 1 g.r g.fr ["self"] (getSp o.House "row_texts") := KC.ok_rows T.ho T.gr.fn
  obtain ⟨d5, r5, b5⟩ := bind5 T.ho.init rfl
  refine XK.Fun.okGC T.fLawRight T.cLawRight scLawRight (fun vs H Q E h => ?_) (fun A outer s H vs Q E hr hgd h => ?_)
  · obtain ⟨p, n, rfl, _⟩ := h
    rfl
  · obtain ⟨p, n, rfl, hp, hn, hT, k⟩ := h
    refine ⟨_, (pss_cons (ps_asg (pe_tup (pa_cons (pe_call GLawNames (hr.mono (by decide)) (by rfl) T.gLawNames T.kLawNames T.bLawNames .nil pass0 (pa_cons (pv 0) (pa_cons (pe_op op_add pe_int (pe_call GLawDraw (hr.mono (by decide)) (by rfl) T.gLawDraw T.kLawDraw T.bLawDraw .nil pass0 (pa_cons (pv 0) (pa_cons pe_int pa_nil)))) pa_nil))) (pa_cons (pe_call GLawNames (hr.mono (by decide)) (by rfl) T.gLawNames T.kLawNames T.bLawNames .nil pass0 (pa_cons (pv 0) (pa_cons (pe_call GLawDraw (hr.mono (by decide)) (by rfl) T.gLawDraw T.kLawDraw T.bLawDraw .nil pass0 (pa_cons (pv 0) (pa_cons pe_int pa_nil))) pa_nil))) pa_nil))) (pg_tup (by rfl) (pgs_cons (pg_name (i := 5) scLawRight.nd rfl (by first | exact Or.inl rfl | exact Or.inr rfl)) (pgs_cons (pg_name (i := 6) scLawRight.nd rfl (by first | exact Or.inl rfl | exact Or.inr rfl)) pgs_nil))))
      (pss_cons (ps_asg (pe_tup (pa_cons (pe_callTy call_tuple_of (by rfl) T.btuple (by decide +kernel) (pa_cons (pe_lc (own := [("_law_name", 13)]) (g := gName 13) (tt := tYes) rfl scLawRight.nd (pi_list (pv 5)) (blkOk_by (own := [("_law_name", 13)]) (N := NLawRight) (sc := defScope sLawRight) (by decide +kernel)) (fun _ _ _ _ _ => pg_name (i := 13) scLawRight.nd rfl (Or.inl rfl)) (fun _ _ _ _ _ => by exact pts_nil) (fun _ _ _ _ _ => by exact (pe_tup (pa_cons (pv 13) (pa_cons pe_str pa_nil))))) pa_nil)) (pa_cons (pe_call GLawDraw (hr.mono (by decide)) (by rfl) T.gLawDraw T.kLawDraw T.bLawDraw .nil pass0 (pa_cons (pv 0) (pa_cons pe_int pa_nil))) (pa_cons (pe_call GLawDraw (hr.mono (by decide)) (by rfl) T.gLawDraw T.kLawDraw T.bLawDraw .nil pass0 (pa_cons (pv 0) (pa_cons pe_int pa_nil))) pa_nil)))) (pg_tup (by rfl) (pgs_cons (pg_name (i := 7) scLawRight.nd rfl (by first | exact Or.inl rfl | exact Or.inr rfl)) (pgs_cons (pg_name (i := 8) scLawRight.nd rfl (by first | exact Or.inl rfl | exact Or.inr rfl)) (pgs_cons (pg_name (i := 9) scLawRight.nd rfl (by first | exact Or.inl rfl | exact Or.inr rfl)) pgs_nil)))))
      (pss_cons (ps_set (i := 1) scLawRight.nd rfl (by first | exact Or.inl rfl | exact Or.inr rfl) (by exact (pe_call GLawLooseRow (hr.mono (by decide)) (by rfl) T.gLawLooseRow T.kLawLooseRow T.bLawLooseRow .nil pass0 (pa_cons (pv 0) (pa_cons (pv 5) (pa_cons (pv 6) pa_nil))))))
      (pss_cons (ps_if (PW.pt (pw_and (pt_cmpR op_eq (pv 8) pe_int (nomark _)) (pw_and1 (pt_val (pe_call GLawIsRow (hr.mono (by decide)) (by rfl) T.gLawIsRow T.kLawIsRow T.bLawIsRow .nil pass0 (pa_cons (pv 1) (pa_cons (pv 5) (pa_cons (pv 6) pa_nil)))))))) (pss_one (ps_set (i := 1) scLawRight.nd rfl (by first | exact Or.inl rfl | exact Or.inr rfl) (by exact (pe_call GLawBent (hr.mono (by decide)) (by rfl) T.gLawBent T.kLawBent T.bLawBent .nil pass0 (pa_cons (pv 0) (pa_cons (pv 1) pa_nil)))))) pss_nil)
      (pss_cons (ps_if (pt_cmpR op_eq (pv 9) pe_int (nomark _)) (pss_one (ps_set (i := 1) scLawRight.nd rfl (by first | exact Or.inl rfl | exact Or.inr rfl) (by exact (pe_ix (r := rIxL K) ix_list (pe_lst (pa_cons pe_non (pa_cons pe_int (pa_cons pe_bl (pa_cons (pe_tup (pa_cons pe_str pa_nil)) (pa_cons (pe_lst (pa_cons pe_str pa_nil)) (pa_cons pe_dnewK (pa_cons pe_str (pa_cons pe_str pa_nil))))))))) (pe_call GLawDraw (hr.mono (by decide)) (by rfl) T.gLawDraw T.kLawDraw T.bLawDraw .nil pass0 (pa_cons (pv 0) (pa_cons pe_int pa_nil))) (fun _ _ => rfl))))) pss_nil)
      (pss_cons (ps_par (i := 10) (j := 11) (by rfl) scLawRight.nd rfl rfl (by decide) rfl rfl (pa_cons (pe_call GLawDraw (hr.mono (by decide)) (by rfl) T.gLawDraw T.kLawDraw T.bLawDraw .nil pass0 (pa_cons (pv 0) (pa_cons pe_int pa_nil))) (pa_cons (pe_ix (r := rIxL K) ix_list (pv 5) (pe_un un_neg pe_int) (fun _ _ => rfl)) pa_nil)) (by rfl))
      (pss_cons (ps_set (i := 2) scLawRight.nd rfl (by first | exact Or.inl rfl | exact Or.inr rfl) (by exact (pe_lst (pa_cons (pe_op op_add_str pe_str (pv 11)) (pa_cons (pe_op op_add_str (pe_op op_add_str pe_str (pv 11)) pe_str) pa_nil)))))
      (pss_cons (ps_expr (pe_bm PySem.F.plainAttrs_list PySem.F.slot_list_append PySem.F.type_list_append mt_append (pv 2) (pa_cons (pe_op op_add_str pe_str (pe_ix (r := rIxL K) ix_list (pv 5) pe_int (fun _ _ => rfl))) pa_nil)))
      (pss_cons (ps_set (i := 2) scLawRight.nd rfl (by first | exact Or.inl rfl | exact Or.inr rfl) (by exact (pe_callTy call_tuple_of (by rfl) T.btuple (by decide +kernel) (pa_cons (pe_op op_cat (pe_op op_cat (pe_slice sl_list (pv 2) po_none (po_some (pv 10))) (pe_lst (pa_cons (pv 1) pa_nil))) (pe_slice sl_list (pv 2) (po_some (pv 10)) po_none)) pa_nil))))
      (pss_cons (ps_set (i := 3) scLawRight.nd rfl (by first | exact Or.inl rfl | exact Or.inr rfl) (by exact (pe_ifExp (pt_val (pe_call GLawIsRow (hr.mono (by decide)) (by rfl) T.gLawIsRow T.kLawIsRow T.bLawIsRow .nil pass0 (pa_cons (pv 1) (pa_cons (pv 5) (pa_cons (pv 6) pa_nil))))) (pe_lst (pa_cons pe_str (pa_cons (pe_callB (id := "repr") (r := rRepr) (call_rep hsys hgd (XK.room200 hr)) (by rfl) T.brepr (by decide +kernel) (pa_cons (pv 2) pa_nil)) pa_nil))) (pe_lst (pa_cons pe_int (pa_cons (pe_callB (id := "repr") (r := rRepr) (call_rep hsys hgd (XK.room200 hr)) (by rfl) T.brepr (by decide +kernel) (pa_cons (pv 10) pa_nil)) pa_nil))))))
      (pss_cons (ps_setLc (i := 4) (own := [("_law_k", 12)]) (g := gName 12) (tt := tYes) rfl scLawRight.nd rfl rfl (sw_true rfl rfl rfl (by decide +kernel)) (pi_range1 (by rfl) T.brange (pa_cons pe_int pa_nil)) (blkOk_by (own := [("_law_k", 12)]) (N := NLawRight) (sc := defScope sLawRight) (by decide +kernel)) (fun _ _ _ _ _ => pg_name (i := 12) scLawRight.nd rfl (Or.inl rfl)) (fun _ _ _ _ _ => by exact pts_nil) (fun _ _ _ _ _ => by exact (pe_caught (Tb := Tb) (k := 8) T hsys hgd (by rfl) TB (by rfl) hmT hu (hr.mono (by decide)) (lamS_by (by rfl)) (by rfl) (fun _ _ _ _ _ => by rfl) (fun A outer s H E f c' hr2 => by exact (pe_prop (pe_make T.ho.mkH GInit (hr2.mono (by decide)) (by rfl) T.ho.gHouse b5 r5 pass_lam (pa_cons pe_int (pa_cons (pv 7) (pa_cons (pe_callTy (T := "tuple") (r := EV.rTup K) call_tuple_of (by rfl) T.btuple (by decide +kernel) (pa_cons (pv 6) pa_nil)) (pa_cons (pv 2) pa_nil))))) T.ho.cl T.gr.pr Gr (hr2.mono (by decide)) T.gr.bd .nil pass0 (by rfl))))))
      (pss_one (ps_ret (by exact (pe_cmpR (r := rEqD K) (op_eqD hr.units) (pv 4) (pe_lst (pa_cons (pv 3) (pa_cons (pv 3) pa_nil))) (nomark _)))))))))))))))), ?_⟩
    obtain ⟨S0, R0⟩ := now_pool (K := K) 13 hp
    refine St.sndU dLawRight (C := { K := K, pl := some p, G := [p], H0 := H }) (T := fun _ _ => False) (N := fun ρ' m => m ≤ n + 200 ∧ ∃ (names tags : List Str) (d : PyData) (at_ : Nat) (last first : Str) (ents : List PyData) (x8 x9 : Vd), Try names tags d at_ last first ents ∧ ρ' = envR d ents at_ names tags x8 x9 last)
      (w_right (B := n + 200) (by omega) (by omega) fun names tags d at_ last first ents x8 x9 m hm t => ⟨hm, names, tags, d, at_, last, first, ents, x8, x9, t, rfl⟩) R0 S0 (fun ρ' m e σ' H1 R S hN => ?_) (fun v H' R m _ _ _ z => by obtain ⟨_, _, z⟩ := z; exact z.elim)
    obtain ⟨hm, names, tags, d, at_, last, first, ents, x8, x9, t, rfl⟩ := hN
    obtain ⟨v7, e7, r7⟩ := now_va (i := 7) (d := posts names) R S (by rfl)
    obtain ⟨v6, e6, r6⟩ := now_va (i := 6) (d := SL tags) R S (by rfl)
    obtain ⟨v2, e2, r2⟩ := now_va (i := 2) (d := .tuple ents) R S (by rfl)
    obtain ⟨v3, e3, r3⟩ := now_va (i := 3) (d := .list (toldD (dueR d at_ names tags) (.tuple ents))) R S (by rfl)
    have bt : But p H H1 := fun b o hb e => S.base b o (fun z => hb (by simpa using z)) e
    have hT1 : Tabs Tb H1 := tabs_pool hT hp bt
    have hP1 : PoolAt H1 p (n + 200) := (S.pool p rfl).le hm
    have len : σ'.length = 14 := S.len.trans R.1.symm
    clear R S S0 R0
    match σ', len with
    | [s0, s1, s2, s3, s4, s5, s6, s7, s8, s9, s10, s11, s12, s13], _ =>
    have e7' : s7 = some v7 := Option.some.inj e7
    have e6' : s6 = some v6 := Option.some.inj e6
    have e2' : s2 = some v2 := Option.some.inj e2
    have e3' : s3 = some v3 := Option.some.inj e3
    subst e7' e6' e2' e3'
    clear e7 e6 e2 e3
    obtain ⟨due, hdue⟩ : ∃ due, due = dueR d at_ names tags := ⟨_, rfl⟩
    rw [← hdue] at r3
    have d4 : ∀ n i, due = some (n, i) → n = 11 ∧ i < 4 := fun n i h => due4 t.a3 (by rw [← hdue]; exact h)
    have dsm : due = none → Sm 100000 100 (.tuple ents) := fun h => by
      rw [hdue] at h
      unfold dueR at h
      have hs : ∃ s, d = .str s := by
        cases d with
        | str s => exact ⟨s, rfl⟩
        | _ => cases h
      obtain ⟨s, rfl⟩ := hs
      exact try_sm t
    refine ⟨(2 : Int), rfl, by omega, by omega, fun Dl hD => ?_⟩
    refine lc_range (lo := 0) (n := 2) (fun i H' => ∃ rs : List Addr, rs.length = i ∧ H' Dl = some (.lst (rs.map .ref)) ∧ (∀ r ∈ rs, r ≠ Dl ∧ H' r = some (.lst (toldV due (.tuple ents)))) ∧ ExtN H1 H' ∧ Tabs Tb H')
      ⟨[], rfl, upd_same, fun r hr => (by cases hr), extN_of (Ex.new hD), hT1.ext (Ex.new hD)⟩ ?_ ?_
    · rintro i H2 hi ⟨rs, hl, hDl, hrs, ex, tb⟩
      refine ⟨rfl, ?_⟩
      unfold tYes
      dsimp only
      rw [if_pos rfl]
      refine r_caught (K := K) (a := a) (b := b) (o := o) (nl := 2) (dvs := []) (dds := []) (ads := [.int 2, posts names, .tuple (tags.map .str), .tuple ents]) (j := 3) (f := "row_texts") (d := .tuple ents) (due := due) tb (fun H3 e3 => ?_) (fun _ => .nil) rfl rfl (fun _ _ _ _ _ => rfl)
        (fun h => ⟨⟨ents, rfl⟩, dsm h⟩) (fun n i h => ⟨.inr (.inr (d4 n i h).1), by have := (d4 n i h).2; omega⟩) (fun l => ?_) fun l H4 e4 t4 h4 => ?_
      · have x3 := ex.trans e3
        have q7 := Rp.exN x3 r7
        have q6 := Rp.exN x3 r6
        have q2 := Rp.exN x3 r2
        refine ebs_cons eb_int (ebs_cons (eb_of (ev_v (by rfl)) (rp_bo q7)) (ebs_cons ?_ (ebs_cons (eb_of (ev_v (by rfl)) (rp_bo q2)) ebs_nil)))
        intro H5 e5 Q5 k5
        cases q6 with
        | @lst l6 xs6 _ h6 ra6 =>
          exact ⟨_, by rfl, l6, xs6, rfl, .inl ⟨sq_of (e5 _ _ h6), fun p hp => k5 _ _ (Ex.new hp) (rp_bo (Rp.tup upd_same (RpA.ex (e5.trans (Ex.new hp)) ra6)))⟩⟩
      · rw [hdue]
        exact try_fault t T.eR l
      · have hD4 : H4 Dl = some (.lst (rs.map .ref)) := e4 _ _ hDl fun _ z => by cases z
        have nl : l ≠ Dl := fun z => by
          rw [z, hD4] at h4
          exact toldV_ne _ _ _ (by injection h4 with h4; injection h4 with h4; exact h4.symm)
        refine ⟨_, hD4, sz_lt (by rw [List.length_map, hl]; omega), rs ++ [l], by rw [List.length_append, hl]; rfl, ?_, fun r hr => ?_, fun x u hx hu => ?_, tabs_but t4 hD4 fun x u hx hu => by rw [upd_ne hx]; exact hu⟩
        · rw [List.map_append]
          exact upd_same
        · rcases List.mem_append.mp hr with hr | hr
          · obtain ⟨n1, n2⟩ := hrs r hr
            exact ⟨n1, by rw [upd_ne n1]; exact e4 _ _ n2 fun _ z => by cases z⟩
          · rw [List.mem_singleton.mp hr]
            exact ⟨nl, by rw [upd_ne nl]; exact h4⟩
        · have nx : x ≠ Dl := fun z => by rw [z, hD] at hx; cases hx
          rw [upd_ne nx]
          exact e4 _ _ (ex x u hx hu) hu
    · rintro H2 ⟨rs, hl, hDl, hrs, ex, tb⟩
      match rs, hl with
      | [ra, rb], _ =>
      have ha := (hrs ra (by simp)).2
      have hb := (hrs rb (by simp)).2
      refine ⟨_, rfl, _, rfl, _, rfl, sz_of (by show 2 ≤ 100000; decide), fun l5 hl5 => ?_⟩
      have e5 : Ex H2 (upd H2 l5 (.lst [v3, v3])) := Ex.new hl5
      have sh : due = none → (PyData.tuple ents).shown.length ≤ 100000 := fun h => (dsm h).le
      have can : PyData.canLayAll0 (toldD due (.tuple ents)) = true ∧ PyData.depthAll (toldD due (.tuple ents)) = 0 := by
        cases hd : due with
        | none => exact canToldD none _ (dsm hd).as_ fun n i h => by cases h
        | some p =>
          obtain ⟨d1, d2⟩ := d4 p.1 p.2 hd
          have num : ∀ i : Nat, i < 4 → PyData.strOk (toString (i : Int) : String) = true := by decide +kernel
          constructor
          · show (PyData.canLay0 (.int p.1) && (PyData.canLay0 (.str (toString (p.2 : Int) : String)) && true)) = true
            rw [show PyData.canLay0 (.str (toString (p.2 : Int) : String)) = true from num p.2 d2]
            rfl
          · rfl
      have s2 := shapedTwo can
      have i4 : ∀ n i, due = some (n, i) → i < 4 := fun n i h => (d4 n i h).2
      refine ⟨.list [.list (toldD due (.tuple ents)), .list (toldD due (.tuple ents))], .list [.list (toldD due (.tuple ents)), .list (toldD due (.tuple ents))], ?_, ?_, s2, s2, ?_⟩
      · exact (Rp.lst (e5 _ _ hDl) (.cons (Rp.ex e5 (toldRp ha sh i4)) (.cons (Rp.ex e5 (toldRp hb sh i4)) .nil))).dp (shaped_plain s2)
      · have r3' := Rp.ex e5 (Rp.exN ex r3)
        exact (Rp.lst upd_same (.cons r3' (.cons r3' .nil))).dp (shaped_plain s2)
      · rw [SeqAt.eqv_refl _ (SeqAt.canLay_of_shaped s2)]
        have eN := ex.trans (extN_of e5)
        exact k _ (hP1.exN eN) ((ButN.of bt).trans (ButN.ext eN)) (tb.ext e5)
end
end L2.K06

set_option Elab.async false
set_option maxRecDepth 100000
set_option maxHeartbeats 1000000
set_option linter.all false
/-! The law. -/
namespace L2.K06
open PySem PySem.Spec PyProof.Rows XK Evl XC LamX TL
def spLaw (K : PySem.W.Frag) (Tb : List (Addr × Str)) : Sp := fun vs H Q _ => ∃ (c : Addr) (ns : List Int), vs = [.ref c] ∧ SqL K H c (ns.map V.int) ∧ ns.length ≤ 63 ∧ Tabs Tb H ∧ ∀ H', Q (.bl true) H'
section
variable {P : Program} {w : World} {K : PySem.W.Frag} {mg : Str → Option Value} {base : Heap} {a : Adr} {q : AdrQ} {c : KC.AdrC} {b : KC.AdrH} {o : KC.AdrO} {g : AdrG}
theorem ok_law (T : TxtG K mg a q c b o g) (hsys : Sys base) {Tb : List (Addr × Str)} {P1 : Addr} (TB1 : TabB base mg q.c1 P1)
    (hm1 : (P1, lamName "_law_right" sLawRight) ∈ Tb) (hu1 : ∀ p ∈ Tb, p.1 = P1 → p.2 = lamName "_law_right" sLawRight) :
    FnG P w K mg base 14 q.Law q.fdLaw ["_law_cells"] (spLaw K Tb) := by
  have GLawPool : FnOk P w K mg base CX0 1 a.LawPool a.fdLawPool ["_law_cells", "_law_turn"] (spPool K) := ok_pool T.toTxt
  have GLawRight : FnG P w K mg base 13 q.LawRight q.fdLawRight ["_law_pool_here"] (spRight Tb) := ok_right T hsys TB1 hm1 hu1
  refine XK.Fun.okG T.fLaw scLaw (fun vs H Q E h => ?_) (fun cdv A outer s H vs Q E hr hgd h => ?_)
  · obtain ⟨c, ns, rfl, _⟩ := h
    rfl
  · obtain ⟨c, ns, rfl, hS, hlen, hT, k⟩ := h
    refine ⟨_, (pss_cons (ps_for PassesOwn.never rfl (pi_range1 (by rfl) T.brange (pa_cons (pe_callB (call_max2 rfl) (by rfl) T.bmax (by decide +kernel) (pa_cons pe_int (pa_cons (pe_callB (call_min2 rfl) (by rfl) T.bmin (by decide +kernel) (pa_cons (pe_callB call_len (by rfl) T.blen (by decide +kernel) (pa_cons (pv 0) pa_nil)) (pa_cons pe_int pa_nil))) pa_nil))) pa_nil)) (pg_name (i := 1) scLaw.nd rfl (by first | exact Or.inl rfl | exact Or.inr rfl)) (pss_cons (ps_set (i := 2) scLaw.nd rfl (by first | exact Or.inl rfl | exact Or.inr rfl) (by exact (pe_call GLawPool (hr.mono (by decide)) (by rfl) T.gLawPool T.kLawPool T.bLawPool .nil pass0 (pa_cons (pv 0) (pa_cons (pv 1) pa_nil)))))
      (pss_one (ps_for PassesOwn.never rfl (pi_range1 (by rfl) T.brange (pa_cons pe_int pa_nil)) (pg_name (i := 3) scLaw.nd rfl (by first | exact Or.inl rfl | exact Or.inr rfl)) (pss_one (ps_if (pt_not (pt_val (XK.pe_callG GLawRight (hr.mono (by decide)) hgd (by rfl) T.gLawRight T.kLawRight T.bLawRight (pa_cons (pv 2) pa_nil)))) (pss_one (ps_ret (by exact pe_bl))) pss_nil))))))
      (pss_one (ps_ret (by exact pe_bl)))), ?_⟩
    obtain ⟨m, hm⟩ : ∃ m : Int, m = (if (6 : Int) < (ns.length : Int) then 6 else (ns.length : Int)) := ⟨_, rfl⟩
    obtain ⟨N, hN⟩ : ∃ N : Int, N = (if m > 2 then m else 2) := ⟨_, rfl⟩
    have hN0 : 0 ≤ N ∧ N ≤ 1000 := by
      rw [hN, hm]
      split <;> split <;> omega
    refine s_forR1 (n := N) ?_ ⟨hN0.1, by omega⟩ (fun i σ H' => ∃ v1 v2 v3 : Option V, σ = [some (.ref c), v1, v2, v3] ∧ SqL K H' c (ns.map V.int) ∧ Tabs Tb H') ?_ ?_ ?_
    · rw [hN]
      refine ea_cons (ev_cb (ea_cons ev_c (ea_cons (ev_cb (z := .int m) (ea_cons (ev_cb (z := .int (ns.length : Int)) (ea_cons (ev_var (by rfl)) ea_nil) ?_) (ea_cons ev_c ea_nil)) ?_) ea_nil)) ?_) ea_nil
      · intro H2 e2 R hR
        exact ⟨_, ns.length, rfl, .inl ⟨_, ex_l e2 hS, by rw [List.length_map]⟩, hR _ (Ex.refl _)⟩
      · intro H2 e2 R hR
        refine ⟨_, _, rfl, ?_⟩
        rw [← hm]
        exact hR _ (Ex.refl _)
      · intro H2 e2 R hR
        exact ⟨_, _, rfl, hR _ (Ex.refl _)⟩
    · intro H2 e2
      exact ⟨_, _, _, rfl, ex_l e2 hS, hT.ext e2⟩
    · rintro i σ' H2 hi ⟨v1, v2, v3, rfl, hS2, hT2⟩
      refine ⟨_, rfl, _, rfl, c, ns, (i : Int), rfl, hS2, hlen, by omega, by omega, fun H3 p hp e3 hP => ?_⟩
      have keep : ∀ H', ButN p H3 H' → SqL K H' c (ns.map V.int) := fun H' bb => sql_butN hS2 hp e3 bb
      refine s_forR1 (n := 5) (ea_cons ev_c ea_nil) ⟨by decide, by decide⟩ (fun j σ H' => ∃ v3 : Option V, σ = [some (.ref c), some (.int (i : Int)), some (.ref p), v3] ∧ ButN p H3 H' ∧ PoolAt H' p (200 * (j : Int)) ∧ Tabs Tb H') ?_ ?_ ?_
      · intro H4 e4
        exact ⟨_, rfl, ButN.ex e4, (hP.ex e4).le (by omega), (hT2.ext e3).ext e4⟩
      · rintro j σ'' H4 hj ⟨v, rfl, b4, hP4, hT4⟩
        refine ⟨_, rfl, p, 200 * (j : Int), rfl, hP4, by omega, hT4, fun H5 hP5 b5 hT5 => ⟨true, rfl, ?_⟩⟩
        dsimp only [tNext, tSeq, Bool.not_true, Bool.false_eq_true, if_false]
        refine ⟨_, rfl, b4.trans b5, hP5.le ?_, hT5⟩
        push_cast
        omega
      · rintro σ'' H4 ⟨v, rfl, b4, _, hT4⟩
        exact ⟨_, _, _, rfl, keep H4 b4, hT4⟩
    · rintro σ' H2 ⟨v1, v2, v3, rfl, hS2, _⟩
      exact k H2
end
end L2.K06

set_option Elab.async false
set_option maxRecDepth 100000
set_option maxHeartbeats 4000000
set_option linter.all false
/-! What the top has written, packed: each fact from what stands in the written part. -/
namespace L2.XK
open PySem PySem.Spec PyProof.Rows XC Evl
section
variable {K : PySem.W.Frag} {h : Heap} {mg : Str → Option Value} {n : Str}
structure PkFn (K : PySem.W.Frag) (mg : Str → Option Value) (n : Str) (st : Stmt) (f : Addr) (fd : FuncData) : Prop where
  g : mg n = some (.ref f)
  k : PySem.W.keepIn K (.ref f) = true
  f : Fun K n n st f fd
theorem pkFn (n : Str) (st : Stmt) {f : Addr} {oc : Value} {od an : Option Addr} {osl : Array (Option Value)} {kV doc pm cdv ct : Value} (X : K.In h) (G : h.Ns mainGlobals mg)
    (a : PySem.W.nsIn K mainGlobals n = some (some (.ref f)))
    (l : K.lookup f = some ⟨oc, od, .func (PySem.W.fnOf n n (defArgs st) (defBody st) (defScope st) .none kV doc pm an cdv ct), osl⟩)
    (c : PySem.W.codeIn K cdv n = true) (k : PySem.W.keepIn K (.ref f) = true) : PkFn K mg n st f (PySem.W.fnOf n n (defArgs st) (defBody st) (defScope st) .none kV doc pm an cdv ct) :=
  ⟨PySem.W.mg_of X G a, k, fun_mk l c k⟩
theorem pkFree (n : Str) (X : K.In h) (G : h.Ns mainGlobals mg) (a : PySem.W.nsIn K mainGlobals n = some none) : mg n = none := PySem.W.mg_none_of X G a
theorem pkAt (n : Str) {v : Value} (X : K.In h) (G : h.Ns mainGlobals mg) (a : PySem.W.nsIn K mainGlobals n = some (some v)) : mg n = some v := PySem.W.mg_of X G a
structure PkC (K : PySem.W.Frag) (mg : Str → Option Value) (n : Str) (C : Addr) : Prop where
  g : mg n = some (.ref C)
  o : isOwn K C
theorem pkC (n : Str) {C : Addr} (X : K.In h) (G : h.Ns mainGlobals mg) (a : PySem.W.nsIn K mainGlobals n = some (some (.ref C))) (cl : PySem.W.isClsIn K C = true)
    (ty : PySem.W.typeIn K (.ref C) = some (.type "type")) : PkC K mg n C := by
  refine ⟨PySem.W.mg_of X G a, ?_⟩
  have cl' : (PySem.W.clsIn K C).isSome = true := cl
  unfold isOwn
  rw [cl', ty] <;> rfl

structure PkGv (K : PySem.W.Frag) (mg : Str → Option Value) (n : Str) (C fI W : Addr) (B newId initId : String) (bmB : List Value) : Prop extends PkC K mg n C where
  c : ClsGv K C fI B newId initId bmB
  s : Srt K C W B
theorem pkGv (n : Str) (B newId initId : String) (bmB : List Value) {C fI W : Addr} {cd : ClassData} {oc : Value} {od : Option Addr} {doc pm kV : Value} {an : Option Addr} {cdv ct : Value} {osl : Array (Option Value)} {qual : Str} {p0 p1 q00 q01 q02 q03 : Pos}
    (X : K.In h) (G : h.Ns mainGlobals mg) (eb : ExcBaseFacts B newId initId bmB) (es : StoreFacts B bmB "object.__setattr__" "object")
    (a : PySem.W.nsIn K mainGlobals n = some (some (.ref C))) (cl : PySem.W.isClsIn K C = true) (ty : PySem.W.typeIn K (.ref C) = some (.type "type"))
    (hc : PySem.W.clsIn K C = some cd) (hm : cd.mro = [.ref C, .ref W, .type B, .type "Exception", .type "BaseException", .type "object"])
    (ini : PySem.W.excInitIn K C bmB newId = true) (ov : PySem.W.excOver K C bmB = true)
    (sa : PySem.W.findIn K (.ref C) "__setattr__" = some (some (.builtin "object.__setattr__")))
    (ga : PySem.W.findIn K (.ref C) "__getattribute__" = some (some (.builtin "BaseException.__getattribute__")))
    (gg : PySem.W.findIn K (.ref C) "__getattr__" = some none) (kC : PySem.W.keepIn K (.ref C) = true)
    (exC : PySem.W.subIn K (.ref C) (.type "BaseException") = some true) (hd : PySem.W.hasDictIn K C = true)
    (iC : PySem.W.findIn K (.ref C) "__init__" = some (some (.ref fI))) (tC : PySem.W.typeIn K (.ref fI) = some (.type "function"))
    (n0 : PySem.W.findIn K (.ref C) "given" = some none)
    (l : K.lookup fI = some ⟨oc, od, .func (PySem.W.fnOf "__init__" qual (argsGv p0 p1) (bodyGv q00 q01 q02 q03) scopeGv .none kV doc pm an cdv ct), osl⟩)
    (cI : PySem.W.codeIn K cdv qual = true) (cC : PySem.W.findIn K (.ref C) "__class__" = some (some (.builtin "object.__class__")))
    (sp : PySem.W.specialIn K (.builtin "object.__class__") "__get__" = some (some (.builtin "getset_descriptor.__get__")))
    (tk : PySem.W.takesIn K (.builtin "object.__class__") = some true) (mo : PySem.W.mroIn K C (.type "object") = some true) : PkGv K mg n C fI W B newId initId bmB :=
  { pkC n X G a cl ty with
    c := { base := eb, store := es, ini := ini, over := ov, sa := sa, ga := ga, gg := gg, kC := kC, exC := exC, hd := hd, iC := iC, tC := tC, n0 := n0, fn := ⟨_, _, _, _, _, _, _, _, _, _, _, _, _, _, _, _, l, cI⟩ }
    s := ⟨⟨cl, ga, gg, exC, cC, sp, tk, mo⟩, cd, hc, hm⟩ }
structure PkIx (K : PySem.W.Frag) (mg : Str → Option Value) (n : Str) (C fI W : Addr) (B newId initId : String) (bmB : List Value) : Prop extends PkC K mg n C where
  c : ClsIx K C fI B newId initId bmB
  s : Srt K C W B
theorem pkIx (n : Str) (B newId initId : String) (bmB : List Value) {C fI W : Addr} {cd : ClassData} {oc : Value} {od : Option Addr} {doc pm kV : Value} {an : Option Addr} {cdv ct : Value} {osl : Array (Option Value)} {qual : Str} {p0 p1 q00 q01 q02 q03 : Pos}
    (X : K.In h) (G : h.Ns mainGlobals mg) (eb : ExcBaseFacts B newId initId bmB) (es : StoreFacts B bmB "object.__setattr__" "object")
    (a : PySem.W.nsIn K mainGlobals n = some (some (.ref C))) (cl : PySem.W.isClsIn K C = true) (ty : PySem.W.typeIn K (.ref C) = some (.type "type"))
    (hc : PySem.W.clsIn K C = some cd) (hm : cd.mro = [.ref C, .ref W, .type B, .type "Exception", .type "BaseException", .type "object"])
    (ini : PySem.W.excInitIn K C bmB newId = true) (ov : PySem.W.excOver K C bmB = true)
    (sa : PySem.W.findIn K (.ref C) "__setattr__" = some (some (.builtin "object.__setattr__")))
    (ga : PySem.W.findIn K (.ref C) "__getattribute__" = some (some (.builtin "BaseException.__getattribute__")))
    (gg : PySem.W.findIn K (.ref C) "__getattr__" = some none) (kC : PySem.W.keepIn K (.ref C) = true)
    (exC : PySem.W.subIn K (.ref C) (.type "BaseException") = some true) (hd : PySem.W.hasDictIn K C = true)
    (iC : PySem.W.findIn K (.ref C) "__init__" = some (some (.ref fI))) (tC : PySem.W.typeIn K (.ref fI) = some (.type "function"))
    (n0 : PySem.W.findIn K (.ref C) "index" = some none)
    (l : K.lookup fI = some ⟨oc, od, .func (PySem.W.fnOf "__init__" qual (argsIx p0 p1) (bodyIx q00 q01 q02 q03) scopeIx .none kV doc pm an cdv ct), osl⟩)
    (cI : PySem.W.codeIn K cdv qual = true) (cC : PySem.W.findIn K (.ref C) "__class__" = some (some (.builtin "object.__class__")))
    (sp : PySem.W.specialIn K (.builtin "object.__class__") "__get__" = some (some (.builtin "getset_descriptor.__get__")))
    (tk : PySem.W.takesIn K (.builtin "object.__class__") = some true) (mo : PySem.W.mroIn K C (.type "object") = some true) : PkIx K mg n C fI W B newId initId bmB :=
  { pkC n X G a cl ty with
    c := { base := eb, store := es, ini := ini, over := ov, sa := sa, ga := ga, gg := gg, kC := kC, exC := exC, hd := hd, iC := iC, tC := tC, n0 := n0, fn := ⟨_, _, _, _, _, _, _, _, _, _, _, _, _, _, _, _, l, cI⟩ }
    s := ⟨⟨cl, ga, gg, exC, cC, sp, tk, mo⟩, cd, hc, hm⟩ }
structure PkMo (K : PySem.W.Frag) (mg : Str → Option Value) (n : Str) (C fI W : Addr) (B newId initId : String) (bmB : List Value) : Prop extends PkC K mg n C where
  c : ClsMo K C fI B newId initId bmB
  s : Srt K C W B
theorem pkMo (n : Str) (B newId initId : String) (bmB : List Value) {C fI W : Addr} {cd : ClassData} {oc : Value} {od : Option Addr} {doc pm kV : Value} {an : Option Addr} {cdv ct : Value} {osl : Array (Option Value)} {qual : Str} {p0 p1 q00 q01 q02 q03 : Pos}
    (X : K.In h) (G : h.Ns mainGlobals mg) (eb : ExcBaseFacts B newId initId bmB) (es : StoreFacts B bmB "object.__setattr__" "object")
    (a : PySem.W.nsIn K mainGlobals n = some (some (.ref C))) (cl : PySem.W.isClsIn K C = true) (ty : PySem.W.typeIn K (.ref C) = some (.type "type"))
    (hc : PySem.W.clsIn K C = some cd) (hm : cd.mro = [.ref C, .ref W, .type B, .type "Exception", .type "BaseException", .type "object"])
    (ini : PySem.W.excInitIn K C bmB newId = true) (ov : PySem.W.excOver K C bmB = true)
    (sa : PySem.W.findIn K (.ref C) "__setattr__" = some (some (.builtin "object.__setattr__")))
    (ga : PySem.W.findIn K (.ref C) "__getattribute__" = some (some (.builtin "BaseException.__getattribute__")))
    (gg : PySem.W.findIn K (.ref C) "__getattr__" = some none) (kC : PySem.W.keepIn K (.ref C) = true)
    (exC : PySem.W.subIn K (.ref C) (.type "BaseException") = some true) (hd : PySem.W.hasDictIn K C = true)
    (iC : PySem.W.findIn K (.ref C) "__init__" = some (some (.ref fI))) (tC : PySem.W.typeIn K (.ref fI) = some (.type "function"))
    (n0 : PySem.W.findIn K (.ref C) "most" = some none)
    (l : K.lookup fI = some ⟨oc, od, .func (PySem.W.fnOf "__init__" qual (argsMo p0 p1) (bodyMo q00 q01 q02 q03) scopeMo .none kV doc pm an cdv ct), osl⟩)
    (cI : PySem.W.codeIn K cdv qual = true) (cC : PySem.W.findIn K (.ref C) "__class__" = some (some (.builtin "object.__class__")))
    (sp : PySem.W.specialIn K (.builtin "object.__class__") "__get__" = some (some (.builtin "getset_descriptor.__get__")))
    (tk : PySem.W.takesIn K (.builtin "object.__class__") = some true) (mo : PySem.W.mroIn K C (.type "object") = some true) : PkMo K mg n C fI W B newId initId bmB :=
  { pkC n X G a cl ty with
    c := { base := eb, store := es, ini := ini, over := ov, sa := sa, ga := ga, gg := gg, kC := kC, exC := exC, hd := hd, iC := iC, tC := tC, n0 := n0, fn := ⟨_, _, _, _, _, _, _, _, _, _, _, _, _, _, _, _, l, cI⟩ }
    s := ⟨⟨cl, ga, gg, exC, cC, sp, tk, mo⟩, cd, hc, hm⟩ }
structure PkBr (K : PySem.W.Frag) (mg : Str → Option Value) (n : Str) (C fI W : Addr) (B newId initId : String) (bmB : List Value) : Prop extends PkC K mg n C where
  c : ClsBr K C fI B newId initId bmB
  s : Srt K C W B
theorem pkBr (n : Str) (B newId initId : String) (bmB : List Value) {C fI W : Addr} {cd : ClassData} {oc : Value} {od : Option Addr} {doc pm kV : Value} {an : Option Addr} {cdv ct : Value} {osl : Array (Option Value)} {qual : Str} {p0 p1 p2 q00 q01 q02 q03 q10 q11 q12 q13 : Pos}
    (X : K.In h) (G : h.Ns mainGlobals mg) (eb : ExcBaseFacts B newId initId bmB) (es : StoreFacts B bmB "object.__setattr__" "object")
    (a : PySem.W.nsIn K mainGlobals n = some (some (.ref C))) (cl : PySem.W.isClsIn K C = true) (ty : PySem.W.typeIn K (.ref C) = some (.type "type"))
    (hc : PySem.W.clsIn K C = some cd) (hm : cd.mro = [.ref C, .ref W, .type B, .type "Exception", .type "BaseException", .type "object"])
    (ini : PySem.W.excInitIn K C bmB newId = true) (ov : PySem.W.excOver K C bmB = true)
    (sa : PySem.W.findIn K (.ref C) "__setattr__" = some (some (.builtin "object.__setattr__")))
    (ga : PySem.W.findIn K (.ref C) "__getattribute__" = some (some (.builtin "BaseException.__getattribute__")))
    (gg : PySem.W.findIn K (.ref C) "__getattr__" = some none) (kC : PySem.W.keepIn K (.ref C) = true)
    (exC : PySem.W.subIn K (.ref C) (.type "BaseException") = some true) (hd : PySem.W.hasDictIn K C = true)
    (iC : PySem.W.findIn K (.ref C) "__init__" = some (some (.ref fI))) (tC : PySem.W.typeIn K (.ref fI) = some (.type "function"))
    (n0 : PySem.W.findIn K (.ref C) "index" = some none)
    (n1 : PySem.W.findIn K (.ref C) "shown" = some none)
    (l : K.lookup fI = some ⟨oc, od, .func (PySem.W.fnOf "__init__" qual (argsBr p0 p1 p2) (bodyBr q00 q01 q02 q03 q10 q11 q12 q13) scopeBr .none kV doc pm an cdv ct), osl⟩)
    (cI : PySem.W.codeIn K cdv qual = true) (cC : PySem.W.findIn K (.ref C) "__class__" = some (some (.builtin "object.__class__")))
    (sp : PySem.W.specialIn K (.builtin "object.__class__") "__get__" = some (some (.builtin "getset_descriptor.__get__")))
    (tk : PySem.W.takesIn K (.builtin "object.__class__") = some true) (mo : PySem.W.mroIn K C (.type "object") = some true) : PkBr K mg n C fI W B newId initId bmB :=
  { pkC n X G a cl ty with
    c := { base := eb, store := es, ini := ini, over := ov, sa := sa, ga := ga, gg := gg, kC := kC, exC := exC, hd := hd, iC := iC, tC := tC, n0 := n0, n1 := n1, fn := ⟨_, _, _, _, _, _, _, _, _, _, _, _, _, _, _, _, _, _, _, _, _, l, cI⟩ }
    s := ⟨⟨cl, ga, gg, exC, cC, sp, tk, mo⟩, cd, hc, hm⟩ }
structure PkNo (K : PySem.W.Frag) (mg : Str → Option Value) (n : Str) (C fI W : Addr) (B newId initId : String) (bmB : List Value) : Prop extends PkC K mg n C where
  c : ClsNo K C fI B newId initId bmB
  s : Srt K C W B
theorem pkNo (n : Str) (B newId initId : String) (bmB : List Value) {C fI W : Addr} {cd : ClassData} {oc : Value} {od : Option Addr} {doc pm kV : Value} {an : Option Addr} {cdv ct : Value} {osl : Array (Option Value)} {qual : Str} {p0 q0 : Pos}
    (X : K.In h) (G : h.Ns mainGlobals mg) (eb : ExcBaseFacts B newId initId bmB) (es : StoreFacts B bmB "object.__setattr__" "object")
    (a : PySem.W.nsIn K mainGlobals n = some (some (.ref C))) (cl : PySem.W.isClsIn K C = true) (ty : PySem.W.typeIn K (.ref C) = some (.type "type"))
    (hc : PySem.W.clsIn K C = some cd) (hm : cd.mro = [.ref C, .ref W, .type B, .type "Exception", .type "BaseException", .type "object"])
    (ini : PySem.W.excInitIn K C bmB newId = true) (ov : PySem.W.excOver K C bmB = true)
    (sa : PySem.W.findIn K (.ref C) "__setattr__" = some (some (.builtin "object.__setattr__")))
    (ga : PySem.W.findIn K (.ref C) "__getattribute__" = some (some (.builtin "BaseException.__getattribute__")))
    (gg : PySem.W.findIn K (.ref C) "__getattr__" = some none) (kC : PySem.W.keepIn K (.ref C) = true)
    (exC : PySem.W.subIn K (.ref C) (.type "BaseException") = some true) (hd : PySem.W.hasDictIn K C = true)
    (iC : PySem.W.findIn K (.ref C) "__init__" = some (some (.ref fI))) (tC : PySem.W.typeIn K (.ref fI) = some (.type "function"))
    (l : K.lookup fI = some ⟨oc, od, .func (PySem.W.fnOf "__init__" qual (argsNo p0) (bodyNo q0) scopeNo .none kV doc pm an cdv ct), osl⟩)
    (cI : PySem.W.codeIn K cdv qual = true) (cC : PySem.W.findIn K (.ref C) "__class__" = some (some (.builtin "object.__class__")))
    (sp : PySem.W.specialIn K (.builtin "object.__class__") "__get__" = some (some (.builtin "getset_descriptor.__get__")))
    (tk : PySem.W.takesIn K (.builtin "object.__class__") = some true) (mo : PySem.W.mroIn K C (.type "object") = some true) : PkNo K mg n C fI W B newId initId bmB :=
  { pkC n X G a cl ty with
    c := { base := eb, store := es, ini := ini, over := ov, sa := sa, ga := ga, gg := gg, kC := kC, exC := exC, hd := hd, iC := iC, tC := tC, fn := ⟨_, _, _, _, _, _, _, _, _, _, _, _, l, cI⟩ }
    s := ⟨⟨cl, ga, gg, exC, cC, sp, tk, mo⟩, cd, hc, hm⟩ }

theorem rel_abs {u : Value} {v : V} (e : absV u = some v) : RelV v u := by
  cases u <;> first | (cases e; rfl) | (cases e; exact ⟨_, rfl⟩) | cases e
theorem vals_abs : ∀ {us : List Value} {vs : List V}, us.map absV = vs.map some → Vals vs us
  | [], [], _ => .nil
  | u :: us, v :: vs, e => by
    have e' : absV u = some v ∧ us.map absV = vs.map some := by simpa using e
    exact .cons (rel_abs e'.1) (vals_abs e'.2)
  | [], _ :: _, e => by simp at e
  | _ :: _, [], e => by simp at e
/-- a tuple of words -/
theorem pkTp {r : Addr} {od : Option Addr} {its : Array Value} {m : Nat} {sl : Array (Option Value)} (ws : List Str) (l : K.lookup r = some ⟨.type "tuple", od, .seq its m, sl⟩)
    (e : its.toList.map absV = (ws.map V.str).map some) (hz : ws.length ≤ 1000) : KC.WT K r ws := fun H => .inr ⟨_, its, m, l, rfl, rfl, by
      have := (vals_abs e).length
      rw [List.length_map] at this
      rw [← Array.length_toList, ← this]
      exact sz_of (by omega), vals_abs e⟩
theorem pkTpOf {n : Str} {r : Addr} {od : Option Addr} {its : Array Value} {m : Nat} {sl : Array (Option Value)} (KX : K.In h) (g : mg n = some (.ref r)) (ws : List Str) (l : K.lookup r = some ⟨.type "tuple", od, .seq its m, sl⟩)
    (e : its.toList.map absV = (ws.map V.str).map some) (hz : ws.length ≤ 1000) : KC.WT K r ws := pkTp ws l e hz
theorem pkE1 {E1 E2 f : Addr} {fd : FuncData} {x q : Str} {pr : Arguments} {bd : List Stmt} {sc : Scope} {od : Option Addr} {its : Array Value} {m : Nat} {sl : Array (Option Value)} (F : FunD K x q pr bd sc [.ref E1, .ref E2] [] f fd) (l : K.lookup E1 = some ⟨.type "tuple", od, .seq its m, sl⟩)
    (e : its.toList.map absV = (([] : List Str).map V.str).map some) : KC.WT K E1 [] := pkTp [] l e (by decide)
theorem pkE2 {E1 E2 f : Addr} {fd : FuncData} {x q : Str} {pr : Arguments} {bd : List Stmt} {sc : Scope} {od : Option Addr} {its : Array Value} {m : Nat} {sl : Array (Option Value)} (F : FunD K x q pr bd sc [.ref E1, .ref E2] [] f fd) (l : K.lookup E2 = some ⟨.type "tuple", od, .seq its m, sl⟩)
    (e : its.toList.map absV = (([] : List Str).map V.str).map some) : KC.WT K E2 [] := pkTp [] l e (by decide)
theorem raOf {n : Str} {C fI W : Addr} {B newId initId : String} {bmB : List Value} (p : PkIx K mg n C fI W B newId initId bmB) : RaB K C := by
  refine ⟨p.c.exC, ?_⟩
  have o := p.o
  unfold isOwn at o
  rw [Bool.and_eq_true] at o
  exact eq_of_beq o.2
theorem raOfGv {n : Str} {C fI W : Addr} {B newId initId : String} {bmB : List Value} (p : PkGv K mg n C fI W B newId initId bmB) : RaB K C := by
  refine ⟨p.c.exC, ?_⟩
  have o := p.o
  unfold isOwn at o
  rw [Bool.and_eq_true] at o
  exact eq_of_beq o.2
theorem kitCls_own {C W D : Addr} {B : String} (S : Srt K C W B) (o : isOwn K D) : PySem.W.kitCls K (.ref C) (.ref D) = some (decide (D = C ∨ D = W)) := by
  obtain ⟨cd, hc, hm⟩ := S.mro
  unfold PySem.W.kitCls
  dsimp only
  have o' := o
  unfold isOwn at o'
  rw [if_pos o']
  unfold PySem.W.subIn PySem.W.mroIn
  dsimp only
  rw [hc, Option.bind_some, hm, if_neg (by simp)]
  congr 1
  rw [Bool.eq_iff_iff]
  simp
theorem exm_own {C W D : Addr} {B : String} (S : Srt K C W B) (o : isOwn K D) (s : PySem.W.subIn K (.ref D) (.type "BaseException") = some true) : PySem.W.exmOne K (.ref C) (.ref D) = some (decide (D = C ∨ D = W)) := by
  unfold PySem.W.exmOne
  rw [s]
  exact (if_pos rfl).trans (kitCls_own S o)
theorem exm3 {C W D1 D2 D3 : Addr} {B : String} (S : Srt K C W B) (o1 : isOwn K D1) (o2 : isOwn K D2) (o3 : isOwn K D3) (s1 : PySem.W.subIn K (.ref D1) (.type "BaseException") = some true) (s2 : PySem.W.subIn K (.ref D2) (.type "BaseException") = some true)
    (s3 : PySem.W.subIn K (.ref D3) (.type "BaseException") = some true) (hW : W = D1 ∨ W = D2 ∨ W = D3) : PySem.W.exmAny K (.ref C) [.ref D1, .ref D2, .ref D3] = some true := by
  simp only [PySem.W.exmAny, exm_own S o1 s1, exm_own S o2 s2, exm_own S o3 s3]
  congr 1
  rcases hW with rfl | rfl | rfl <;> simp
/-- a code object with its empty table -/
theorem pkCode {c P : Addr} {od : Option Addr} {vs : Array Value} {sl : Array (Option Value)} {file : Str} {tf : Tok} {flags : Int} {tg : Tok} {inF : Bool} {text : Int} {tt : Tok} (X : K.In h) (l : K.lookup c = some ⟨.type "code", od, .fields vs, sl⟩)
    (e11 : vs[11]? = some (.ref P)) (e18 : vs.getD 18 .none = .str file tf) (e7 : vs.getD 7 .none = .int flags tg) (e9 : vs.getD 9 .none = .bool inF) (e10 : vs.getD 10 .none = .int text tt) (ne : c ≠ P) : PySem.W.CodeHd h c P := by
  refine ⟨_, vs, file, tf, flags, tg, inF, text, tt, X _ _ l, rfl, rfl, e11, ?_, e18, e7, e9, e10, ne⟩
  rw [Array.getD_eq_getD_getElem?, e11]
  rfl
theorem pkGetter {C g p : Addr} {f qual : Str} {st : Stmt} {oc : Value} {od an : Option Addr} {osl : Array (Option Value)} {kV doc pm cdv ct : Value} {rest : List Value}
    (a : PySem.W.findIn K (.ref C) f = some (some (.ref p))) (b : PySem.W.specialIn K (.ref p) "__get__" = some (some (.builtin "property.__get__"))) (t : PySem.W.takesIn K (.ref p) = some true) (r : PySem.W.recIn K p "property" = some (.ref g :: rest))
    (l : K.lookup g = some ⟨oc, od, .func (PySem.W.fnOf f qual (defArgs st) (defBody st) (defScope st) .none kV doc pm an cdv ct), osl⟩)
    (c : PySem.W.codeIn K cdv qual = true) (k : PySem.W.keepIn K (.ref g) = true)
    (hb : ∀ (kV doc pm : Value) (an : Option Addr) (cdv ct : Value) (us : List Value), us.length = 1 → bindArgs (PySem.W.fnOf f qual (defArgs st) (defBody st) (defScope st) .none kV doc pm an cdv ct) ⟨us, []⟩ = pure ([("self" : Str)].zip us)) :
    K06.Gt K C f qual st g p (PySem.W.fnOf f qual (defArgs st) (defBody st) (defScope st) .none kV doc pm an cdv ct) :=
  ⟨fun_mk l c k, Binds.all fun us hl => hb _ _ _ _ _ _ us hl, ⟨a, b, t, rest, r⟩⟩
theorem pkMaker {n : Str} {st : Stmt} {fa c P : Addr} {kV doc pm ct : Value} {an : Option Addr} {od : Option Addr} {vs : Array Value} {sl : Array (Option Value)} {file : Str} {tf : Tok} {flags : Int} {tg : Tok} {inF : Bool} {text : Int} {tt : Tok}
    (f : PkFn K mg n st fa (PySem.W.fnOf n n (defArgs st) (defBody st) (defScope st) .none kV doc pm an (.ref c) ct)) (X : K.In h) (l : K.lookup c = some ⟨.type "code", od, .fields vs, sl⟩)
    (e11 : vs[11]? = some (.ref P)) (e18 : vs.getD 18 .none = .str file tf) (e7 : vs.getD 7 .none = .int flags tg) (e9 : vs.getD 9 .none = .bool inF) (e10 : vs.getD 10 .none = .int text tt) (ne : c ≠ P) : PySem.W.CodeHd h c P :=
  pkCode X l e11 e18 e7 e9 e10 ne
theorem pkCls {n : Str} {C : Addr} (p : PkC K mg n C) (pg : PySem.W.plainGet K C Str.empty = true) (hd : PySem.W.hasDictIn K C = true) (po : PySem.W.plainOver K C = true) (sa : PySem.W.findIn K (.ref C) "__setattr__" = some (some (.builtin "object.__setattr__"))) : Cls K C := ⟨pg, hd, po, sa⟩
theorem pkNoA {n : Str} {C : Addr} (p : PkC K mg n C) (f : Str) (e : PySem.W.findIn K (.ref C) f = some none) : NoAttr K C f := e
theorem pkMk {n : Str} {C f : Addr} (p : PkC K mg n C) (m : PySem.W.makesIn K C = true) (i : PySem.W.findIn K (.ref C) "__init__" = some (some (.ref f))) (fn : PySem.W.isFn K (.ref f) = true) (kp : PySem.W.keepIn K (.ref C) = true) : Mk K C f := ⟨m, i, fn, kp⟩
theorem pkInitOf {C f Td E1 E2 : Addr} {oc oc2 : Value} {od od2 an : Option Addr} {osl osl2 : Array (Option Value)} {m : Nat} {kV doc pm cdv ct : Value} (mk : Mk K C f) (st : Stmt)
    (l : K.lookup f = some ⟨oc, od, .func (PySem.W.fnOf "__init__" "House.__init__" (defArgs st) (defBody st) (defScope st) (.ref Td) kV doc pm an cdv ct), osl⟩)
    (c : PySem.W.codeIn K cdv "House.__init__" = true) (k : PySem.W.keepIn K (.ref f) = true) (lT : K.lookup Td = some ⟨oc2, od2, .seq #[.ref E1, .ref E2] m, osl2⟩) :
    FunD K "__init__" "House.__init__" (defArgs st) (defBody st) (defScope st) [.ref E1, .ref E2] [] f (PySem.W.fnOf "__init__" "House.__init__" (defArgs st) (defBody st) (defScope st) (.ref Td) kV doc pm an cdv ct) :=
  ⟨⟨_, _, _, _, _, _, _, _, _, _, rfl, l, c, .inr ⟨by simp, Td, _, [.ref E1, .ref E2], m, rfl, lT, rfl, .cons rfl (.cons rfl .nil)⟩, .inl rfl⟩, k⟩
theorem pkGet {n : Str} {C g p : Addr} {oc : Value} {od an : Option Addr} {osl : Array (Option Value)} {kV doc pm cdv ct : Value} {rest : List Value} (pc : PkC K mg n C) (f qual : Str) (st : Stmt)
    (a : PySem.W.findIn K (.ref C) f = some (some (.ref p))) (b : PySem.W.specialIn K (.ref p) "__get__" = some (some (.builtin "property.__get__"))) (t : PySem.W.takesIn K (.ref p) = some true) (r : PySem.W.recIn K p "property" = some (.ref g :: rest))
    (l : K.lookup g = some ⟨oc, od, .func (PySem.W.fnOf f qual (defArgs st) (defBody st) (defScope st) .none kV doc pm an cdv ct), osl⟩)
    (c : PySem.W.codeIn K cdv qual = true) (k : PySem.W.keepIn K (.ref g) = true)
    (hb : ∀ (kV doc pm : Value) (an : Option Addr) (cdv ct : Value) (us : List Value), us.length = 1 → bindArgs (PySem.W.fnOf f qual (defArgs st) (defBody st) (defScope st) .none kV doc pm an cdv ct) ⟨us, []⟩ = pure ([("self" : Str)].zip us)) :
    K06.Gt K C f qual st g p (PySem.W.fnOf f qual (defArgs st) (defBody st) (defScope st) .none kV doc pm an cdv ct) := pkGetter a b t r l c k hb
theorem pkInit {f Td E1 E2 : Addr} {st : Stmt} {oc oc2 : Value} {od od2 an : Option Addr} {osl osl2 : Array (Option Value)} {m : Nat} {kV doc pm cdv ct : Value}
    (l : K.lookup f = some ⟨oc, od, .func (PySem.W.fnOf "__init__" "House.__init__" (defArgs st) (defBody st) (defScope st) (.ref Td) kV doc pm an cdv ct), osl⟩)
    (c : PySem.W.codeIn K cdv "House.__init__" = true) (k : PySem.W.keepIn K (.ref f) = true) (lT : K.lookup Td = some ⟨oc2, od2, .seq #[.ref E1, .ref E2] m, osl2⟩) :
    FunD K "__init__" "House.__init__" (defArgs st) (defBody st) (defScope st) [.ref E1, .ref E2] [] f (PySem.W.fnOf "__init__" "House.__init__" (defArgs st) (defBody st) (defScope st) (.ref Td) kV doc pm an cdv ct) :=
  ⟨⟨_, _, _, _, _, _, _, _, _, _, rfl, l, c, .inr ⟨by simp, Td, _, [.ref E1, .ref E2], m, rfl, lT, rfl, .cons rfl (.cons rfl .nil)⟩, .inl rfl⟩, k⟩
end
end L2.XK
namespace L2.K06
open PySem PySem.Spec PyProof.Rows XK Evl XC
theorem sortOf {K : PySem.W.Frag} {a : Adr} (s0 : Srt K a.InvalidNumber a.WrongValue "ValueError") (s1 : Srt K a.InvalidText a.WrongValue "ValueError") (s2 : Srt K a.InvalidName a.WrongValue "ValueError") (s3 : Srt K a.InvalidWish a.WrongValue "ValueError") (s4 : Srt K a.InvalidIndex a.WrongValue "ValueError") (s5 : Srt K a.InvalidPicture a.WrongValue "ValueError") (s6 : Srt K a.InvalidEvent a.WrongValue "ValueError") (s7 : Srt K a.InvalidHearing a.WrongValue "ValueError") (s8 : Srt K a.NotAHouse a.WrongValue "ValueError") (s9 : Srt K a.InvalidStands a.WrongValue "ValueError") (s10 : Srt K a.InvalidKeys a.WrongValue "ValueError") (s11 : Srt K a.InvalidRows a.WrongValue "ValueError") (s12 : Srt K a.WrongLine a.WrongValue "ValueError") (s13 : Srt K a.InvalidWeaving a.WrongValue "ValueError") (s14 : Srt K a.UnknownName a.WrongState "LookupError") (s15 : Srt K a.InUse a.WrongState "LookupError") (s16 : Srt K a.NothingToUndo a.WrongState "LookupError") (s17 : Srt K a.TooMany a.NoAnswer "ArithmeticError") (s18 : Srt K a.Broken a.NoAnswer "ArithmeticError") : ∀ i C W B, sorts a i = some (C, W, B) → Srt K C W B := by
  intro i C W B h
  match i, h with
  | 0, h => cases h; exact s0
  | 1, h => cases h; exact s1
  | 2, h => cases h; exact s2
  | 3, h => cases h; exact s3
  | 4, h => cases h; exact s4
  | 5, h => cases h; exact s5
  | 6, h => cases h; exact s6
  | 7, h => cases h; exact s7
  | 8, h => cases h; exact s8
  | 9, h => cases h; exact s9
  | 10, h => cases h; exact s10
  | 11, h => cases h; exact s11
  | 12, h => cases h; exact s12
  | 13, h => cases h; exact s13
  | 14, h => cases h; exact s14
  | 15, h => cases h; exact s15
  | 16, h => cases h; exact s16
  | 17, h => cases h; exact s17
  | 18, h => cases h; exact s18
  | n + 19, h => cases h
theorem ownsOf {K : PySem.W.Frag} {a : Adr} (o0 : isOwn K a.InvalidNumber) (o1 : isOwn K a.InvalidText) (o2 : isOwn K a.InvalidName) (o3 : isOwn K a.InvalidWish) (o4 : isOwn K a.InvalidIndex) (o5 : isOwn K a.InvalidPicture) (o6 : isOwn K a.InvalidEvent) (o7 : isOwn K a.InvalidHearing) (o8 : isOwn K a.NotAHouse) (o9 : isOwn K a.InvalidStands) (o10 : isOwn K a.InvalidKeys) (o11 : isOwn K a.InvalidRows) (o12 : isOwn K a.WrongLine) (o13 : isOwn K a.InvalidWeaving) (o14 : isOwn K a.UnknownName) (o15 : isOwn K a.InUse) (o16 : isOwn K a.NothingToUndo) (o17 : isOwn K a.TooMany) (o18 : isOwn K a.Broken) (o19 : isOwn K a.WrongValue) (o20 : isOwn K a.WrongState) (o21 : isOwn K a.NoAnswer) : ∀ C, C ∈ owns a → isOwn K C := by
  intro C h
  unfold owns at h
  rcases List.mem_cons.mp h with rfl | h
  · exact o0
  rcases List.mem_cons.mp h with rfl | h
  · exact o1
  rcases List.mem_cons.mp h with rfl | h
  · exact o2
  rcases List.mem_cons.mp h with rfl | h
  · exact o3
  rcases List.mem_cons.mp h with rfl | h
  · exact o4
  rcases List.mem_cons.mp h with rfl | h
  · exact o5
  rcases List.mem_cons.mp h with rfl | h
  · exact o6
  rcases List.mem_cons.mp h with rfl | h
  · exact o7
  rcases List.mem_cons.mp h with rfl | h
  · exact o8
  rcases List.mem_cons.mp h with rfl | h
  · exact o9
  rcases List.mem_cons.mp h with rfl | h
  · exact o10
  rcases List.mem_cons.mp h with rfl | h
  · exact o11
  rcases List.mem_cons.mp h with rfl | h
  · exact o12
  rcases List.mem_cons.mp h with rfl | h
  · exact o13
  rcases List.mem_cons.mp h with rfl | h
  · exact o14
  rcases List.mem_cons.mp h with rfl | h
  · exact o15
  rcases List.mem_cons.mp h with rfl | h
  · exact o16
  rcases List.mem_cons.mp h with rfl | h
  · exact o17
  rcases List.mem_cons.mp h with rfl | h
  · exact o18
  rcases List.mem_cons.mp h with rfl | h
  · exact o19
  rcases List.mem_cons.mp h with rfl | h
  · exact o20
  rcases List.mem_cons.mp h with rfl | h
  · exact o21
  cases h
theorem sortUp {a : Adr} {i : Nat} {C W : Addr} {B : String} (h : sorts a i = some (C, W, B)) : W = a.WrongValue ∨ W = a.WrongState ∨ W = a.NoAnswer := by
  match i, h with
  | 0, h => cases h; exact .inl rfl
  | 1, h => cases h; exact .inl rfl
  | 2, h => cases h; exact .inl rfl
  | 3, h => cases h; exact .inl rfl
  | 4, h => cases h; exact .inl rfl
  | 5, h => cases h; exact .inl rfl
  | 6, h => cases h; exact .inl rfl
  | 7, h => cases h; exact .inl rfl
  | 8, h => cases h; exact .inl rfl
  | 9, h => cases h; exact .inl rfl
  | 10, h => cases h; exact .inl rfl
  | 11, h => cases h; exact .inl rfl
  | 12, h => cases h; exact .inl rfl
  | 13, h => cases h; exact .inl rfl
  | 14, h => cases h; exact .inr (.inl rfl)
  | 15, h => cases h; exact .inr (.inl rfl)
  | 16, h => cases h; exact .inr (.inl rfl)
  | 17, h => cases h; exact .inr (.inr rfl)
  | 18, h => cases h; exact .inr (.inr rfl)
  | n + 19, h => cases h
theorem catchOf {K : PySem.W.Frag} {mg : Str → Option Value} {a : Adr} (T : Txt K mg a) (s1 : PySem.W.subIn K (.ref a.WrongValue) (.type "BaseException") = some true) (s2 : PySem.W.subIn K (.ref a.WrongState) (.type "BaseException") = some true)
    (s3 : PySem.W.subIn K (.ref a.NoAnswer) (.type "BaseException") = some true) : Catch3 K a := fun i C W B h =>
  exm3 (T.sort i C W B h) (T.cls _ (by simp [owns])) (T.cls _ (by simp [owns])) (T.cls _ (by simp [owns])) s1 s2 s3 (sortUp h)
theorem lookup_out {K : PySem.W.Frag} {P : Addr} : ∀ (l : List (Addr × Obj)), (l.map (·.1)).contains P = false → List.lookup P l = none
  | [], _ => rfl
  | (a, o) :: l, h => by
    simp only [List.map_cons, List.contains_cons, Bool.or_eq_false_iff] at h
    rw [List.lookup_cons, h.1]
    exact lookup_out (K := K) l h.2
theorem kmOut {K : Params → PySem.W.Frag} {as : List Addr} {e : ∀ P, as = (K P).map (·.1)} {ts : List Addr} {w : World} {h : Heap} (Y : (PySem.W.kmHook K as e ts).says w h) {P : Addr} (n : as.contains P = false) :
    (K w.params).lookup P = none := by
  rw [e w.params] at n
  exact lookup_out (K := []) _ n
/-- what the head's end wants -/
theorem lastOf {prog : Program} {w : World} {K : PySem.W.Frag} {h : Heap} {mg : Str → Option Value} {a : Adr} {q : AdrQ} {c : KC.AdrC} {b : KC.AdrH} {o : KC.AdrO} {g : AdrG} {P1 : Addr} {ts : List Addr}
    (KX : K.In h) (Y : ∀ P ∈ ts, h.get? P = some (PySem.W.tabObj #[])) (T : TxtG K mg a q c b o g) (t1 : PySem.W.CodeHd h q.c1 P1) (m1 : P1 ∈ ts)
    (n1 : K.lookup P1 = none) (hb : ∀ (s : Shared) (u : Value), BindsTo s q.fdLaw ⟨[u], []⟩ [("_law_cells", u)]) :
    K.In h ∧ ∃ (fd : FuncData) (cs : List (Addr × Addr)) (sp : Sp), (∀ t ∈ cs, h.get? t.2 = some (PySem.W.tabObj #[])) ∧ (∀ t ∈ cs, K.lookup t.2 = none) ∧ (∀ t ∈ cs, PySem.W.CodeHd h t.1 t.2) ∧
        (∀ (s : Shared) (u : Value), BindsTo s fd ⟨[u], []⟩ [("_law_cells", u)]) ∧
        (∀ (H : Hp) (a : Addr) (ns : List Int), ns.length ≤ 63 → (∀ t ∈ cs, H t.2 = some (.tbl #[])) → SqL K H a (ns.map V.int) → sp [.ref a] H (fun v _ => v = .bl true) fun _ _ _ => False) ∧
        ∀ base : Heap, K.In base → base.Ns mainGlobals mg → Sys base → (∀ t ∈ cs, LamX.TabB base mg t.1 t.2) → FnG prog w K mg base 14 q.Law fd ["_law_cells"] sp := by
  refine ⟨KX, q.fdLaw, [(q.c1, P1)], spLaw K [(P1, lamName "_law_right" sLawRight)], ?_, ?_, ?_, hb, ?_, ?_⟩
  · exact List.forall_mem_cons.mpr ⟨Y _ m1, fun _ z => nomatch z⟩
  · exact List.forall_mem_cons.mpr ⟨n1, fun _ z => nomatch z⟩
  · exact List.forall_mem_cons.mpr ⟨t1, fun _ z => nomatch z⟩
  · intro H a ns hl hH hS
    refine ⟨a, ns, rfl, hS, hl, ?_, fun _ => rfl⟩
    intro p hp
    rw [List.mem_singleton.mp hp]
    exact LamX.TabS.nil (hH (q.c1, P1) List.mem_cons_self)
  · intro base _ _ hs hT
    refine ok_law T hs (hT _ List.mem_cons_self) List.mem_cons_self (fun p hp e => ?_)
    rw [List.mem_singleton.mp hp]
end L2.K06

set_option Elab.async false
set_option maxRecDepth 100000
set_option maxHeartbeats 4000000
set_option linter.all false
/-! A small head: what the top leaves is told as truths of a part of the heap. -/
namespace L2.HM
open PySem PySem.Spec PyProof.Rows XK XC
abbrev Fg := PySem.W.Frag
def fdAt (K : Fg) (a : Addr) : Option FuncData := match K.lookup a with
  | some o => (match o.data with
    | .func fd => some fd
    | _ => none)
  | none => none
theorem fdAt_ok {K : Fg} {a : Addr} {fd : FuncData} (h : fdAt K a = some fd) : ∃ oc od osl, K.lookup a = some ⟨oc, od, .func fd, osl⟩ := by
  unfold fdAt at h
  cases q : K.lookup a with
  | none => rw [q] at h; cases h
  | some o =>
    obtain ⟨oc, od, dt, osl⟩ := o
    rw [q] at h
    cases dt with
    | func f => cases h; exact ⟨oc, od, osl, rfl⟩
    | _ => cases h
/-- what is fixed of a function object -/
abbrev FV : Type := (Str × Str) × (Arguments × FuncBody × Scope) × (Addr × List (Str × Addr) × Addr)
def fv (f : FuncData) : FV := ((f.name, f.qualname), (f.params, f.body, f.scope), (f.globals, f.closure, f.builtins))
/-- a def of the text: where it stands, its names, its row, its defaults -/
structure Df where
  ad : Fg → Addr
  nm : Str
  ql : Str
  st : Stmt
  df : Fg → List V := fun _ => []
def Df.v (d : Df) : Option FV := some ((d.nm, d.ql), (defArgs d.st, .stmts (defBody d.st), defScope d.st), (mainGlobals, [], builtinsNs))
def Df.see (K : Fg) (d : Df) : Option FV := (fdAt K (d.ad K)).map fv
def Df.b (K : Fg) (d : Df) : Bool := PySem.W.keepIn K (.ref (d.ad K)) && (match fdAt K (d.ad K) with
  | some f => PySem.W.codeIn K f.code d.ql && He.dflB K f.defaults (d.df K)
  | none => false)
theorem Df.fun_ {K : Fg} {d : Df} (e : d.see K = d.v) (c : d.b K = true) : ∃ fd, FunD K d.nm d.ql (defArgs d.st) (defBody d.st) (defScope d.st) (d.df K) [] (d.ad K) fd := by
  unfold Df.see Df.v at e
  unfold Df.b at c
  cases q : fdAt K (d.ad K) with
  | none => rw [q] at e; cases e
  | some f =>
    rw [q] at e c
    obtain ⟨oc, od, osl, l⟩ := fdAt_ok q
    obtain ⟨m1, m2, m3, m4, m5, m6, m7, m8, m9, m10, m11, m12, m13, m14, m15⟩ := f
    simp only [Option.map_some, fv, Option.some.injEq, Prod.mk.injEq] at e
    obtain ⟨⟨rfl, rfl⟩, ⟨rfl, rfl, rfl⟩, rfl, rfl, rfl⟩ := e
    simp only [Bool.and_eq_true] at c
    exact ⟨_, ⟨oc, od, m8, m9, m10, m11, m12, m13, m14, osl, rfl, l, c.2.1, He.dflB_ok c.2.2, .inl rfl⟩, c.1⟩
theorem funOfD {K : Fg} {x q : Str} {st : Stmt} {f : Addr} {fd : FuncData} (F : FunD K x q (defArgs st) (defBody st) (defScope st) [] [] f fd) : Fun K x q st f fd := by
  obtain ⟨⟨oc, od, dV, kV, doc, pm, an, cdv, ct, osl, e, l, c, hd, _⟩, kp⟩ := F
  rcases hd with ⟨_, rfl⟩ | ⟨h, _⟩
  · exact ⟨⟨oc, od, kV, doc, pm, an, cdv, ct, osl, e, l, c⟩, kp⟩
  · exact absurd rfl h
def cdOf (K : Fg) (f : Addr) : Addr := match fdAt K f with
  | some fd => (match fd.code with
    | .ref c => c
    | _ => 0)
  | none => 0
def tbOf (K : Fg) (f : Addr) : Addr := He.tabOf K (cdOf K f)
/-- what is wanted of a top: the defs, a truth, the defs whose code tables are empty -/
structure Wn where
  fs : List Df
  ex : Fg → Bool
  tf : List (Fg → Addr)
def tabB (g : Addr → Option Obj) (K : Fg) (f : Addr) : Bool := PySem.W.codeHdIn K (cdOf K f) (tbOf K f) && (match g (tbOf K f) with
  | some o => He.emptyTab o
  | none => false)
abbrev Seen : Type := List (Option FV) × Bool
def seeK (W : Wn) (g : Addr → Option Obj) (K : Fg) : Seen := (W.fs.map fun d => d.see K, (W.fs.all fun d => d.b K) && (W.ex K && W.tf.all fun f => tabB g K (f K)))
/-- what is reached, each once; seen: as bits -/
def reach (g : Addr → Option Obj) : Nat → List Addr → Nat → List Addr → List Addr
  | 0, _, _, acc => acc
  | _ + 1, [], _, acc => acc
  | k + 1, a :: r, seen, acc => bif seen.testBit a then reach g k r seen acc else match g a with
    | some o => reach g k (He.refsO o ++ r) (seen ||| (1 <<< a)) (a :: acc)
    | none => reach g k r (seen ||| (1 <<< a)) acc
def part (n : Nat) (g : Addr → Option Obj) : Fg := He.frT g (reach g n [mainGlobals] 0 [])
def see (n : Nat) (W : Wn) (g : Addr → Option Obj) : Seen := seeK W g (part n g)
def due (W : Wn) : Seen := (W.fs.map Df.v, true)
structure Says (W : Wn) (h : Heap) (K : Fg) : Prop where
  inn : K.In h
  v : (W.fs.map fun d => d.see K) = W.fs.map Df.v
  b : (W.fs.all fun d => d.b K) = true
  ex : W.ex K = true
  hd : ∀ f ∈ W.tf, PySem.W.codeHdIn K (cdOf K (f K)) (tbOf K (f K)) = true
  out : ∀ f ∈ W.tf, K.lookup (tbOf K (f K)) = none
  emp : ∀ f ∈ W.tf, h.get? (tbOf K (f K)) = some (PySem.W.tabObj #[])
theorem says_of {n : Nat} {W : Wn} {h : Heap} (e : see n W h.get? = due W) : Says W h (part n h.get?) := by
  have e1 := congrArg Prod.fst e
  have e2 : ((W.fs.all fun d => d.b (part n h.get?)) && (W.ex (part n h.get?) && W.tf.all fun f => tabB h.get? (part n h.get?) (f (part n h.get?)))) = true := congrArg Prod.snd e
  simp only [Bool.and_eq_true] at e2
  have key : ∀ f ∈ W.tf, PySem.W.codeHdIn (part n h.get?) (cdOf (part n h.get?) (f (part n h.get?))) (tbOf (part n h.get?) (f (part n h.get?))) = true ∧ ∃ o, h.get? (tbOf (part n h.get?) (f (part n h.get?))) = some o ∧ He.emptyTab o = true := fun f hf => by
    have t := List.all_eq_true.mp e2.2.2 f hf
    unfold tabB at t
    rw [Bool.and_eq_true] at t
    refine ⟨t.1, ?_⟩
    cases q : h.get? (tbOf (part n h.get?) (f (part n h.get?))) with
    | none =>
      have t2 := t.2
      rw [q] at t2
      cases t2
    | some o =>
      have t2 := t.2
      rw [q] at t2
      exact ⟨o, rfl, t2⟩
  refine ⟨He.frT_in, e1, e2.1, e2.2.1, fun f hf => (key f hf).1, fun f hf => ?_, fun f hf => ?_⟩
  · obtain ⟨_, o, q, z⟩ := key f hf
    exact He.frT_none q z
  · obtain ⟨_, o, q, z⟩ := key f hf
    rw [q, He.emptyTab_eq z]
def hook (n : Nat) (W : Wn) : PySem.W.Hook where
  α := Seen
  obs := fun s => see n W s.heap.get?
  val := fun _ => due W
  says := fun _ h => ∃ K : Fg, Says W h K
  of := fun _ _ e => ⟨_, says_of e⟩
  keeps := fun _ _ _ ⟨K, c⟩ k => ⟨K, ⟨PySem.W.Frag.In.keeps c.inn k, c.v, c.b, c.ex, c.hd, c.out, fun f hf => k _ _ (c.emp f hf)⟩⟩
theorem hook_ob {n : Nat} {W : Wn} (s : PySem.W.SharedT) : see n W (HandSHeadRun.getT s) = (hook n W).obs s.abs := by
  have e : HandSHeadRun.getT s = s.abs.heap.get? := funext (HandSHeadRun.getT_eq s)
  rw [e]
  rfl
section
variable {W : Wn} {h : Heap} {K : Fg} {mg : Str → Option Value}
theorem Says.def_ (c : Says W h K) (i : Nat) {d : Df} (e : W.fs[i]? = some d) : ∃ fd, FunD K d.nm d.ql (defArgs d.st) (defBody d.st) (defScope d.st) (d.df K) [] (d.ad K) fd := by
  have m := List.mem_of_getElem? e
  refine Df.fun_ ?_ (List.all_eq_true.mp c.b d m)
  have z := congrArg (fun l => l[i]?) c.v
  simp only [List.getElem?_map, e, Option.map_some, Option.some.injEq] at z
  exact z
theorem Says.fn (c : Says W h K) (i : Nat) {ad : Fg → Addr} {nm ql : Str} {st : Stmt} (e : W.fs[i]? = some ⟨ad, nm, ql, st, fun _ => []⟩) : ∃ fd, Fun K nm ql st (ad K) fd := by
  obtain ⟨fd, F⟩ := c.def_ i e
  exact ⟨fd, funOfD F⟩
end
/-! truths of a part of the heap -/
def tpB (ws : List Str) (a : Fg → Addr) (K : Fg) : Bool := match K.lookup (a K) with
  | some ⟨.type c, _, .seq its _, _⟩ => decide (c = "tuple") && decide (its.toList.map absV = (ws.map V.str).map some)
  | _ => false
theorem tpB_ok {K : Fg} {ws : List Str} {a : Fg → Addr} (hz : ws.length ≤ 1000) (h : tpB ws a K = true) : KC.WT K (a K) ws := by
  unfold tpB at h
  cases q : K.lookup (a K) with
  | none => rw [q] at h; cases h
  | some o =>
    obtain ⟨oc, od, dt, osl⟩ := o
    rw [q] at h
    cases oc with
    | type c =>
      cases dt with
      | seq its m =>
        have h' : (decide (c = "tuple") && decide (its.toList.map absV = (ws.map V.str).map some)) = true := h
        simp only [Bool.and_eq_true, decide_eq_true_eq] at h'
        obtain ⟨rfl, e⟩ := h'
        exact pkTp ws q e hz
      | _ => cases h
    | _ => cases dt <;> cases h
/-- a class of the text, at the module's name n -/
def clB (n : Str) (K : Fg) : Bool := decide (PySem.W.nsIn K mainGlobals n = some (some (.ref (He.ga K n)))) && (PySem.W.isClsIn K (He.ga K n) && decide (PySem.W.typeIn K (.ref (He.ga K n)) = some (.type "type")))
theorem clB_ok {h : Heap} {K : Fg} {mg : Str → Option Value} {n : Str} (X : K.In h) (G : h.Ns mainGlobals mg) (c : clB n K = true) : PkC K mg n (He.ga K n) := by
  unfold clB at c
  simp only [Bool.and_eq_true, decide_eq_true_eq] at c
  exact pkC n X G c.1 c.2.1 c.2.2
/-- an exception's class: W the class above, B the built-in one -/
def exB (n W : Str) (B newId : String) (bm : List Value) (fl : List Str) (K : Fg) : Bool :=
  clB n K && (exC K (He.ga K n) (He.ga K W) B newId bm fl)
where exC (K : Fg) (C W : Addr) (B newId : String) (bm : List Value) (fl : List Str) : Bool :=
  ((PySem.W.clsIn K C).any fun cd => decide (cd.mro = [.ref C, .ref W, .type B, .type "Exception", .type "BaseException", .type "object"])) && (PySem.W.excInitIn K C bm newId && (PySem.W.excOver K C bm &&
  (decide (PySem.W.findIn K (.ref C) "__setattr__" = some (some (.builtin "object.__setattr__"))) && (decide (PySem.W.findIn K (.ref C) "__getattribute__" = some (some (.builtin "BaseException.__getattribute__"))) &&
  (decide (PySem.W.findIn K (.ref C) "__getattr__" = some none) && (PySem.W.keepIn K (.ref C) && (decide (PySem.W.subIn K (.ref C) (.type "BaseException") = some true) && (PySem.W.hasDictIn K C &&
  (decide (PySem.W.findIn K (.ref C) "__init__" = some (some (.ref (He.ma K C "__init__")))) && (decide (PySem.W.typeIn K (.ref (He.ma K C "__init__")) = some (.type "function")) && ((fl.all fun f => decide (PySem.W.findIn K (.ref C) f = some none)) &&
  (decide (PySem.W.findIn K (.ref C) "__class__" = some (some (.builtin "object.__class__"))) && (decide (PySem.W.specialIn K (.builtin "object.__class__") "__get__" = some (some (.builtin "getset_descriptor.__get__"))) &&
  (decide (PySem.W.takesIn K (.builtin "object.__class__") = some true) && decide (PySem.W.mroIn K C (.type "object") = some true)))))))))))))))
/-- where an exception's maker stands -/
def iniA (n : Str) (K : Fg) : Addr := He.ma K (He.ga K n) "__init__"
section
variable {h : Heap} {K : Fg} {mg : Str → Option Value} {n W : Str} {B newId : String} {bm : List Value}
theorem gvOf {initId : String} (X : K.In h) (G : h.Ns mainGlobals mg) (eb : ExcBaseFacts B newId initId bm) (es : StoreFacts B bm "object.__setattr__" "object") (c : exB n W B newId bm ["given"] K = true) {ql : Str} {st : Stmt} {fd : FuncData}
    (F : Fun K "__init__" ql st (iniA n K) fd) {p0 p1 q0 q1 q2 q3 : Pos} (e1 : defArgs st = argsGv p0 p1) (e2 : FuncBody.stmts (defBody st) = .stmts (bodyGv q0 q1 q2 q3)) (e3 : defScope st = scopeGv) : PkGv K mg n (He.ga K n) (iniA n K) (He.ga K W) B newId initId bm := by
  unfold exB exB.exC at c
  simp only [Bool.and_eq_true, decide_eq_true_eq] at c
  obtain ⟨cl, mr, a1, a2, a3, a4, a5, a6, a7, a8, a9, a10, a11, a12, a13, a14, a15⟩ := c
  have cl' := cl
  unfold clB at cl'
  simp only [Bool.and_eq_true, decide_eq_true_eq] at cl'
  obtain ⟨cd, hc, hm⟩ := PySem.W.any_some mr
  obtain ⟨oc, od, kV, doc, pm, an, cdv, ct, osl, rfl, l, lc⟩ := F.ex
  have e2' := FuncBody.stmts.inj e2
  rw [e1, e2', e3] at l
  exact pkGv n B newId initId bm X G eb es cl'.1 cl'.2.1 cl'.2.2 hc (of_decide_eq_true hm) a1 a2 a3 a4 a5 a6 a7 a8 a9 a10 (of_decide_eq_true (List.all_eq_true.mp a11 "given" (by simp))) l lc a12 a13 a14 a15
theorem ixOf {initId : String} (X : K.In h) (G : h.Ns mainGlobals mg) (eb : ExcBaseFacts B newId initId bm) (es : StoreFacts B bm "object.__setattr__" "object") (c : exB n W B newId bm ["index"] K = true) {ql : Str} {st : Stmt} {fd : FuncData}
    (F : Fun K "__init__" ql st (iniA n K) fd) {p0 p1 q0 q1 q2 q3 : Pos} (e1 : defArgs st = argsIx p0 p1) (e2 : FuncBody.stmts (defBody st) = .stmts (bodyIx q0 q1 q2 q3)) (e3 : defScope st = scopeIx) : PkIx K mg n (He.ga K n) (iniA n K) (He.ga K W) B newId initId bm := by
  unfold exB exB.exC at c
  simp only [Bool.and_eq_true, decide_eq_true_eq] at c
  obtain ⟨cl, mr, a1, a2, a3, a4, a5, a6, a7, a8, a9, a10, a11, a12, a13, a14, a15⟩ := c
  have cl' := cl
  unfold clB at cl'
  simp only [Bool.and_eq_true, decide_eq_true_eq] at cl'
  obtain ⟨cd, hc, hm⟩ := PySem.W.any_some mr
  obtain ⟨oc, od, kV, doc, pm, an, cdv, ct, osl, rfl, l, lc⟩ := F.ex
  have e2' := FuncBody.stmts.inj e2
  rw [e1, e2', e3] at l
  exact pkIx n B newId initId bm X G eb es cl'.1 cl'.2.1 cl'.2.2 hc (of_decide_eq_true hm) a1 a2 a3 a4 a5 a6 a7 a8 a9 a10 (of_decide_eq_true (List.all_eq_true.mp a11 "index" (by simp))) l lc a12 a13 a14 a15
theorem moOf {initId : String} (X : K.In h) (G : h.Ns mainGlobals mg) (eb : ExcBaseFacts B newId initId bm) (es : StoreFacts B bm "object.__setattr__" "object") (c : exB n W B newId bm ["most"] K = true) {ql : Str} {st : Stmt} {fd : FuncData}
    (F : Fun K "__init__" ql st (iniA n K) fd) {p0 p1 q0 q1 q2 q3 : Pos} (e1 : defArgs st = argsMo p0 p1) (e2 : FuncBody.stmts (defBody st) = .stmts (bodyMo q0 q1 q2 q3)) (e3 : defScope st = scopeMo) : PkMo K mg n (He.ga K n) (iniA n K) (He.ga K W) B newId initId bm := by
  unfold exB exB.exC at c
  simp only [Bool.and_eq_true, decide_eq_true_eq] at c
  obtain ⟨cl, mr, a1, a2, a3, a4, a5, a6, a7, a8, a9, a10, a11, a12, a13, a14, a15⟩ := c
  have cl' := cl
  unfold clB at cl'
  simp only [Bool.and_eq_true, decide_eq_true_eq] at cl'
  obtain ⟨cd, hc, hm⟩ := PySem.W.any_some mr
  obtain ⟨oc, od, kV, doc, pm, an, cdv, ct, osl, rfl, l, lc⟩ := F.ex
  have e2' := FuncBody.stmts.inj e2
  rw [e1, e2', e3] at l
  exact pkMo n B newId initId bm X G eb es cl'.1 cl'.2.1 cl'.2.2 hc (of_decide_eq_true hm) a1 a2 a3 a4 a5 a6 a7 a8 a9 a10 (of_decide_eq_true (List.all_eq_true.mp a11 "most" (by simp))) l lc a12 a13 a14 a15
theorem brOf {initId : String} (X : K.In h) (G : h.Ns mainGlobals mg) (eb : ExcBaseFacts B newId initId bm) (es : StoreFacts B bm "object.__setattr__" "object") (c : exB n W B newId bm ["index", "shown"] K = true) {ql : Str} {st : Stmt} {fd : FuncData}
    (F : Fun K "__init__" ql st (iniA n K) fd) {p0 p1 p2 q0 q1 q2 q3 r0 r1 r2 r3 : Pos} (e1 : defArgs st = argsBr p0 p1 p2) (e2 : FuncBody.stmts (defBody st) = .stmts (bodyBr q0 q1 q2 q3 r0 r1 r2 r3)) (e3 : defScope st = scopeBr) : PkBr K mg n (He.ga K n) (iniA n K) (He.ga K W) B newId initId bm := by
  unfold exB exB.exC at c
  simp only [Bool.and_eq_true, decide_eq_true_eq] at c
  obtain ⟨cl, mr, a1, a2, a3, a4, a5, a6, a7, a8, a9, a10, a11, a12, a13, a14, a15⟩ := c
  have cl' := cl
  unfold clB at cl'
  simp only [Bool.and_eq_true, decide_eq_true_eq] at cl'
  obtain ⟨cd, hc, hm⟩ := PySem.W.any_some mr
  obtain ⟨oc, od, kV, doc, pm, an, cdv, ct, osl, rfl, l, lc⟩ := F.ex
  have e2' := FuncBody.stmts.inj e2
  rw [e1, e2', e3] at l
  exact pkBr n B newId initId bm X G eb es cl'.1 cl'.2.1 cl'.2.2 hc (of_decide_eq_true hm) a1 a2 a3 a4 a5 a6 a7 a8 a9 a10 (of_decide_eq_true (List.all_eq_true.mp a11 "index" (by simp))) (of_decide_eq_true (List.all_eq_true.mp a11 "shown" (by simp))) l lc a12 a13 a14 a15
theorem noOf {initId : String} (X : K.In h) (G : h.Ns mainGlobals mg) (eb : ExcBaseFacts B newId initId bm) (es : StoreFacts B bm "object.__setattr__" "object") (c : exB n W B newId bm [] K = true) {ql : Str} {st : Stmt} {fd : FuncData}
    (F : Fun K "__init__" ql st (iniA n K) fd) {p0 q0 : Pos} (e1 : defArgs st = argsNo p0) (e2 : FuncBody.stmts (defBody st) = .stmts (bodyNo q0)) (e3 : defScope st = scopeNo) : PkNo K mg n (He.ga K n) (iniA n K) (He.ga K W) B newId initId bm := by
  unfold exB exB.exC at c
  simp only [Bool.and_eq_true, decide_eq_true_eq] at c
  obtain ⟨cl, mr, a1, a2, a3, a4, a5, a6, a7, a8, a9, a10, a11, a12, a13, a14, a15⟩ := c
  have cl' := cl
  unfold clB at cl'
  simp only [Bool.and_eq_true, decide_eq_true_eq] at cl'
  obtain ⟨cd, hc, hm⟩ := PySem.W.any_some mr
  obtain ⟨oc, od, kV, doc, pm, an, cdv, ct, osl, rfl, l, lc⟩ := F.ex
  have e2' := FuncBody.stmts.inj e2
  rw [e1, e2', e3] at l
  exact pkNo n B newId initId bm X G eb es cl'.1 cl'.2.1 cl'.2.2 hc (of_decide_eq_true hm) a1 a2 a3 a4 a5 a6 a7 a8 a9 a10  l lc a12 a13 a14 a15
/-! a class with attributes -/
def ownB (n : Str) (fl : List Str) (K : Fg) : Bool := clB n K && (PySem.W.plainGet K (He.ga K n) Str.empty && (PySem.W.hasDictIn K (He.ga K n) && (PySem.W.plainOver K (He.ga K n) &&
  (decide (PySem.W.findIn K (.ref (He.ga K n)) "__setattr__" = some (some (.builtin "object.__setattr__"))) && ((fl.all fun f => decide (PySem.W.findIn K (.ref (He.ga K n)) f = some none)) &&
  (PySem.W.makesIn K (He.ga K n) && (decide (PySem.W.findIn K (.ref (He.ga K n)) "__init__" = some (some (.ref (iniA n K)))) && (PySem.W.isFn K (.ref (iniA n K)) && PySem.W.keepIn K (.ref (He.ga K n))))))))))
theorem ownB_ok {fl : List Str} (X : K.In h) (G : h.Ns mainGlobals mg) (c : ownB n fl K = true) : PkC K mg n (He.ga K n) ∧ Cls K (He.ga K n) ∧ (∀ f ∈ fl, NoAttr K (He.ga K n) f) ∧ Mk K (He.ga K n) (iniA n K) := by
  unfold ownB at c
  simp only [Bool.and_eq_true, decide_eq_true_eq] at c
  obtain ⟨cl, a1, a2, a3, a4, a5, a6, a7, a8, a9⟩ := c
  exact ⟨clB_ok X G cl, ⟨a1, a2, a3, a4⟩, fun f hf => (of_decide_eq_true (List.all_eq_true.mp a5 f hf) : PySem.W.findIn K (.ref (He.ga K n)) f = some none), ⟨a6, a7, a8, a9⟩⟩
/-- a property's object, its getter -/
def prA (n f : Str) (K : Fg) : Addr := He.ma K (He.ga K n) f
def gtA (n f : Str) (K : Fg) : Addr := match PySem.W.recIn K (prA n f K) "property" with
  | some (.ref g :: _) => g
  | _ => 0
def prB (n f : Str) (K : Fg) : Bool := decide (PySem.W.findIn K (.ref (He.ga K n)) f = some (some (.ref (prA n f K)))) && (decide (PySem.W.specialIn K (.ref (prA n f K)) "__get__" = some (some (.builtin "property.__get__"))) &&
  (decide (PySem.W.takesIn K (.ref (prA n f K)) = some true) && (match PySem.W.recIn K (prA n f K) "property" with
  | some (.ref g :: _) => true
  | _ => false)))
theorem gtOf {f ql : Str} {st : Stmt} {fd : FuncData} (c : prB n f K = true) (F : Fun K f ql st (gtA n f K) fd) (hb : Binds K fd ["self"] []) : K06.Gt K (He.ga K n) f ql st (gtA n f K) (prA n f K) fd := by
  unfold prB at c
  simp only [Bool.and_eq_true, decide_eq_true_eq] at c
  obtain ⟨a1, a2, a3, a4⟩ := c
  refine ⟨F, hb, a1, a2, a3, ?_⟩
  cases q : PySem.W.recIn K (prA n f K) "property" with
  | none => rw [q] at a4; cases a4
  | some l =>
    rw [q] at a4
    cases l with
    | nil => cases a4
    | cons v r =>
      cases v with
      | ref g =>
        have : gtA n f K = g := by unfold gtA; rw [q]
        rw [this]
        exact ⟨r, rfl⟩
      | _ => cases a4
end
theorem all_at {α : Type} {p : α → Bool} {l : List α} (h : l.all p = true) (i : Nat) {x : α} (e : l[i]? = some x) : p x = true := List.all_eq_true.mp h x (List.mem_of_getElem? e)
theorem cd_of {K : Fg} {x ql : Str} {st : Stmt} {f : Addr} {fd : FuncData} (F : Fun K x ql st f fd) : fd.code = .ref (cdOf K f) := by
  obtain ⟨oc, od, kV, doc, pm, an, cdv, ct, osl, rfl, l, lc⟩ := F.ex
  obtain ⟨c, rfl⟩ := He.codeIn_ref lc
  have e : fdAt K f = some (PySem.W.fnOf x ql (defArgs st) (defBody st) (defScope st) .none kV doc pm an (.ref c) ct) := by
    unfold fdAt
    rw [l]
  unfold cdOf
  rw [e]
/-- the law's end over a head by truths -/
theorem walkGX {l : PySem.W.OpenLaw} {n k : Nat} {q : Program} {loose : List Str} {XP : (Str → Option Value) → Heap → Prop} {YP : World → Heap → Prop} {d : DefRec} {x : Str}
    (hn : l.most = some n) (hn2 : n ≤ sizeLine) (hdf : d.params.defaults = []) (hr : Room k callerA) (himp : importsNone q = true)
    (F : ∀ (w : World) (mg : Str → Option Value) (fa : Addr) (h : Heap), YP w h → h.Ns mainGlobals mg → mg d.name = some (.ref fa) →
      ∃ K : Fg, K.In h ∧ ∃ (fd : FuncData) (cs : List (Addr × Addr)) (sp : Sp), (∀ t ∈ cs, h.get? t.2 = some (PySem.W.tabObj #[])) ∧ (∀ t ∈ cs, K.lookup t.2 = none) ∧ (∀ t ∈ cs, PySem.W.CodeHd h t.1 t.2) ∧
        (∀ (s : Shared) (u : Value), BindsTo s fd ⟨[u], []⟩ [(x, u)]) ∧
        (∀ (H : Hp) (a : Addr) (ns : List Int), ns.length ≤ n → (∀ t ∈ cs, H t.2 = some (.tbl #[])) → SqL K H a (ns.map V.int) → sp [.ref a] H (fun v _ => v = .bl true) fun _ _ _ => False) ∧
        ∀ base : Heap, K.In base → base.Ns mainGlobals mg → Sys base → (∀ t ∈ cs, LamX.TabB base mg t.1 t.2) → FnG l.prog w K mg base k fa fd [x] sp) :
    PySem.W.WalkO q loose XP YP l.row.toRowW d [] (fun f vs => PySem.call f vs) := by
  refine Att.attach_callB hn hdf fun w s0 s1 mg mb fa o pm cd doc a vs ns G Y ho hd hcd hmg hobj hints hlen hbits hg => ?_
  obtain ⟨K, KX, fd, cs, sp, h1, h2, h3, hb, hsp, hF⟩ := F w mg fa _ Y G.T.g hmg
  obtain ⟨mm, hmm, _⟩ := (G.T.seer himp).mods
  exact lawGT KX G.T.g G.T.b G.T.builtins G.T.nolimit ⟨mm, hmm⟩ hg h1 h2 h3 G.T.bmain hobj hints (Nat.le_trans hlen hn2) hr hF hb fun H hH hS => hsp H a ns hlen hH hS
end L2.HM

set_option Elab.async false
set_option linter.all false
set_option maxRecDepth 100000
set_option maxHeartbeats 0
namespace L2.HE6
open PySem PySem.W PyProof.Rows L2 L2.HM
abbrev R : PySem.W.OpenRow := PySem.W.OpenLaw.row PySem.Challenge.rw_holdhouse_k05_rows_that_are_none
def nm0 : List PySem.Str := ["_wall", "MOST_LINES", "MOST_STANDS", "MOST_KEYS", "MOST_ROWS", "MOST_CONDITIONS", "MOST_DEEDS", "LONGEST_WORD", "PARTING_WORDS", "HEARD_WORDS", "PLAIN_OCCASIONS", "KEY_OPENING", "LINE_CONDITIONS", "PHONE_CONDITIONS", "STAND_CONDITION_OPENING", "LINE_DEEDS", "PHONE_DEEDS", "KEY_DEEDS", "STAND_DEED_OPENING", "is_integer", "is_between", "is_word", "is_stand", "wrong_stand", "stand_words", "wrong_key", "wrong_row", "is_row", "row_parts", "is_occasion"]
def nm1 : List PySem.Str := ["is_condition", "condition_parts", "is_line_condition", "is_deed", "has_phone", "has_key", "names_one", "WrongValue", "WrongState", "NoAnswer", "InvalidNumber", "InvalidText", "InvalidName", "InvalidWish", "InvalidIndex", "InvalidPicture", "InvalidEvent", "InvalidHearing", "NotAHouse", "InvalidStands", "InvalidKeys", "InvalidRows", "WrongLine", "InvalidWeaving", "UnknownName", "InUse", "NothingToUndo", "TooMany", "Broken", "FEWEST_STANDS"]
def nm2 : List PySem.Str := ["House", "check_stands", "check_keys", "check_rows", "house_text", "read_first_line", "read_stands", "_law_pool", "_law_draw", "_law_pick", "_law_word", "_law_names", "_law_sounds", "_law_error", "_law_field", "_law_caught", "_law_is_word", "_law_is_row", "_law_loose_row", "_law_bent", "_law_right"]
def names : List PySem.Str := nm0 ++ nm1 ++ nm2
def hE (i : Nat) : Fg → Addr := He.dflAt ("House", some "__init__") i
def subB (n : PySem.Str) (K : Fg) : Bool := decide (PySem.W.subIn K (.ref (He.ga K n)) (.type "BaseException") = some true)
def ndB (l : List PySem.Str) (K : Fg) : Bool := decide (l.map (He.ga K)).Nodup
def fs0 : List Df := [⟨fun K => He.ga K "_law_pool", "_law_pool", "_law_pool", L2.K06.sLawPool, fun _ => []⟩,
  ⟨fun K => He.ga K "_law_draw", "_law_draw", "_law_draw", L2.K06.sLawDraw, fun _ => []⟩,
  ⟨fun K => He.ga K "_law_pick", "_law_pick", "_law_pick", L2.K06.sLawPick, fun _ => []⟩,
  ⟨fun K => He.ga K "_law_error", "_law_error", "_law_error", L2.K06.sLawError, fun _ => []⟩,
  ⟨fun K => He.ga K "_law_field", "_law_field", "_law_field", L2.K06.sLawField, fun _ => []⟩,
  ⟨fun K => He.ga K "_law_caught", "_law_caught", "_law_caught", L2.K06.sLawCaught, fun _ => []⟩,
  ⟨fun K => He.ga K "_law_word", "_law_word", "_law_word", L2.K06.sLawWord, fun _ => []⟩,
  ⟨fun K => He.ga K "_law_names", "_law_names", "_law_names", L2.K06.sLawNames, fun _ => []⟩,
  ⟨fun K => He.ga K "_law_is_row", "_law_is_row", "_law_is_row", L2.K06.sLawIsRow, fun _ => []⟩,
  ⟨fun K => He.ga K "_law_loose_row", "_law_loose_row", "_law_loose_row", L2.K06.sLawLooseRow, fun _ => []⟩,
  ⟨fun K => He.ga K "_law_bent", "_law_bent", "_law_bent", L2.K06.sLawBent, fun _ => []⟩,
  ⟨fun K => He.ga K "_law_right", "_law_right", "_law_right", L2.K06.sLawRight, fun _ => []⟩,
  ⟨fun K => He.ga K "law", "law", "law", L2.K06.sLaw, fun _ => []⟩,
  ⟨fun K => He.ga K "is_integer", "is_integer", "is_integer", L2.KC.sIsInteger, fun _ => []⟩,
  ⟨fun K => He.ga K "is_between", "is_between", "is_between", L2.KC.sIsBetween, fun _ => []⟩,
  ⟨fun K => He.ga K "is_word", "is_word", "is_word", L2.KC.sIsWord, fun _ => []⟩,
  ⟨fun K => He.ga K "is_stand", "is_stand", "is_stand", L2.KC.sIsStand, fun _ => []⟩,
  ⟨fun K => He.ga K "wrong_stand", "wrong_stand", "wrong_stand", L2.KC.sWrongStand, fun _ => []⟩,
  ⟨fun K => He.ga K "stand_words", "stand_words", "stand_words", L2.KC.sStandWords, fun _ => []⟩,
  ⟨fun K => He.ga K "wrong_key", "wrong_key", "wrong_key", L2.KC.sWrongKey, fun _ => []⟩]
def fs1 : List Df := [⟨fun K => He.ga K "wrong_row", "wrong_row", "wrong_row", L2.KC.sWrongRow, fun _ => []⟩,
  ⟨fun K => He.ga K "is_row", "is_row", "is_row", L2.KC.sIsRow, fun _ => []⟩,
  ⟨fun K => He.ga K "row_parts", "row_parts", "row_parts", L2.KC.sRowParts, fun _ => []⟩,
  ⟨fun K => He.ga K "is_occasion", "is_occasion", "is_occasion", L2.KC.sIsOccasion, fun _ => []⟩,
  ⟨fun K => He.ga K "is_condition", "is_condition", "is_condition", L2.KC.sIsCondition, fun _ => []⟩,
  ⟨fun K => He.ga K "condition_parts", "condition_parts", "condition_parts", L2.KC.sConditionParts, fun _ => []⟩,
  ⟨fun K => He.ga K "is_line_condition", "is_line_condition", "is_line_condition", L2.KC.sIsLineCondition, fun _ => []⟩,
  ⟨fun K => He.ga K "is_deed", "is_deed", "is_deed", L2.KC.sIsDeed, fun _ => []⟩,
  ⟨fun K => He.ga K "has_phone", "has_phone", "has_phone", L2.KC.sHasPhone, fun _ => []⟩,
  ⟨fun K => He.ga K "has_key", "has_key", "has_key", L2.KC.sHasKey, fun _ => []⟩,
  ⟨fun K => He.ga K "names_one", "names_one", "names_one", L2.KC.sNamesOne, fun _ => []⟩,
  ⟨fun K => He.ga K "check_stands", "check_stands", "check_stands", L2.KC.sCheckStands, fun _ => []⟩,
  ⟨fun K => He.ga K "check_keys", "check_keys", "check_keys", L2.KC.sCheckKeys, fun _ => []⟩,
  ⟨fun K => He.ga K "check_rows", "check_rows", "check_rows", L2.KC.sCheckRows, fun _ => []⟩,
  ⟨fun K => He.ga K "house_text", "house_text", "house_text", L2.KC.sHouseText, fun _ => []⟩,
  ⟨iniA "InvalidNumber", "__init__", "InvalidNumber.__init__", L2.KC.clsS 42 0, fun _ => []⟩,
  ⟨iniA "InvalidText", "__init__", "InvalidText.__init__", L2.KC.clsS 43 0, fun _ => []⟩,
  ⟨iniA "InvalidName", "__init__", "InvalidName.__init__", L2.KC.clsS 44 0, fun _ => []⟩,
  ⟨iniA "InvalidWish", "__init__", "InvalidWish.__init__", L2.KC.clsS 45 0, fun _ => []⟩,
  ⟨iniA "InvalidIndex", "__init__", "InvalidIndex.__init__", L2.KC.clsS 46 0, fun _ => []⟩]
def fs2 : List Df := [⟨iniA "InvalidPicture", "__init__", "InvalidPicture.__init__", L2.KC.clsS 47 0, fun _ => []⟩,
  ⟨iniA "InvalidEvent", "__init__", "InvalidEvent.__init__", L2.KC.clsS 48 0, fun _ => []⟩,
  ⟨iniA "InvalidHearing", "__init__", "InvalidHearing.__init__", L2.KC.clsS 49 0, fun _ => []⟩,
  ⟨iniA "NotAHouse", "__init__", "NotAHouse.__init__", L2.KC.clsS 50 0, fun _ => []⟩,
  ⟨iniA "InvalidStands", "__init__", "InvalidStands.__init__", L2.KC.clsS 51 0, fun _ => []⟩,
  ⟨iniA "InvalidKeys", "__init__", "InvalidKeys.__init__", L2.KC.clsS 52 0, fun _ => []⟩,
  ⟨iniA "InvalidRows", "__init__", "InvalidRows.__init__", L2.KC.clsS 53 0, fun _ => []⟩,
  ⟨iniA "WrongLine", "__init__", "WrongLine.__init__", L2.KC.clsS 54 0, fun _ => []⟩,
  ⟨iniA "InvalidWeaving", "__init__", "InvalidWeaving.__init__", L2.KC.clsS 55 0, fun _ => []⟩,
  ⟨iniA "UnknownName", "__init__", "UnknownName.__init__", L2.KC.clsS 56 0, fun _ => []⟩,
  ⟨iniA "InUse", "__init__", "InUse.__init__", L2.KC.clsS 57 0, fun _ => []⟩,
  ⟨iniA "NothingToUndo", "__init__", "NothingToUndo.__init__", L2.KC.clsS 58 0, fun _ => []⟩,
  ⟨iniA "TooMany", "__init__", "TooMany.__init__", L2.KC.clsS 59 0, fun _ => []⟩,
  ⟨iniA "Broken", "__init__", "Broken.__init__", L2.KC.clsS 60 0, fun _ => []⟩,
  ⟨gtA "House" "rows", "rows", "House.rows", L2.KC.sHouseRows, fun _ => []⟩,
  ⟨iniA "House", "__init__", "House.__init__", L2.KC.sHouseInit, fun K => [.ref (hE 0 K), .ref (hE 1 K)]⟩]
def fs : List Df := fs0 ++ fs1 ++ fs2
def fa0 : List He.Fa := [.free "len", .free "int", .free "abs", .free "divmod", .free "min", .free "max", .free "isinstance", .free "ValueError", .free "LookupError", .free "ArithmeticError", .free "bool", .free "str", .free "tuple", .free "all", .free "enumerate", .free "range", .free "repr", .glo "_law_pool", .glo "_law_draw", .glo "_law_pick", .glo "_law_error", .glo "_law_field", .glo "_law_caught", .glo "_law_word", .glo "_law_names", .glo "_law_is_row", .glo "_law_loose_row", .glo "_law_bent", .glo "_law_right", .glo "law"]
def fa1 : List He.Fa := [.glo "is_integer", .glo "is_between", .glo "is_word", .glo "is_stand", .glo "wrong_stand", .glo "stand_words", .glo "wrong_key", .glo "wrong_row", .glo "is_row", .glo "row_parts", .glo "is_occasion", .glo "is_condition", .glo "condition_parts", .glo "is_line_condition", .glo "is_deed", .glo "has_phone", .glo "has_key", .glo "names_one", .glo "check_stands", .glo "check_keys", .glo "check_rows", .glo "house_text", .glo "PARTING_WORDS", .glo "HEARD_WORDS", .glo "PLAIN_OCCASIONS", .glo "LINE_CONDITIONS", .glo "PHONE_CONDITIONS", .glo "LINE_DEEDS", .glo "PHONE_DEEDS", .glo "KEY_DEEDS"]
def fa2 : List He.Fa := [.int "MOST_CONDITIONS" 4, .int "MOST_DEEDS" 4, .int "LONGEST_WORD" 8, .int "MOST_LINES" 3, .int "MOST_STANDS" 6, .int "MOST_KEYS" 3, .int "MOST_ROWS" 16, .int "FEWEST_STANDS" 2, .str "KEY_OPENING" "key ", .str "STAND_CONDITION_OPENING" "in ", .str "STAND_DEED_OPENING" "stand "]
def fa : List He.Fa := fa0 ++ fa1 ++ fa2
def ex0 : List (Fg → Bool) := [exB "InvalidNumber" "WrongValue" "ValueError" "ValueError.__new__" [.type "ValueError", .type "Exception", .type "BaseException", .type "object"] ["given"],
  exB "InvalidText" "WrongValue" "ValueError" "ValueError.__new__" [.type "ValueError", .type "Exception", .type "BaseException", .type "object"] ["given"],
  exB "InvalidName" "WrongValue" "ValueError" "ValueError.__new__" [.type "ValueError", .type "Exception", .type "BaseException", .type "object"] ["given"],
  exB "InvalidWish" "WrongValue" "ValueError" "ValueError.__new__" [.type "ValueError", .type "Exception", .type "BaseException", .type "object"] ["given"],
  exB "InvalidIndex" "WrongValue" "ValueError" "ValueError.__new__" [.type "ValueError", .type "Exception", .type "BaseException", .type "object"] ["given"],
  exB "InvalidPicture" "WrongValue" "ValueError" "ValueError.__new__" [.type "ValueError", .type "Exception", .type "BaseException", .type "object"] ["given"],
  exB "InvalidEvent" "WrongValue" "ValueError" "ValueError.__new__" [.type "ValueError", .type "Exception", .type "BaseException", .type "object"] ["given"],
  exB "InvalidHearing" "WrongValue" "ValueError" "ValueError.__new__" [.type "ValueError", .type "Exception", .type "BaseException", .type "object"] ["given"],
  exB "NotAHouse" "WrongValue" "ValueError" "ValueError.__new__" [.type "ValueError", .type "Exception", .type "BaseException", .type "object"] ["given"],
  exB "InvalidStands" "WrongValue" "ValueError" "ValueError.__new__" [.type "ValueError", .type "Exception", .type "BaseException", .type "object"] ["index"],
  exB "InvalidKeys" "WrongValue" "ValueError" "ValueError.__new__" [.type "ValueError", .type "Exception", .type "BaseException", .type "object"] ["index"],
  exB "InvalidRows" "WrongValue" "ValueError" "ValueError.__new__" [.type "ValueError", .type "Exception", .type "BaseException", .type "object"] ["index"],
  exB "WrongLine" "WrongValue" "ValueError" "ValueError.__new__" [.type "ValueError", .type "Exception", .type "BaseException", .type "object"] ["index"],
  exB "InvalidWeaving" "WrongValue" "ValueError" "ValueError.__new__" [.type "ValueError", .type "Exception", .type "BaseException", .type "object"] ["index"],
  exB "UnknownName" "WrongState" "LookupError" "LookupError.__new__" [.type "LookupError", .type "Exception", .type "BaseException", .type "object"] ["given"],
  exB "InUse" "WrongState" "LookupError" "LookupError.__new__" [.type "LookupError", .type "Exception", .type "BaseException", .type "object"] ["index"],
  exB "NothingToUndo" "WrongState" "LookupError" "LookupError.__new__" [.type "LookupError", .type "Exception", .type "BaseException", .type "object"] [],
  exB "TooMany" "NoAnswer" "ArithmeticError" "ArithmeticError.__new__" [.type "ArithmeticError", .type "Exception", .type "BaseException", .type "object"] ["most"],
  exB "Broken" "NoAnswer" "ArithmeticError" "ArithmeticError.__new__" [.type "ArithmeticError", .type "Exception", .type "BaseException", .type "object"] ["index", "shown"],
  clB "WrongValue"]
def ex1 : List (Fg → Bool) := [clB "WrongState",
  clB "NoAnswer",
  subB "WrongValue",
  subB "WrongState",
  subB "NoAnswer",
  tpB L2.KC.wPartingWords fun K => He.ga K "PARTING_WORDS",
  tpB L2.KC.wHeardWords fun K => He.ga K "HEARD_WORDS",
  tpB L2.KC.wPlainOccasions fun K => He.ga K "PLAIN_OCCASIONS",
  tpB L2.KC.wLineConditions fun K => He.ga K "LINE_CONDITIONS",
  tpB L2.KC.wPhoneConditions fun K => He.ga K "PHONE_CONDITIONS",
  tpB L2.KC.wLineDeeds fun K => He.ga K "LINE_DEEDS",
  tpB L2.KC.wPhoneDeeds fun K => He.ga K "PHONE_DEEDS",
  tpB L2.KC.wKeyDeeds fun K => He.ga K "KEY_DEEDS",
  tpB [] (hE 0),
  tpB [] (hE 1),
  ownB "House" ["line_count", "stand_pairs", "key_names", "row_texts", "text"],
  prB "House" "rows",
  ndB ["InvalidNumber", "InvalidText", "InvalidName", "InvalidWish", "InvalidIndex", "InvalidPicture", "InvalidEvent", "InvalidHearing", "NotAHouse", "InvalidStands", "InvalidKeys", "InvalidRows", "WrongLine", "InvalidWeaving", "UnknownName", "InUse", "NothingToUndo", "TooMany", "Broken", "WrongValue", "WrongState", "NoAnswer"]]
def exl : List (Fg → Bool) := ex0 ++ ex1
def wn : Wn := ⟨fs, fun K => (fa.all fun f => f.ok K) && exl.all fun f => f K, [fun K => He.ga K "_law_right"]⟩
abbrev hk : PySem.W.Hook := hook 4000 wn
def ob (s : PySem.W.SharedT) : L2.HM.Seen := see 4000 wn (HandSHeadRun.getT s)
theorem ob_eq (s : PySem.W.SharedT) : ob s = hk.obs s.abs := hook_ob s
theorem run (w : World) : HandSHeadRun.RunEq R (PySem.W.view R.prog [85]) hk ob 8000 names w := by
  intro os
  kernel_rfl
end L2.HE6

set_option Elab.async false
set_option linter.all false
set_option maxRecDepth 100000
set_option maxHeartbeats 0
namespace L2.HE6
open PySem PySem.W PyProof.Rows L2 L2.HM PySem.Spec
theorem fin {prog : Program} {w : World} {h : Heap} {K : Fg} {mg : PySem.Str → Option Value} {fa : Addr} (c : Says wn h K) (G : h.Ns mainGlobals mg) (hmg : mg "law" = some (.ref fa)) :
    ∃ K : Fg, K.In h ∧ ∃ (fd : FuncData) (cs : List (Addr × Addr)) (sp : Sp), (∀ t ∈ cs, h.get? t.2 = some (PySem.W.tabObj #[])) ∧ (∀ t ∈ cs, K.lookup t.2 = none) ∧ (∀ t ∈ cs, PySem.W.CodeHd h t.1 t.2) ∧
        (∀ (s : Shared) (u : Value), BindsTo s fd ⟨[u], []⟩ [("_law_cells", u)]) ∧
        (∀ (H : Hp) (a : Addr) (ns : List Int), ns.length ≤ 63 → (∀ t ∈ cs, H t.2 = some (.tbl #[])) → SqL K H a (ns.map V.int) → sp [.ref a] H (fun v _ => v = .bl true) fun _ _ _ => False) ∧
        ∀ base : Heap, K.In base → base.Ns mainGlobals mg → L2.XK.Sys base → (∀ t ∈ cs, LamX.TabB base mg t.1 t.2) → L2.XK.FnG prog w K mg base 14 fa fd ["_law_cells"] sp := by
  have KX := c.inn
  have ce := c.ex
  have cf : (L2.HE6.fa.all fun f => f.ok K) = true := (Bool.and_eq_true_iff.mp ce).1
  have cx : (L2.HE6.exl.all fun f => f K) = true := (Bool.and_eq_true_iff.mp ce).2
  obtain ⟨fdLawPool, FLawPool⟩ := c.fn 0 (by rfl)
  have gLawPool : mg "_law_pool" = some (.ref (He.ga K "_law_pool")) := He.glo_ok KX G (L2.HM.all_at cf 17 (by rfl))
  obtain ⟨fdLawDraw, FLawDraw⟩ := c.fn 1 (by rfl)
  have gLawDraw : mg "_law_draw" = some (.ref (He.ga K "_law_draw")) := He.glo_ok KX G (L2.HM.all_at cf 18 (by rfl))
  obtain ⟨fdLawPick, FLawPick⟩ := c.fn 2 (by rfl)
  have gLawPick : mg "_law_pick" = some (.ref (He.ga K "_law_pick")) := He.glo_ok KX G (L2.HM.all_at cf 19 (by rfl))
  obtain ⟨fdLawError, FLawError⟩ := c.fn 3 (by rfl)
  have gLawError : mg "_law_error" = some (.ref (He.ga K "_law_error")) := He.glo_ok KX G (L2.HM.all_at cf 20 (by rfl))
  obtain ⟨fdLawField, FLawField⟩ := c.fn 4 (by rfl)
  have gLawField : mg "_law_field" = some (.ref (He.ga K "_law_field")) := He.glo_ok KX G (L2.HM.all_at cf 21 (by rfl))
  obtain ⟨fdLawCaught, FLawCaught⟩ := c.fn 5 (by rfl)
  have gLawCaught : mg "_law_caught" = some (.ref (He.ga K "_law_caught")) := He.glo_ok KX G (L2.HM.all_at cf 22 (by rfl))
  obtain ⟨fdLawWord, FLawWord⟩ := c.fn 6 (by rfl)
  have gLawWord : mg "_law_word" = some (.ref (He.ga K "_law_word")) := He.glo_ok KX G (L2.HM.all_at cf 23 (by rfl))
  obtain ⟨fdLawNames, FLawNames⟩ := c.fn 7 (by rfl)
  have gLawNames : mg "_law_names" = some (.ref (He.ga K "_law_names")) := He.glo_ok KX G (L2.HM.all_at cf 24 (by rfl))
  obtain ⟨fdLawIsRow, FLawIsRow⟩ := c.fn 8 (by rfl)
  have gLawIsRow : mg "_law_is_row" = some (.ref (He.ga K "_law_is_row")) := He.glo_ok KX G (L2.HM.all_at cf 25 (by rfl))
  obtain ⟨fdLawLooseRow, FLawLooseRow⟩ := c.fn 9 (by rfl)
  have gLawLooseRow : mg "_law_loose_row" = some (.ref (He.ga K "_law_loose_row")) := He.glo_ok KX G (L2.HM.all_at cf 26 (by rfl))
  obtain ⟨fdLawBent, FLawBent⟩ := c.fn 10 (by rfl)
  have gLawBent : mg "_law_bent" = some (.ref (He.ga K "_law_bent")) := He.glo_ok KX G (L2.HM.all_at cf 27 (by rfl))
  obtain ⟨fdLawRight, FLawRight⟩ := c.fn 11 (by rfl)
  have gLawRight : mg "_law_right" = some (.ref (He.ga K "_law_right")) := He.glo_ok KX G (L2.HM.all_at cf 28 (by rfl))
  obtain ⟨fdLaw, FLaw⟩ := c.fn 12 (by rfl)
  have gLaw : mg "law" = some (.ref (He.ga K "law")) := He.glo_ok KX G (L2.HM.all_at cf 29 (by rfl))
  obtain ⟨fdIsInteger, FIsInteger⟩ := c.fn 13 (by rfl)
  have gIsInteger : mg "is_integer" = some (.ref (He.ga K "is_integer")) := He.glo_ok KX G (L2.HM.all_at cf 30 (by rfl))
  obtain ⟨fdIsBetween, FIsBetween⟩ := c.fn 14 (by rfl)
  have gIsBetween : mg "is_between" = some (.ref (He.ga K "is_between")) := He.glo_ok KX G (L2.HM.all_at cf 31 (by rfl))
  obtain ⟨fdIsWord, FIsWord⟩ := c.fn 15 (by rfl)
  have gIsWord : mg "is_word" = some (.ref (He.ga K "is_word")) := He.glo_ok KX G (L2.HM.all_at cf 32 (by rfl))
  obtain ⟨fdIsStand, FIsStand⟩ := c.fn 16 (by rfl)
  have gIsStand : mg "is_stand" = some (.ref (He.ga K "is_stand")) := He.glo_ok KX G (L2.HM.all_at cf 33 (by rfl))
  obtain ⟨fdWrongStand, FWrongStand⟩ := c.fn 17 (by rfl)
  have gWrongStand : mg "wrong_stand" = some (.ref (He.ga K "wrong_stand")) := He.glo_ok KX G (L2.HM.all_at cf 34 (by rfl))
  obtain ⟨fdStandWords, FStandWords⟩ := c.fn 18 (by rfl)
  have gStandWords : mg "stand_words" = some (.ref (He.ga K "stand_words")) := He.glo_ok KX G (L2.HM.all_at cf 35 (by rfl))
  obtain ⟨fdWrongKey, FWrongKey⟩ := c.fn 19 (by rfl)
  have gWrongKey : mg "wrong_key" = some (.ref (He.ga K "wrong_key")) := He.glo_ok KX G (L2.HM.all_at cf 36 (by rfl))
  obtain ⟨fdWrongRow, FWrongRow⟩ := c.fn 20 (by rfl)
  have gWrongRow : mg "wrong_row" = some (.ref (He.ga K "wrong_row")) := He.glo_ok KX G (L2.HM.all_at cf 37 (by rfl))
  obtain ⟨fdIsRow, FIsRow⟩ := c.fn 21 (by rfl)
  have gIsRow : mg "is_row" = some (.ref (He.ga K "is_row")) := He.glo_ok KX G (L2.HM.all_at cf 38 (by rfl))
  obtain ⟨fdRowParts, FRowParts⟩ := c.fn 22 (by rfl)
  have gRowParts : mg "row_parts" = some (.ref (He.ga K "row_parts")) := He.glo_ok KX G (L2.HM.all_at cf 39 (by rfl))
  obtain ⟨fdIsOccasion, FIsOccasion⟩ := c.fn 23 (by rfl)
  have gIsOccasion : mg "is_occasion" = some (.ref (He.ga K "is_occasion")) := He.glo_ok KX G (L2.HM.all_at cf 40 (by rfl))
  obtain ⟨fdIsCondition, FIsCondition⟩ := c.fn 24 (by rfl)
  have gIsCondition : mg "is_condition" = some (.ref (He.ga K "is_condition")) := He.glo_ok KX G (L2.HM.all_at cf 41 (by rfl))
  obtain ⟨fdConditionParts, FConditionParts⟩ := c.fn 25 (by rfl)
  have gConditionParts : mg "condition_parts" = some (.ref (He.ga K "condition_parts")) := He.glo_ok KX G (L2.HM.all_at cf 42 (by rfl))
  obtain ⟨fdIsLineCondition, FIsLineCondition⟩ := c.fn 26 (by rfl)
  have gIsLineCondition : mg "is_line_condition" = some (.ref (He.ga K "is_line_condition")) := He.glo_ok KX G (L2.HM.all_at cf 43 (by rfl))
  obtain ⟨fdIsDeed, FIsDeed⟩ := c.fn 27 (by rfl)
  have gIsDeed : mg "is_deed" = some (.ref (He.ga K "is_deed")) := He.glo_ok KX G (L2.HM.all_at cf 44 (by rfl))
  obtain ⟨fdHasPhone, FHasPhone⟩ := c.fn 28 (by rfl)
  have gHasPhone : mg "has_phone" = some (.ref (He.ga K "has_phone")) := He.glo_ok KX G (L2.HM.all_at cf 45 (by rfl))
  obtain ⟨fdHasKey, FHasKey⟩ := c.fn 29 (by rfl)
  have gHasKey : mg "has_key" = some (.ref (He.ga K "has_key")) := He.glo_ok KX G (L2.HM.all_at cf 46 (by rfl))
  obtain ⟨fdNamesOne, FNamesOne⟩ := c.fn 30 (by rfl)
  have gNamesOne : mg "names_one" = some (.ref (He.ga K "names_one")) := He.glo_ok KX G (L2.HM.all_at cf 47 (by rfl))
  obtain ⟨fdCheckStands, FCheckStands⟩ := c.fn 31 (by rfl)
  have gCheckStands : mg "check_stands" = some (.ref (He.ga K "check_stands")) := He.glo_ok KX G (L2.HM.all_at cf 48 (by rfl))
  obtain ⟨fdCheckKeys, FCheckKeys⟩ := c.fn 32 (by rfl)
  have gCheckKeys : mg "check_keys" = some (.ref (He.ga K "check_keys")) := He.glo_ok KX G (L2.HM.all_at cf 49 (by rfl))
  obtain ⟨fdCheckRows, FCheckRows⟩ := c.fn 33 (by rfl)
  have gCheckRows : mg "check_rows" = some (.ref (He.ga K "check_rows")) := He.glo_ok KX G (L2.HM.all_at cf 50 (by rfl))
  obtain ⟨fdHouseText, FHouseText⟩ := c.fn 34 (by rfl)
  have gHouseText : mg "house_text" = some (.ref (He.ga K "house_text")) := He.glo_ok KX G (L2.HM.all_at cf 51 (by rfl))
  have b_len : mg "len" = none := He.free_ok KX G (L2.HM.all_at cf 0 (by rfl))
  have b_int : mg "int" = none := He.free_ok KX G (L2.HM.all_at cf 1 (by rfl))
  have b_abs : mg "abs" = none := He.free_ok KX G (L2.HM.all_at cf 2 (by rfl))
  have b_divmod : mg "divmod" = none := He.free_ok KX G (L2.HM.all_at cf 3 (by rfl))
  have b_min : mg "min" = none := He.free_ok KX G (L2.HM.all_at cf 4 (by rfl))
  have b_max : mg "max" = none := He.free_ok KX G (L2.HM.all_at cf 5 (by rfl))
  have b_isinstance : mg "isinstance" = none := He.free_ok KX G (L2.HM.all_at cf 6 (by rfl))
  have b_ValueError : mg "ValueError" = none := He.free_ok KX G (L2.HM.all_at cf 7 (by rfl))
  have b_LookupError : mg "LookupError" = none := He.free_ok KX G (L2.HM.all_at cf 8 (by rfl))
  have b_ArithmeticError : mg "ArithmeticError" = none := He.free_ok KX G (L2.HM.all_at cf 9 (by rfl))
  have b_bool : mg "bool" = none := He.free_ok KX G (L2.HM.all_at cf 10 (by rfl))
  have b_str : mg "str" = none := He.free_ok KX G (L2.HM.all_at cf 11 (by rfl))
  have b_tuple : mg "tuple" = none := He.free_ok KX G (L2.HM.all_at cf 12 (by rfl))
  have b_all : mg "all" = none := He.free_ok KX G (L2.HM.all_at cf 13 (by rfl))
  have b_enumerate : mg "enumerate" = none := He.free_ok KX G (L2.HM.all_at cf 14 (by rfl))
  have b_range : mg "range" = none := He.free_ok KX G (L2.HM.all_at cf 15 (by rfl))
  have b_repr : mg "repr" = none := He.free_ok KX G (L2.HM.all_at cf 16 (by rfl))
  obtain ⟨tMostConditions, mMostConditions⟩ := He.int_ok (x := "MOST_CONDITIONS") (i := 4) KX G (L2.HM.all_at cf 60 (by rfl))
  obtain ⟨tMostDeeds, mMostDeeds⟩ := He.int_ok (x := "MOST_DEEDS") (i := 4) KX G (L2.HM.all_at cf 61 (by rfl))
  obtain ⟨tLongestWord, mLongestWord⟩ := He.int_ok (x := "LONGEST_WORD") (i := 8) KX G (L2.HM.all_at cf 62 (by rfl))
  obtain ⟨tMostLines, mMostLines⟩ := He.int_ok (x := "MOST_LINES") (i := 3) KX G (L2.HM.all_at cf 63 (by rfl))
  obtain ⟨tMostStands, mMostStands⟩ := He.int_ok (x := "MOST_STANDS") (i := 6) KX G (L2.HM.all_at cf 64 (by rfl))
  obtain ⟨tMostKeys, mMostKeys⟩ := He.int_ok (x := "MOST_KEYS") (i := 3) KX G (L2.HM.all_at cf 65 (by rfl))
  obtain ⟨tMostRows, mMostRows⟩ := He.int_ok (x := "MOST_ROWS") (i := 16) KX G (L2.HM.all_at cf 66 (by rfl))
  obtain ⟨tFewestStands, mFewestStands⟩ := He.int_ok (x := "FEWEST_STANDS") (i := 2) KX G (L2.HM.all_at cf 67 (by rfl))
  obtain ⟨tKeyOpening, mKeyOpening⟩ := He.str_ok (x := "KEY_OPENING") (z := "key ") KX G (L2.HM.all_at cf 68 (by rfl))
  obtain ⟨tStandConditionOpening, mStandConditionOpening⟩ := He.str_ok (x := "STAND_CONDITION_OPENING") (z := "in ") KX G (L2.HM.all_at cf 69 (by rfl))
  obtain ⟨tStandDeedOpening, mStandDeedOpening⟩ := He.str_ok (x := "STAND_DEED_OPENING") (z := "stand ") KX G (L2.HM.all_at cf 70 (by rfl))
  have mPartingWords : mg "PARTING_WORDS" = some (.ref (He.ga K "PARTING_WORDS")) := He.glo_ok KX G (L2.HM.all_at cf 52 (by rfl))
  have wPartingWords := L2.HM.tpB_ok (a := fun K => He.ga K "PARTING_WORDS") (ws := L2.KC.wPartingWords) (by decide) (L2.HM.all_at cx 25 (by rfl))
  have mHeardWords : mg "HEARD_WORDS" = some (.ref (He.ga K "HEARD_WORDS")) := He.glo_ok KX G (L2.HM.all_at cf 53 (by rfl))
  have wHeardWords := L2.HM.tpB_ok (a := fun K => He.ga K "HEARD_WORDS") (ws := L2.KC.wHeardWords) (by decide) (L2.HM.all_at cx 26 (by rfl))
  have mPlainOccasions : mg "PLAIN_OCCASIONS" = some (.ref (He.ga K "PLAIN_OCCASIONS")) := He.glo_ok KX G (L2.HM.all_at cf 54 (by rfl))
  have wPlainOccasions := L2.HM.tpB_ok (a := fun K => He.ga K "PLAIN_OCCASIONS") (ws := L2.KC.wPlainOccasions) (by decide) (L2.HM.all_at cx 27 (by rfl))
  have mLineConditions : mg "LINE_CONDITIONS" = some (.ref (He.ga K "LINE_CONDITIONS")) := He.glo_ok KX G (L2.HM.all_at cf 55 (by rfl))
  have wLineConditions := L2.HM.tpB_ok (a := fun K => He.ga K "LINE_CONDITIONS") (ws := L2.KC.wLineConditions) (by decide) (L2.HM.all_at cx 28 (by rfl))
  have mPhoneConditions : mg "PHONE_CONDITIONS" = some (.ref (He.ga K "PHONE_CONDITIONS")) := He.glo_ok KX G (L2.HM.all_at cf 56 (by rfl))
  have wPhoneConditions := L2.HM.tpB_ok (a := fun K => He.ga K "PHONE_CONDITIONS") (ws := L2.KC.wPhoneConditions) (by decide) (L2.HM.all_at cx 29 (by rfl))
  have mLineDeeds : mg "LINE_DEEDS" = some (.ref (He.ga K "LINE_DEEDS")) := He.glo_ok KX G (L2.HM.all_at cf 57 (by rfl))
  have wLineDeeds := L2.HM.tpB_ok (a := fun K => He.ga K "LINE_DEEDS") (ws := L2.KC.wLineDeeds) (by decide) (L2.HM.all_at cx 30 (by rfl))
  have mPhoneDeeds : mg "PHONE_DEEDS" = some (.ref (He.ga K "PHONE_DEEDS")) := He.glo_ok KX G (L2.HM.all_at cf 58 (by rfl))
  have wPhoneDeeds := L2.HM.tpB_ok (a := fun K => He.ga K "PHONE_DEEDS") (ws := L2.KC.wPhoneDeeds) (by decide) (L2.HM.all_at cx 31 (by rfl))
  have mKeyDeeds : mg "KEY_DEEDS" = some (.ref (He.ga K "KEY_DEEDS")) := He.glo_ok KX G (L2.HM.all_at cf 59 (by rfl))
  have wKeyDeeds := L2.HM.tpB_ok (a := fun K => He.ga K "KEY_DEEDS") (ws := L2.KC.wKeyDeeds) (by decide) (L2.HM.all_at cx 32 (by rfl))
  obtain ⟨fdiInvalidNumber, FiInvalidNumber⟩ := c.fn 35 (by rfl)
  have c_InvalidNumber := L2.HM.gvOf (n := "InvalidNumber") (W := "WrongValue") (B := "ValueError") (newId := "ValueError.__new__") (initId := "ValueError.__init__") (bm := [.type "ValueError", .type "Exception", .type "BaseException", .type "object"]) KX G PySem.F.excBase_ValueError PySem.F.store_ValueError (L2.HM.all_at cx 0 (by rfl)) FiInvalidNumber (by rfl) (by rfl) (by rfl)
  obtain ⟨fdiInvalidText, FiInvalidText⟩ := c.fn 36 (by rfl)
  have c_InvalidText := L2.HM.gvOf (n := "InvalidText") (W := "WrongValue") (B := "ValueError") (newId := "ValueError.__new__") (initId := "ValueError.__init__") (bm := [.type "ValueError", .type "Exception", .type "BaseException", .type "object"]) KX G PySem.F.excBase_ValueError PySem.F.store_ValueError (L2.HM.all_at cx 1 (by rfl)) FiInvalidText (by rfl) (by rfl) (by rfl)
  obtain ⟨fdiInvalidName, FiInvalidName⟩ := c.fn 37 (by rfl)
  have c_InvalidName := L2.HM.gvOf (n := "InvalidName") (W := "WrongValue") (B := "ValueError") (newId := "ValueError.__new__") (initId := "ValueError.__init__") (bm := [.type "ValueError", .type "Exception", .type "BaseException", .type "object"]) KX G PySem.F.excBase_ValueError PySem.F.store_ValueError (L2.HM.all_at cx 2 (by rfl)) FiInvalidName (by rfl) (by rfl) (by rfl)
  obtain ⟨fdiInvalidWish, FiInvalidWish⟩ := c.fn 38 (by rfl)
  have c_InvalidWish := L2.HM.gvOf (n := "InvalidWish") (W := "WrongValue") (B := "ValueError") (newId := "ValueError.__new__") (initId := "ValueError.__init__") (bm := [.type "ValueError", .type "Exception", .type "BaseException", .type "object"]) KX G PySem.F.excBase_ValueError PySem.F.store_ValueError (L2.HM.all_at cx 3 (by rfl)) FiInvalidWish (by rfl) (by rfl) (by rfl)
  obtain ⟨fdiInvalidIndex, FiInvalidIndex⟩ := c.fn 39 (by rfl)
  have c_InvalidIndex := L2.HM.gvOf (n := "InvalidIndex") (W := "WrongValue") (B := "ValueError") (newId := "ValueError.__new__") (initId := "ValueError.__init__") (bm := [.type "ValueError", .type "Exception", .type "BaseException", .type "object"]) KX G PySem.F.excBase_ValueError PySem.F.store_ValueError (L2.HM.all_at cx 4 (by rfl)) FiInvalidIndex (by rfl) (by rfl) (by rfl)
  obtain ⟨fdiInvalidPicture, FiInvalidPicture⟩ := c.fn 40 (by rfl)
  have c_InvalidPicture := L2.HM.gvOf (n := "InvalidPicture") (W := "WrongValue") (B := "ValueError") (newId := "ValueError.__new__") (initId := "ValueError.__init__") (bm := [.type "ValueError", .type "Exception", .type "BaseException", .type "object"]) KX G PySem.F.excBase_ValueError PySem.F.store_ValueError (L2.HM.all_at cx 5 (by rfl)) FiInvalidPicture (by rfl) (by rfl) (by rfl)
  obtain ⟨fdiInvalidEvent, FiInvalidEvent⟩ := c.fn 41 (by rfl)
  have c_InvalidEvent := L2.HM.gvOf (n := "InvalidEvent") (W := "WrongValue") (B := "ValueError") (newId := "ValueError.__new__") (initId := "ValueError.__init__") (bm := [.type "ValueError", .type "Exception", .type "BaseException", .type "object"]) KX G PySem.F.excBase_ValueError PySem.F.store_ValueError (L2.HM.all_at cx 6 (by rfl)) FiInvalidEvent (by rfl) (by rfl) (by rfl)
  obtain ⟨fdiInvalidHearing, FiInvalidHearing⟩ := c.fn 42 (by rfl)
  have c_InvalidHearing := L2.HM.gvOf (n := "InvalidHearing") (W := "WrongValue") (B := "ValueError") (newId := "ValueError.__new__") (initId := "ValueError.__init__") (bm := [.type "ValueError", .type "Exception", .type "BaseException", .type "object"]) KX G PySem.F.excBase_ValueError PySem.F.store_ValueError (L2.HM.all_at cx 7 (by rfl)) FiInvalidHearing (by rfl) (by rfl) (by rfl)
  obtain ⟨fdiNotAHouse, FiNotAHouse⟩ := c.fn 43 (by rfl)
  have c_NotAHouse := L2.HM.gvOf (n := "NotAHouse") (W := "WrongValue") (B := "ValueError") (newId := "ValueError.__new__") (initId := "ValueError.__init__") (bm := [.type "ValueError", .type "Exception", .type "BaseException", .type "object"]) KX G PySem.F.excBase_ValueError PySem.F.store_ValueError (L2.HM.all_at cx 8 (by rfl)) FiNotAHouse (by rfl) (by rfl) (by rfl)
  obtain ⟨fdiInvalidStands, FiInvalidStands⟩ := c.fn 44 (by rfl)
  have c_InvalidStands := L2.HM.ixOf (n := "InvalidStands") (W := "WrongValue") (B := "ValueError") (newId := "ValueError.__new__") (initId := "ValueError.__init__") (bm := [.type "ValueError", .type "Exception", .type "BaseException", .type "object"]) KX G PySem.F.excBase_ValueError PySem.F.store_ValueError (L2.HM.all_at cx 9 (by rfl)) FiInvalidStands (by rfl) (by rfl) (by rfl)
  obtain ⟨fdiInvalidKeys, FiInvalidKeys⟩ := c.fn 45 (by rfl)
  have c_InvalidKeys := L2.HM.ixOf (n := "InvalidKeys") (W := "WrongValue") (B := "ValueError") (newId := "ValueError.__new__") (initId := "ValueError.__init__") (bm := [.type "ValueError", .type "Exception", .type "BaseException", .type "object"]) KX G PySem.F.excBase_ValueError PySem.F.store_ValueError (L2.HM.all_at cx 10 (by rfl)) FiInvalidKeys (by rfl) (by rfl) (by rfl)
  obtain ⟨fdiInvalidRows, FiInvalidRows⟩ := c.fn 46 (by rfl)
  have c_InvalidRows := L2.HM.ixOf (n := "InvalidRows") (W := "WrongValue") (B := "ValueError") (newId := "ValueError.__new__") (initId := "ValueError.__init__") (bm := [.type "ValueError", .type "Exception", .type "BaseException", .type "object"]) KX G PySem.F.excBase_ValueError PySem.F.store_ValueError (L2.HM.all_at cx 11 (by rfl)) FiInvalidRows (by rfl) (by rfl) (by rfl)
  obtain ⟨fdiWrongLine, FiWrongLine⟩ := c.fn 47 (by rfl)
  have c_WrongLine := L2.HM.ixOf (n := "WrongLine") (W := "WrongValue") (B := "ValueError") (newId := "ValueError.__new__") (initId := "ValueError.__init__") (bm := [.type "ValueError", .type "Exception", .type "BaseException", .type "object"]) KX G PySem.F.excBase_ValueError PySem.F.store_ValueError (L2.HM.all_at cx 12 (by rfl)) FiWrongLine (by rfl) (by rfl) (by rfl)
  obtain ⟨fdiInvalidWeaving, FiInvalidWeaving⟩ := c.fn 48 (by rfl)
  have c_InvalidWeaving := L2.HM.ixOf (n := "InvalidWeaving") (W := "WrongValue") (B := "ValueError") (newId := "ValueError.__new__") (initId := "ValueError.__init__") (bm := [.type "ValueError", .type "Exception", .type "BaseException", .type "object"]) KX G PySem.F.excBase_ValueError PySem.F.store_ValueError (L2.HM.all_at cx 13 (by rfl)) FiInvalidWeaving (by rfl) (by rfl) (by rfl)
  obtain ⟨fdiUnknownName, FiUnknownName⟩ := c.fn 49 (by rfl)
  have c_UnknownName := L2.HM.gvOf (n := "UnknownName") (W := "WrongState") (B := "LookupError") (newId := "LookupError.__new__") (initId := "LookupError.__init__") (bm := [.type "LookupError", .type "Exception", .type "BaseException", .type "object"]) KX G PySem.F.excBase_LookupError PySem.F.store_LookupError (L2.HM.all_at cx 14 (by rfl)) FiUnknownName (by rfl) (by rfl) (by rfl)
  obtain ⟨fdiInUse, FiInUse⟩ := c.fn 50 (by rfl)
  have c_InUse := L2.HM.ixOf (n := "InUse") (W := "WrongState") (B := "LookupError") (newId := "LookupError.__new__") (initId := "LookupError.__init__") (bm := [.type "LookupError", .type "Exception", .type "BaseException", .type "object"]) KX G PySem.F.excBase_LookupError PySem.F.store_LookupError (L2.HM.all_at cx 15 (by rfl)) FiInUse (by rfl) (by rfl) (by rfl)
  obtain ⟨fdiNothingToUndo, FiNothingToUndo⟩ := c.fn 51 (by rfl)
  have c_NothingToUndo := L2.HM.noOf (n := "NothingToUndo") (W := "WrongState") (B := "LookupError") (newId := "LookupError.__new__") (initId := "LookupError.__init__") (bm := [.type "LookupError", .type "Exception", .type "BaseException", .type "object"]) KX G PySem.F.excBase_LookupError PySem.F.store_LookupError (L2.HM.all_at cx 16 (by rfl)) FiNothingToUndo (by rfl) (by rfl) (by rfl)
  obtain ⟨fdiTooMany, FiTooMany⟩ := c.fn 52 (by rfl)
  have c_TooMany := L2.HM.moOf (n := "TooMany") (W := "NoAnswer") (B := "ArithmeticError") (newId := "ArithmeticError.__new__") (initId := "ArithmeticError.__init__") (bm := [.type "ArithmeticError", .type "Exception", .type "BaseException", .type "object"]) KX G PySem.F.excBase_ArithmeticError PySem.F.store_ArithmeticError (L2.HM.all_at cx 17 (by rfl)) FiTooMany (by rfl) (by rfl) (by rfl)
  obtain ⟨fdiBroken, FiBroken⟩ := c.fn 53 (by rfl)
  have c_Broken := L2.HM.brOf (n := "Broken") (W := "NoAnswer") (B := "ArithmeticError") (newId := "ArithmeticError.__new__") (initId := "ArithmeticError.__init__") (bm := [.type "ArithmeticError", .type "Exception", .type "BaseException", .type "object"]) KX G PySem.F.excBase_ArithmeticError PySem.F.store_ArithmeticError (L2.HM.all_at cx 18 (by rfl)) FiBroken (by rfl) (by rfl) (by rfl)
  have c_WrongValue := L2.HM.clB_ok (n := "WrongValue") KX G (L2.HM.all_at cx 19 (by rfl))
  have s_WrongValue : PySem.W.subIn K (.ref (He.ga K "WrongValue")) (.type "BaseException") = some true := of_decide_eq_true (L2.HM.all_at cx 22 (by rfl))
  have c_WrongState := L2.HM.clB_ok (n := "WrongState") KX G (L2.HM.all_at cx 20 (by rfl))
  have s_WrongState : PySem.W.subIn K (.ref (He.ga K "WrongState")) (.type "BaseException") = some true := of_decide_eq_true (L2.HM.all_at cx 23 (by rfl))
  have c_NoAnswer := L2.HM.clB_ok (n := "NoAnswer") KX G (L2.HM.all_at cx 21 (by rfl))
  have s_NoAnswer : PySem.W.subIn K (.ref (He.ga K "NoAnswer")) (.type "BaseException") = some true := of_decide_eq_true (L2.HM.all_at cx 24 (by rfl))
  obtain ⟨c_House, cl_House, na_House, mk_House⟩ := L2.HM.ownB_ok (n := "House") (fl := ["line_count", "stand_pairs", "key_names", "row_texts", "text"]) KX G (L2.HM.all_at cx 35 (by rfl))
  obtain ⟨fdInit, in_House⟩ := c.def_ 55 (by rfl)
  have e1_House := L2.HM.tpB_ok (a := L2.HE6.hE 0) (ws := []) (by decide) (L2.HM.all_at cx 33 (by rfl))
  have e2_House := L2.HM.tpB_ok (a := L2.HE6.hE 1) (ws := []) (by decide) (L2.HM.all_at cx 34 (by rfl))
  obtain ⟨fdgRows, FgRows⟩ := c.fn 54 (by rfl)
  have g_Rows := L2.HM.gtOf (n := "House") (f := "rows") (L2.HM.all_at cx 36 (by rfl)) FgRows (FgRows.binds (ps := ["self"]) (by intro _ _ _ _ _ _ us hl; exact (match us, hl with | [_], _ => rfl)))
  have nd0 : ([("InvalidNumber" : PySem.Str), ("InvalidText" : PySem.Str), ("InvalidName" : PySem.Str), ("InvalidWish" : PySem.Str), ("InvalidIndex" : PySem.Str), ("InvalidPicture" : PySem.Str), ("InvalidEvent" : PySem.Str), ("InvalidHearing" : PySem.Str), ("NotAHouse" : PySem.Str), ("InvalidStands" : PySem.Str), ("InvalidKeys" : PySem.Str), ("InvalidRows" : PySem.Str), ("WrongLine" : PySem.Str), ("InvalidWeaving" : PySem.Str), ("UnknownName" : PySem.Str), ("InUse" : PySem.Str), ("NothingToUndo" : PySem.Str), ("TooMany" : PySem.Str), ("Broken" : PySem.Str), ("WrongValue" : PySem.Str), ("WrongState" : PySem.Str), ("NoAnswer" : PySem.Str)].map (He.ga K)).Nodup := of_decide_eq_true (L2.HM.all_at cx 37 (by rfl))
  have T0 : L2.K06.Txt K mg { LawPool := _, fdLawPool := _, LawDraw := _, fdLawDraw := _, LawPick := _, fdLawPick := _, LawError := _, fdLawError := _, LawField := _, fdLawField := _, InvalidNumber := _, InvalidText := _, InvalidName := _, InvalidWish := _, InvalidIndex := _, InvalidPicture := _, InvalidEvent := _, InvalidHearing := _, NotAHouse := _, InvalidStands := _, InvalidKeys := _, InvalidRows := _, WrongLine := _, InvalidWeaving := _, UnknownName := _, InUse := _, NothingToUndo := _, TooMany := _, Broken := _, WrongValue := _, WrongState := _, NoAnswer := _, iInvalidNumber := _, iInvalidText := _, iInvalidName := _, iInvalidWish := _, iInvalidIndex := _, iInvalidPicture := _, iInvalidEvent := _, iInvalidHearing := _, iNotAHouse := _, iInvalidStands := _, iInvalidKeys := _, iInvalidRows := _, iWrongLine := _, iInvalidWeaving := _, iUnknownName := _, iInUse := _, iNothingToUndo := _, iTooMany := _, iBroken := _ } := { gLawPool := gLawPool, kLawPool := FLawPool.kp, fLawPool := FLawPool, bLawPool := FLawPool.binds (ps := ["_law_cells", "_law_turn"]) (by intro _ _ _ _ _ _ us hl; exact (match us, hl with | [_, _], _ => rfl)), gLawDraw := gLawDraw, kLawDraw := FLawDraw.kp, fLawDraw := FLawDraw, bLawDraw := FLawDraw.binds (ps := ["_law_pool_here", "_law_many"]) (by intro _ _ _ _ _ _ us hl; exact (match us, hl with | [_, _], _ => rfl)), gLawPick := gLawPick, kLawPick := FLawPick.kp, fLawPick := FLawPick, bLawPick := FLawPick.binds (ps := ["_law_pool_here", "_law_things"]) (by intro _ _ _ _ _ _ us hl; exact (match us, hl with | [_, _], _ => rfl)), gLawError := gLawError, kLawError := FLawError.kp, fLawError := FLawError, bLawError := FLawError.binds (ps := ["_law_e"]) (by intro _ _ _ _ _ _ us hl; exact (match us, hl with | [_], _ => rfl)), gLawField := gLawField, kLawField := FLawField.kp, fLawField := FLawField, bLawField := FLawField.binds (ps := ["_law_e", "_law_at"]) (by intro _ _ _ _ _ _ us hl; exact (match us, hl with | [_, _], _ => rfl)), blen := b_len, bint := b_int, babs := b_abs, bdivmod := b_divmod, bmin := b_min, bmax := b_max, bisinstance := b_isinstance, bValueError := b_ValueError, bLookupError := b_LookupError, bArithmeticError := b_ArithmeticError, gInvalidNumber := c_InvalidNumber.g, gInvalidText := c_InvalidText.g, gInvalidName := c_InvalidName.g, gInvalidWish := c_InvalidWish.g, gInvalidIndex := c_InvalidIndex.g, gInvalidPicture := c_InvalidPicture.g, gInvalidEvent := c_InvalidEvent.g, gInvalidHearing := c_InvalidHearing.g, gNotAHouse := c_NotAHouse.g, gInvalidStands := c_InvalidStands.g, gInvalidKeys := c_InvalidKeys.g, gInvalidRows := c_InvalidRows.g, gWrongLine := c_WrongLine.g, gInvalidWeaving := c_InvalidWeaving.g, gUnknownName := c_UnknownName.g, gInUse := c_InUse.g, gNothingToUndo := c_NothingToUndo.g, gTooMany := c_TooMany.g, gBroken := c_Broken.g, gWrongValue := c_WrongValue.g, gWrongState := c_WrongState.g, gNoAnswer := c_NoAnswer.g, cInvalidNumber := c_InvalidNumber.c, cInvalidText := c_InvalidText.c, cInvalidName := c_InvalidName.c, cInvalidWish := c_InvalidWish.c, cInvalidIndex := c_InvalidIndex.c, cInvalidPicture := c_InvalidPicture.c, cInvalidEvent := c_InvalidEvent.c, cInvalidHearing := c_InvalidHearing.c, cNotAHouse := c_NotAHouse.c, cInvalidStands := c_InvalidStands.c, cInvalidKeys := c_InvalidKeys.c, cInvalidRows := c_InvalidRows.c, cWrongLine := c_WrongLine.c, cInvalidWeaving := c_InvalidWeaving.c, cUnknownName := c_UnknownName.c, cInUse := c_InUse.c, cNothingToUndo := c_NothingToUndo.c, cTooMany := c_TooMany.c, cBroken := c_Broken.c, sort := L2.K06.sortOf c_InvalidNumber.s c_InvalidText.s c_InvalidName.s c_InvalidWish.s c_InvalidIndex.s c_InvalidPicture.s c_InvalidEvent.s c_InvalidHearing.s c_NotAHouse.s c_InvalidStands.s c_InvalidKeys.s c_InvalidRows.s c_WrongLine.s c_InvalidWeaving.s c_UnknownName.s c_InUse.s c_NothingToUndo.s c_TooMany.s c_Broken.s, cls := L2.K06.ownsOf c_InvalidNumber.o c_InvalidText.o c_InvalidName.o c_InvalidWish.o c_InvalidIndex.o c_InvalidPicture.o c_InvalidEvent.o c_InvalidHearing.o c_NotAHouse.o c_InvalidStands.o c_InvalidKeys.o c_InvalidRows.o c_WrongLine.o c_InvalidWeaving.o c_UnknownName.o c_InUse.o c_NothingToUndo.o c_TooMany.o c_Broken.o c_WrongValue.o c_WrongState.o c_NoAnswer.o, nd := nd0 }
  have TO : L2.KC.TxtO K mg { IsInteger := _, fdIsInteger := _, IsBetween := _, fdIsBetween := _, IsWord := _, fdIsWord := _, IsStand := _, fdIsStand := _, WrongStand := _, fdWrongStand := _, StandWords := _, fdStandWords := _, WrongKey := _, fdWrongKey := _, WrongRow := _, fdWrongRow := _, IsRow := _, fdIsRow := _, RowParts := _, fdRowParts := _, IsOccasion := _, fdIsOccasion := _, IsCondition := _, fdIsCondition := _, ConditionParts := _, fdConditionParts := _, IsLineCondition := _, fdIsLineCondition := _, IsDeed := _, fdIsDeed := _, HasPhone := _, fdHasPhone := _, HasKey := _, fdHasKey := _, NamesOne := _, fdNamesOne := _, tMostConditions := _, tMostDeeds := _, tLongestWord := _, tMostLines := _, tMostStands := _, tMostKeys := _, tMostRows := _, tFewestStands := _, rPartingWords := _, rHeardWords := _, rPlainOccasions := _, rLineConditions := _, rPhoneConditions := _, rLineDeeds := _, rPhoneDeeds := _, rKeyDeeds := _, tKeyOpening := _, tStandConditionOpening := _, tStandDeedOpening := _ } { CheckStands := _, fdCheckStands := _, CheckKeys := _, fdCheckKeys := _, CheckRows := _, fdCheckRows := _, InvalidStands := _, iInvalidStands := _, InvalidKeys := _, iInvalidKeys := _, InvalidRows := _, iInvalidRows := _, InvalidNumber := _, iInvalidNumber := _ } { House := _, Init := _, fdInit := _, Text := _, fdText := _, E1 := _, E2 := _ } := { gIsInteger := gIsInteger, kIsInteger := FIsInteger.kp, fIsInteger := FIsInteger, bIsInteger := FIsInteger.binds (ps := ["thing"]) (by intro _ _ _ _ _ _ us hl; exact (match us, hl with | [_], _ => rfl)), gIsBetween := gIsBetween, kIsBetween := FIsBetween.kp, fIsBetween := FIsBetween, bIsBetween := FIsBetween.binds (ps := ["thing", "least", "most"]) (by intro _ _ _ _ _ _ us hl; exact (match us, hl with | [_, _, _], _ => rfl)), gIsWord := gIsWord, kIsWord := FIsWord.kp, fIsWord := FIsWord, bIsWord := FIsWord.binds (ps := ["thing"]) (by intro _ _ _ _ _ _ us hl; exact (match us, hl with | [_], _ => rfl)), gIsStand := gIsStand, kIsStand := FIsStand.kp, fIsStand := FIsStand, bIsStand := FIsStand.binds (ps := ["thing"]) (by intro _ _ _ _ _ _ us hl; exact (match us, hl with | [_], _ => rfl)), gWrongStand := gWrongStand, kWrongStand := FWrongStand.kp, fWrongStand := FWrongStand, bWrongStand := FWrongStand.binds (ps := ["stands"]) (by intro _ _ _ _ _ _ us hl; exact (match us, hl with | [_], _ => rfl)), gStandWords := gStandWords, kStandWords := FStandWords.kp, fStandWords := FStandWords, bStandWords := FStandWords.binds (ps := ["stands"]) (by intro _ _ _ _ _ _ us hl; exact (match us, hl with | [_], _ => rfl)), gWrongKey := gWrongKey, kWrongKey := FWrongKey.kp, fWrongKey := FWrongKey, bWrongKey := FWrongKey.binds (ps := ["keys"]) (by intro _ _ _ _ _ _ us hl; exact (match us, hl with | [_], _ => rfl)), gWrongRow := gWrongRow, kWrongRow := FWrongRow.kp, fWrongRow := FWrongRow, bWrongRow := FWrongRow.binds (ps := ["rows", "stands", "keys"]) (by intro _ _ _ _ _ _ us hl; exact (match us, hl with | [_, _, _], _ => rfl)), gIsRow := gIsRow, kIsRow := FIsRow.kp, fIsRow := FIsRow, bIsRow := FIsRow.binds (ps := ["thing", "stands", "keys"]) (by intro _ _ _ _ _ _ us hl; exact (match us, hl with | [_, _, _], _ => rfl)), gRowParts := gRowParts, kRowParts := FRowParts.kp, fRowParts := FRowParts, bRowParts := FRowParts.binds (ps := ["row"]) (by intro _ _ _ _ _ _ us hl; exact (match us, hl with | [_], _ => rfl)), gIsOccasion := gIsOccasion, kIsOccasion := FIsOccasion.kp, fIsOccasion := FIsOccasion, bIsOccasion := FIsOccasion.binds (ps := ["text", "keys"]) (by intro _ _ _ _ _ _ us hl; exact (match us, hl with | [_, _], _ => rfl)), gIsCondition := gIsCondition, kIsCondition := FIsCondition.kp, fIsCondition := FIsCondition, bIsCondition := FIsCondition.binds (ps := ["text", "occasion", "words"]) (by intro _ _ _ _ _ _ us hl; exact (match us, hl with | [_, _, _], _ => rfl)), gConditionParts := gConditionParts, kConditionParts := FConditionParts.kp, fConditionParts := FConditionParts, bConditionParts := FConditionParts.binds (ps := ["text"]) (by intro _ _ _ _ _ _ us hl; exact (match us, hl with | [_], _ => rfl)), gIsLineCondition := gIsLineCondition, kIsLineCondition := FIsLineCondition.kp, fIsLineCondition := FIsLineCondition, bIsLineCondition := FIsLineCondition.binds (ps := ["plain", "words"]) (by intro _ _ _ _ _ _ us hl; exact (match us, hl with | [_, _], _ => rfl)), gIsDeed := gIsDeed, kIsDeed := FIsDeed.kp, fIsDeed := FIsDeed, bIsDeed := FIsDeed.binds (ps := ["text", "occasion", "words"]) (by intro _ _ _ _ _ _ us hl; exact (match us, hl with | [_, _, _], _ => rfl)), gHasPhone := gHasPhone, kHasPhone := FHasPhone.kp, fHasPhone := FHasPhone, bHasPhone := FHasPhone.binds (ps := ["occasion"]) (by intro _ _ _ _ _ _ us hl; exact (match us, hl with | [_], _ => rfl)), gHasKey := gHasKey, kHasKey := FHasKey.kp, fHasKey := FHasKey, bHasKey := FHasKey.binds (ps := ["occasion"]) (by intro _ _ _ _ _ _ us hl; exact (match us, hl with | [_], _ => rfl)), gNamesOne := gNamesOne, kNamesOne := FNamesOne.kp, fNamesOne := FNamesOne, bNamesOne := FNamesOne.binds (ps := ["text", "opening", "words"]) (by intro _ _ _ _ _ _ us hl; exact (match us, hl with | [_, _, _], _ => rfl)), gCheckStands := gCheckStands, kCheckStands := FCheckStands.kp, fCheckStands := FCheckStands, bCheckStands := FCheckStands.binds (ps := ["stands"]) (by intro _ _ _ _ _ _ us hl; exact (match us, hl with | [_], _ => rfl)), gCheckKeys := gCheckKeys, kCheckKeys := FCheckKeys.kp, fCheckKeys := FCheckKeys, bCheckKeys := FCheckKeys.binds (ps := ["keys"]) (by intro _ _ _ _ _ _ us hl; exact (match us, hl with | [_], _ => rfl)), gCheckRows := gCheckRows, kCheckRows := FCheckRows.kp, fCheckRows := FCheckRows, bCheckRows := FCheckRows.binds (ps := ["rows", "stands", "keys"]) (by intro _ _ _ _ _ _ us hl; exact (match us, hl with | [_, _, _], _ => rfl)), blen := b_len, bisinstance := b_isinstance, bint := b_int, bbool := b_bool, bstr := b_str, btuple := b_tuple, ball := b_all, benumerate := b_enumerate, mgMostConditions := mMostConditions, mgMostDeeds := mMostDeeds, mgLongestWord := mLongestWord, mgMostLines := mMostLines, mgMostStands := mMostStands, mgMostKeys := mMostKeys, mgMostRows := mMostRows, mgFewestStands := mFewestStands, mgPartingWords := mPartingWords, mgHeardWords := mHeardWords, mgPlainOccasions := mPlainOccasions, mgLineConditions := mLineConditions, mgPhoneConditions := mPhoneConditions, mgLineDeeds := mLineDeeds, mgPhoneDeeds := mPhoneDeeds, mgKeyDeeds := mKeyDeeds, mgKeyOpening := mKeyOpening, mgStandConditionOpening := mStandConditionOpening, mgStandDeedOpening := mStandDeedOpening, wPartingWords := wPartingWords, wHeardWords := wHeardWords, wPlainOccasions := wPlainOccasions, wLineConditions := wLineConditions, wPhoneConditions := wPhoneConditions, wLineDeeds := wLineDeeds, wPhoneDeeds := wPhoneDeeds, wKeyDeeds := wKeyDeeds, gInvalidStands := c_InvalidStands.g, cInvalidStands := c_InvalidStands.c, rInvalidStands := L2.XK.raOf c_InvalidStands, gInvalidKeys := c_InvalidKeys.g, cInvalidKeys := c_InvalidKeys.c, rInvalidKeys := L2.XK.raOf c_InvalidKeys, gInvalidRows := c_InvalidRows.g, cInvalidRows := c_InvalidRows.c, rInvalidRows := L2.XK.raOf c_InvalidRows, gInvalidNumber := c_InvalidNumber.g, cInvalidNumber := c_InvalidNumber.c, rInvalidNumber := L2.XK.raOfGv c_InvalidNumber, tx := { gHouseText := gHouseText, kHouseText := FHouseText.kp, fHouseText := FHouseText, bHouseText := FHouseText.binds (ps := ["lines", "stands", "keys", "rows"]) (by intro _ _ _ _ _ _ us hl; exact (match us, hl with | [_, _, _, _], _ => rfl)) }, cl := cl_House, n1 := na_House _ (by simp), n2 := na_House _ (by simp), n3 := na_House _ (by simp), n4 := na_House _ (by simp), n5 := na_House _ (by simp), init := in_House, e1 := e1_House, e2 := e2_House, mkH := mk_House, gHouse := c_House.g }
  have TQ : L2.K06.TxtQ K mg _ { LawCaught := _, fdLawCaught := _, LawWord := _, fdLawWord := _, LawNames := _, fdLawNames := _, LawIsRow := _, fdLawIsRow := _, LawLooseRow := _, fdLawLooseRow := _, LawBent := _, fdLawBent := _, LawRight := _, fdLawRight := _, Law := _, fdLaw := _, c1 := _ } := { toTxt := T0, gLawCaught := gLawCaught, kLawCaught := FLawCaught.kp, fLawCaught := FLawCaught, bLawCaught := FLawCaught.binds (ps := ["_law_act"]) (by intro _ _ _ _ _ _ us hl; exact (match us, hl with | [_], _ => rfl)), gLawWord := gLawWord, kLawWord := FLawWord.kp, fLawWord := FLawWord, bLawWord := FLawWord.binds (ps := ["_law_pool_here", "_law_barred"]) (by intro _ _ _ _ _ _ us hl; exact (match us, hl with | [_, _], _ => rfl)), gLawNames := gLawNames, kLawNames := FLawNames.kp, fLawNames := FLawNames, bLawNames := FLawNames.binds (ps := ["_law_pool_here", "_law_many"]) (by intro _ _ _ _ _ _ us hl; exact (match us, hl with | [_, _], _ => rfl)), gLawIsRow := gLawIsRow, kLawIsRow := FLawIsRow.kp, fLawIsRow := FLawIsRow, bLawIsRow := FLawIsRow.binds (ps := ["_law_wording", "_law_names_here", "_law_tags"]) (by intro _ _ _ _ _ _ us hl; exact (match us, hl with | [_, _, _], _ => rfl)), gLawLooseRow := gLawLooseRow, kLawLooseRow := FLawLooseRow.kp, fLawLooseRow := FLawLooseRow, bLawLooseRow := FLawLooseRow.binds (ps := ["_law_pool_here", "_law_names_here", "_law_tags"]) (by intro _ _ _ _ _ _ us hl; exact (match us, hl with | [_, _, _], _ => rfl)), gLawBent := gLawBent, kLawBent := FLawBent.kp, fLawBent := FLawBent, bLawBent := FLawBent.binds (ps := ["_law_pool_here", "_law_wording"]) (by intro _ _ _ _ _ _ us hl; exact (match us, hl with | [_, _], _ => rfl)), gLawRight := gLawRight, kLawRight := FLawRight.kp, fLawRight := FLawRight, bLawRight := FLawRight.binds (ps := ["_law_pool_here"]) (by intro _ _ _ _ _ _ us hl; exact (match us, hl with | [_], _ => rfl)), gLaw := gLaw, kLaw := FLaw.kp, fLaw := FLaw, bLaw := FLaw.binds (ps := ["_law_cells"]) (by intro _ _ _ _ _ _ us hl; exact (match us, hl with | [_], _ => rfl)), brange := b_range, brepr := b_repr, bstr := b_str, btuple := b_tuple, cLawRight := L2.HM.cd_of FLawRight }
  have TG : L2.K06.TxtG K mg _ _ _ _ _ { r := _, pr := _, fr := _ } := { toTxtQ := TQ, ho := TO, gr := g_Rows, eR := rfl, c3 := L2.K06.catchOf T0 s_WrongValue s_WrongState s_NoAnswer }
  have eq := hmg.symm.trans gLaw
  cases eq
  have h1 : (fun K => He.ga K "_law_right") ∈ L2.HE6.wn.tf := List.mem_cons_self
  have hb := FLaw.binds (ps := ["_law_cells"]) (by intro _ _ _ _ _ _ us hl; exact (match us, hl with | [_], _ => rfl))
  refine ⟨K, L2.K06.lastOf (ts := [L2.HM.tbOf K (He.ga K "_law_right")]) KX (fun P hP => ?_) TG (PySem.W.codeHd_of_K KX (c.hd _ h1)) (by simp) (c.out _ h1) (fun s u => ?_)⟩
  · rw [List.mem_singleton.mp hP]; exact c.emp _ h1
  · obtain ⟨oc, od, kV, doc, pm, an, cdv, ct, osl, e, _⟩ := FLaw.ex
    show BindsTo s fdLaw _ _
    rw [e]
    exact PySem.BindsTo.of_eq (by rfl)
end L2.HE6
open PySem PySem.W PySem.Calls PyProof.Rows
set_option maxRecDepth 100000 in
set_option maxHeartbeats 0 in
theorem PySem.Challenge.cw_holdhouse_k05_rows_that_are_none_holds : PySem.Challenge.rw_holdhouse_k05_rows_that_are_none.Holds := by
  w_on; o_law
  refine HandSHeadRun.head_any (r := L2.HE6.R) (q := view L2.HE6.R.prog [85]) (H := L2.HE6.hk) (ob := L2.HE6.ob) (M := 8000) (loose := L2.HE6.names) (d := HandSHeadRun.topDef L2.HE6.R.prog 85) (kwd := []) L2.HE6.ob_eq
    (by kernel_rfl) (fun s => by kernel_rfl) L2.HE6.run (by kernel_rfl) (by kernel_rfl) (by kernel_rfl) (by rfl) (by first | assumption | decide +kernel) (by decide +kernel) ⟨rfl, rfl, rfl, rfl, rfl, by decide +kernel⟩ ?hw ?hc
  case hw => w_witness2
  case hc =>
    refine L2.HM.walkGX (l := PySem.Challenge.rw_holdhouse_k05_rows_that_are_none) (n := 63) (k := 14) (x := "_law_cells") rfl (by decide) (by kernel_rfl) ⟨rfl, by decide, by decide⟩ (by decide +kernel) ?F
    intro w mg fa h Y G hmg0
    obtain ⟨K, c⟩ := Y
    have hmg : mg ("law" : PySem.Str) = some (.ref fa) := by
      have e : (HandSHeadRun.topDef L2.HE6.R.prog 85).name = ("law" : PySem.Str) := by kernel_rfl
      rw [← e]
      exact hmg0
    exact L2.HE6.fin c G hmg

